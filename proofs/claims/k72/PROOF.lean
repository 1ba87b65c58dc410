import PyProof.Rows.All
import Wide.All
import OpenK.AllK
import Wide.FinOn
import KE.KStateDown
import HandS.ForMost
import HandS.More
import HandS.WordsExc
import HandS.Defaults
import HandS.Deep
import HandS.IsInst
import HandS.Evl
import HandS.Walk
import HandS.TupSets
import HandS.TupAny
import HandS.Conv
import PyProof.P3In
import HandS.SetFor
import HandS.Strs
import KE.GoesMore
import KE.GoesEnum
import HandS.ExcInit
import HandS.ExcField
import HandS.ExcOwn
import PyProof.NeKinds
import PyProof.EqKinds
import PyProof.FactsAll.subtypes_4
import PyProof.FactsAll.dict_1
import HandS.WideBits
import HandS.Wide
import HandS.DictComp
import HandS.Comp
import PyProof.Rows.SortShell
import HandS.Style
import HandS.Head0
import HandS.Head1
import HandS.Head2
import HandS.HeadEnd
import HandS.HeadHook1
import HandS.HeadHook2
import PySem.Challenge.RW_wishreels_k72_chains_judged
set_option Elab.async false
set_option linter.all false
set_option maxRecDepth 100000
set_option maxHeartbeats 2000000
namespace Wk
open PySem PySem.Spec PyProof.Rows L2 Evl
/-! data that stand in a heap -/
mutual
inductive Dq (G : Hp) : V → PyData → Prop
  | non : Dq G .non .none
  | bl (b : Bool) : Dq G (.bl b) (.bool b)
  | int (i : Int) : Dq G (.int i) (.int i)
  | str (x : Str) : Dq G (.str x) (.str x)
  | lst {a : Addr} {xs : List V} {ds : List PyData} : G a = some (.lst xs) → DqA G xs ds → Dq G (.ref a) (.list ds)
  | tup {a : Addr} {xs : List V} {ds : List PyData} : G a = some (.tup xs) → DqA G xs ds → Dq G (.ref a) (.tuple ds)
  | dic {a : Addr} : G a = some (.dK []) → Dq G (.ref a) (.dict [])
inductive DqA (G : Hp) : List V → List PyData → Prop
  | nil : DqA G [] []
  | cons {v : V} {vs : List V} {d : PyData} {ds : List PyData} : Dq G v d → DqA G vs ds → DqA G (v :: vs) (d :: ds)
end
mutual
theorem Dq.mono {G H : Hp} (e : Ex G H) : ∀ {d : PyData} {v : V}, Dq G v d → Dq H v d
  | .none, _, .non => .non
  | .bool _, _, .bl b => .bl b
  | .int _, _, .int i => .int i
  | .str _, _, .str x => .str x
  | .list _, _, .lst h a => .lst (e _ _ h) (DqA.mono e a)
  | .tuple _, _, .tup h a => .tup (e _ _ h) (DqA.mono e a)
  | .dict _, _, .dic h => .dic (e _ _ h)
theorem DqA.mono {G H : Hp} (e : Ex G H) : ∀ {ds : List PyData} {vs : List V}, DqA G vs ds → DqA H vs ds
  | [], _, .nil => .nil
  | _ :: _, _, .cons h t => .cons (Dq.mono e h) (DqA.mono e t)
end
mutual
theorem Dq.dp {K : PySem.W.Frag} {G : Hp} : ∀ {d : PyData} {v : V}, d.canLay0 = true → Dq G v d → Dp K G v d
  | .none, _, _, .non => .non
  | .bool _, _, _, .bl b => .bl b
  | .int _, _, _, .int i => .int i
  | .str _, _, _, .str x => .str x
  | .list ds, _, c, .lst h a => .lst (sq_of h) (DqA.dp (by simpa [PyData.canLay0] using c) a)
  | .tuple ds, _, c, .tup h a => .tup (st_of h) (DqA.dp (by simpa [PyData.canLay0] using c) a)
  | .dict _, _, c, .dic h => by simp [PyData.canLay0] at c
theorem DqA.dp {K : PySem.W.Frag} {G : Hp} : ∀ {ds : List PyData} {vs : List V}, PyData.canLayAll0 ds = true → DqA G vs ds → DpAll K G vs ds
  | [], _, _, .nil => .nil
  | d :: ds, _, c, .cons h t => by
    have c' : d.canLay0 = true ∧ PyData.canLayAll0 ds = true := by simpa [PyData.canLayAll0] using c
    exact .cons (Dq.dp c'.1 h) (DqA.dp c'.2 t)
end
theorem DqA.length {G : Hp} : ∀ {ds : List PyData} {vs : List V}, DqA G vs ds → vs.length = ds.length
  | [], _, .nil => rfl
  | _ :: _, _, .cons _ t => congrArg Nat.succ t.length
theorem DqA.get {G : Hp} : ∀ {ds : List PyData} {vs : List V} {i : Nat} {v : V}, DqA G vs ds → vs[i]? = some v → ∃ d, ds[i]? = some d ∧ Dq G v d
  | [], _, i, v, .nil, e => by simp at e
  | d :: _, _, 0, v, .cons h t, e => ⟨d, rfl, by simp at e; subst e; exact h⟩
  | _ :: _, _, i + 1, v, .cons h t, e => by
    obtain ⟨d, e1, e2⟩ := t.get (i := i) (by simpa using e)
    exact ⟨d, by simpa using e1, e2⟩
theorem DqA.at {G : Hp} {ds : List PyData} {vs : List V} {i : Nat} {d : PyData} (h : DqA G vs ds) (e : ds[i]? = some d) : ∃ v, vs[i]? = some v ∧ Dq G v d := by
  have hl := h.length
  obtain ⟨hi, _⟩ := List.getElem?_eq_some_iff.mp e
  have hv : vs[i]? = some (vs[i]'(by omega)) := List.getElem?_eq_getElem (by omega)
  obtain ⟨d', e1, e2⟩ := h.get hv
  rw [e] at e1
  cases e1
  exact ⟨_, hv, e2⟩
theorem DqA.append {G : Hp} : ∀ {ds es : List PyData} {vs us : List V}, DqA G vs ds → DqA G us es → DqA G (vs ++ us) (ds ++ es)
  | [], _, _, _, .nil, h => h
  | _ :: _, _, _, _, .cons h t, u => .cons h (t.append u)
theorem DqA.take {G : Hp} : ∀ {ds : List PyData} {vs : List V} (n : Nat), DqA G vs ds → DqA G (vs.take n) (ds.take n)
  | [], _, n, .nil => by simp; exact .nil
  | _ :: _, _, 0, .cons h t => .nil
  | _ :: _, _, n + 1, .cons h t => .cons h (t.take n)
theorem DqA.drop {G : Hp} : ∀ {ds : List PyData} {vs : List V} (n : Nat), DqA G vs ds → DqA G (vs.drop n) (ds.drop n)
  | [], _, n, .nil => by simp; exact .nil
  | _ :: _, _, 0, .cons h t => .cons h t
  | _ :: _, _, n + 1, .cons h t => t.drop n
theorem DqA.ints {G : Hp} : ∀ (ns : List Int), DqA G (ns.map V.int) (ns.map PyData.int)
  | [] => .nil
  | n :: ns => .cons (.int n) (DqA.ints ns)
theorem DqA.int_inv {G : Hp} : ∀ {ns : List Int} {vs : List V}, DqA G vs (ns.map PyData.int) → vs = ns.map V.int
  | [], _, .nil => rfl
  | _ :: _, _, .cons (.int n) t => by
    have := DqA.int_inv t
    subst this
    rfl
/-- the name of a datum's type -/
def tyN : PyData → String
  | .none => "NoneType"
  | .bool _ => "bool"
  | .int _ => "int"
  | .str _ => "str"
  | .list _ => "list"
  | .tuple _ => "tuple"
  | .dict _ => "dict"
theorem Dq.ty {K : PySem.W.Frag} {G : Hp} {d : PyData} {v : V} (h : Dq G v d) : TyX K G v (.type (tyN d)) := by
  cases h with
  | non => exact .base .non
  | bl b => exact .base (.bl b)
  | int i => exact .base (.int i)
  | str x => exact .base (.str x)
  | lst h _ => exact .base (.lst h)
  | tup h _ => exact .base (.tup h)
  | dic h => exact .base (.dK h)
/-- a call's callee: the def that a global name holds -/
structure Cal (P : Program) (w : World) (K : PySem.W.Frag) (mg : Str → Option Value) (base : Heap) (x : Str) (ps : List Str) (k : Nat) (sp : Sp) : Prop where
  ex : ∃ (f : Addr) (fd : FuncData), FnOk P w K mg base CX0 k f fd ps sp ∧ mg x = some (.ref f) ∧ PySem.W.keepIn K (.ref f) = true ∧ Binds K fd ps []
section
variable {X : Cx}
theorem pe_cal {x : Str} {p pos : Pos} {e : Expr} {es : List Expr} {ps : List Str} {k j : Nat} {sp : Sp} {t : TA} (C : Cal X.prog X.w X.K X.mg X.base x ps k sp) (hr : Room j X.A) (hg : Gl X x) (ha : PA X (e :: es) t) (hk : k ≤ j := by decide)
    (hdb : (x == ("__debug__" : Str)) = false := by decide) (he : starEach (e :: es) X.env = (false, eval e X.env) :: starEach es X.env := by rfl) (hpl : (backTo pos (starEach es X.env)).any (·.1) = false := by rfl) :
    PE X (.Call (.Name x p) (e :: es) [] pos) (tCall sp [] E0 t) := by
  obtain ⟨f, fd, F, g, kp, b⟩ := C.ex
  exact pe_call F (hr.mono hk) hg g kp b .nil pass0 ha hdb he hpl
end
section
variable {K : PySem.W.Frag} {σ : L2.St} {H : Hp} {ta tb tc te : TE}
/-- isinstance(x, T), T a built-in type -/
theorem ev_isi {v : V} {d : PyData} {n : String} {b : Bool} (h : Ev ta σ H v) (hd : Dq H v d) (hk : kitB (tyN d) n = some b) : Ev (tCB (rIsi K) (tCons ta (tCons (tC (.ty n)) tNil))) σ H (.bl b) := fun H1 e Q q =>
  h H1 e _ fun H2 e2 => ⟨v, .ty n, .type (tyN d), .type n, b, rfl, .ty n, (hd.mono (e.trans e2)).ty, kit_ty hk, q H2 e2⟩
/-- a <= b <= c of ints -/
theorem ev_chain {i j k : Int} {r r' : R2} {b1 b2 : Bool} (ha : Ev ta σ H (.int i)) (hb : Ev tb σ H (.int j)) (hc : Ev tc σ H (.int k)) (h1 : RV r (.int i) (.int j) H (.bl b1)) (h2 : RV r' (.int j) (.int k) H (.bl b2)) :
    Ev (tChain r r' ta tb tc) σ H (.bl (b1 && b2)) := fun H1 e Q q =>
  ha H1 e _ fun H2 e2 => hb H2 (e.trans e2) _ fun H3 e3 => h1 H3 ((e.trans e2).trans e3) _ fun H4 e4 => ⟨b1, rfl, by
    cases b1 with
    | false => exact q H4 ((e2.trans e3).trans e4)
    | true => exact hc H4 (((e.trans e2).trans e3).trans e4) _ fun H5 e5 => h2 H5 ((((e.trans e2).trans e3).trans e4).trans e5) _ fun H6 e6 => q H6 ((((e2.trans e3).trans e4).trans e5).trans e6)⟩
end
end Wk

set_option Elab.async false
set_option linter.all false
set_option maxRecDepth 100000
set_option maxHeartbeats 4000000
namespace Wk
open PySem PySem.Spec PyProof.Rows L2 Evl
/-! how many are unlike -/
theorem nd_le {α : Type} [DecidableEq α] : ∀ (l D : List α), l.Nodup → (∀ x ∈ l, x ∈ D) → l.length ≤ D.length
  | [], _, _, _ => Nat.zero_le _
  | x :: l, D, hn, hs => by
    have hn' := List.nodup_cons.mp hn
    have hx : x ∈ D := hs x List.mem_cons_self
    have ih := nd_le l (D.erase x) hn'.2 fun y hy => (List.mem_erase_of_ne (fun (e : y = x) => hn'.1 (by rw [← e]; exact hy))).2 (hs y (List.mem_cons_of_mem _ hy))
    have e := List.length_erase_of_mem hx
    have hp : 0 < D.length := List.length_pos_of_mem hx
    simp only [List.length_cons]
    omega
theorem dup_less {α : Type} [DecidableEq α] : ∀ (D : List α), ¬ D.Nodup → ∃ D' : List α, (∀ x ∈ D, x ∈ D') ∧ D'.length < D.length
  | [], h => absurd List.nodup_nil h
  | x :: D, h => by
    by_cases hx : x ∈ D
    · exact ⟨D, fun y hy => (List.mem_cons.mp hy).elim (fun e => by rw [e]; exact hx) id, Nat.lt_succ_self _⟩
    · have hD : ¬ D.Nodup := fun z => h (List.nodup_cons.mpr ⟨hx, z⟩)
      obtain ⟨D', h1, h2⟩ := dup_less D hD
      exact ⟨x :: D', fun y hy => (List.mem_cons.mp hy).elim (fun e => by rw [e]; exact List.mem_cons_self) (fun e => List.mem_cons_of_mem _ (h1 y e)), Nat.succ_lt_succ h2⟩
theorem nd_iff {α : Type} [DecidableEq α] {l D : List α} (hn : l.Nodup) (h : ∀ x, x ∈ l ↔ x ∈ D) : l.length = D.length ↔ D.Nodup := by
  constructor
  · intro e
    apply Classical.byContradiction
    intro hD
    obtain ⟨D', h1, h2⟩ := dup_less D hD
    have := nd_le l D' hn fun x hx => h1 x ((h x).mp hx)
    omega
  · intro hD
    have h1 := nd_le l D hn fun x hx => (h x).mp hx
    have h2 := nd_le D l hD fun x hx => (h x).mpr hx
    omega
section
variable {X : Cx}
/-- len(set(t)), t a tuple of ints -/
def tLenSU (K : PySem.W.Frag) (ta : TE) : TE := fun σ H Q => ta σ H fun x H1 => ∃ (l : Addr) (ns : List Int), x = V.ref l ∧ SqT K H1 l (ns.map V.int) ∧ ns.length < 64 ∧ ∀ n : Nat, (n = ns.length ↔ ns.Nodup) → Q (.int n) H1
theorem pe_lenSU {a : Expr} {ta : TE} {p p2 q pos : Pos} (hc : X.calm = true) (hg : Gl X "len") (hm : X.mg "len" = none) (hg2 : Gl X "set") (hm2 : X.mg "set" = none) (ha : PE X a ta)
    (na : starEach [a] X.env = (false, eval a X.env) :: starEach [] X.env := by rfl) : PE X (.Call (.Name "len" p) [.Call (.Name "set" p2) [a] [] q] [] pos) (tLenSU X.K ta) := by
  refine ⟨fun pins s σ H Q I h => ?_⟩
  refine Call_ (ld_blt I hg hm PySem.boot_len ?_)
  refine PyProof.Rows.callWith_builtin1 (PyProof.Rows.args_cons ?_ rfl) rfl rfl
  refine Call_ (ld_blt I hg2 hm2 PyProof.Rows.boot_set ?_)
  refine PyProof.Rows.callWith_type1 (PyProof.Rows.args_cons (thn (ha.run pins s σ H _ I h) fun v s1 hh => PyProof.Rows.args_nil ?_) na) na rfl
  obtain ⟨x, H1, I1, r1, l, ns, rfl, hq, hlt, q1⟩ := hh
  cases r1
  obtain ⟨its, r, pl, hz⟩ := I1.tuple hq
  refine call_set_tupI (w := X.w) ns (I1.ok.hd hc) pl (by simpa using r.ints) (by unfold scanBound; omega) fun h' tk c hS hc2 hk => ?_
  refine PyProof.Rows.args_nil ?_
  obtain ⟨o, es, ep, t, ho, hex, hd, _, hnd, hiff, _, hf, hn, _⟩ := hS
  have I2 : Inv X pins σ H1 { s1 with heap := h', toks := tk } := I1.kept fun b o e => hk b o e
  refine call_len_set ho hex hd hf (by rw [hn] <;> omega) ⟨.int es.size, H1, I2.tok _, ⟨_, rfl⟩, q1 es.size ?_⟩
  have hl : (es.toList.map keyOf).length = es.size := by simp
  rw [← hl]
  exact nd_iff hnd fun k => by
    have := hiff k
    simp only [decide_eq_true_eq] at this
    exact this.symm
end
/-- the set that set() lays -/
abbrev sO (w : World) : Obj := { cls := .type "set", dict := none, data := .set #[] 0 (.fresh 0 0 (!w.params.followText "set-order")) }
section
variable {P : Program} {w : World} {A : Around} {E : Value → Shared → Prop} {s : Shared}
/-- set(t), t a tuple of tuples of ints -/
theorem set_of_tup2 {l : Addr} {its : Array Value} (ks : List (Addr × List Int)) {Q : Value → Shared → Prop} (nh : A.handled = none) (tl : s.heap.IsTuple l its) (eq : its.toList = ks.map fun p => Value.ref p.1)
    (ki : ∀ p ∈ ks, IsT P w s.heap p.2 p.1) (few : ks.length < 64) (un : A.units + 3 < cLine)
    (fin : ∀ (h' : Heap) (tk : Nat) L es ep t, SetTR P w h' s.heap.objs.size L es ep t → Got ks ks.length L → (∀ b o, s.heap.get? b = some o → h'.get? b = some o) → Q (.ref s.heap.objs.size) { s with heap := h', toks := tk }) :
    wpAny (model P w) A (call (.type "set") [.ref l]) Q E s := by
  have size : its.size = ks.length := by have q := congrArg List.length eq; simpa using q
  obtain ⟨c, rest, mro⟩ := F.called_set.mro
  have made := F.called_set.made; have sub := F.called_set.sub
  refine wpAny_call (codeAny_of_tree (show wpAny _ _ (callAny (.type "set") _) _ _ _ from ?_))
  refine wpAny_pure ⟨Code.quiet_builtin _ (by decide +kernel), codeAny_builtin F.entry_type_call (by
    rw [Around.under_plain (weight_type_call_type "set" [.ref l] []) rfl]
    have nt := F.called_set.notType; have cc := F.called_set.canCreate; have tc := F.typeCall_set_1 (.ref l)
    repeat (any_goals (first | assumption | wp_step))
    refine codeAny_mono (code_set_led1 (.ref l) (E := E) (Q₁ := fun ob s1 => ob = .ref s.heap.objs.size ∧ s1 = { s with heap := s.heap.push (sO w) }) ⟨rfl, rfl⟩) fun r s1 hr => ?_
    cases r with
    | error e => exact hr
    | ok fl =>
      cases fl with
      | ret ob =>
        obtain ⟨rfl, rfl⟩ := hr
        have hS : (s.heap.push (sO w)).get? s.heap.objs.size = some (sO w) := Heap.get?_push_size _ rfl
        have hT : Shared.TypeIs { s with heap := s.heap.push (sO w) } (.ref s.heap.objs.size) "set" := ⟨_, hS, rfl⟩
        have li := F.called_set.init.lookup; have bi := F.called_set.init.bind (.ref s.heap.objs.size)
        repeat (any_goals (first | assumption | wp_step))
        refine codeAny_mono (codeAny_call_builtin (R := wants (fun r s2 => r = .none ∧ ∃ h' tk L es ep t, s2 = { s with heap := h', toks := tk } ∧ SetTR P w h' s.heap.objs.size L es ep t ∧ Got ks ks.length L ∧ (∀ b o, s.heap.get? b = some o → h'.get? b = some o)) E)
          F.called_set.init.plain F.entry_set_init (check_set_init_1 hT ?_)) fun r2 s2 hr2 => ?_
        · obtain ⟨⟨oc, od, dt, sl⟩, ol, cl, n, dl⟩ := tl
          simp only at cl dl; subst cl; subst dl
          have ol1 : (s.heap.push (sO w)).get? l = some { cls := .type "tuple", dict := od, data := .seq its n, slots := sl } := Heap.get?_push_of_some _ ol
          have b1 := F.sub_tuple_set; have b2 := F.sub_tuple_frozenset
          have b3 : (Value.type "tuple" == Value.type "dict") = false := by decide
          have tl1 : (s.heap.push (sO w)).IsTuple l its := ⟨_, ol1, rfl, n, rfl⟩
          unfold Builtin.«set.__init__» noKeywords Builtin.Frozenset.updateFrom
          generalize hPI : pyIter = PI
          wp_walk
          subst hPI
          refine wpAny_pyIter_tuple tl1 (wpAny_bind (wpAny_runValue ?_))
          have lt : l < s.heap.objs.size := Heap.lt_size ol
          have nh3 : A.in1.in1.in1.handled = none := by simp [nh]
          have ne1 : l ≠ (s.heap.push (sO w)).objs.size := by rw [Heap.size_push]; exact Nat.ne_of_lt (Nat.lt_succ_of_lt lt)
          have nin : s.heap.objs.size ∉ [(s.heap.push (sO w)).objs.size, l] := by
            rw [Heap.size_push]
            intro z
            rcases List.mem_cons.mp z with z | z
            · exact absurd z (Nat.ne_of_lt (Nat.lt_succ_self _))
            · exact absurd (List.mem_singleton.mp z) (Nat.ne_of_gt lt)
          have val : ∀ (i : Nat) (v : Value), its[i]? = some v → ∃ p, ks[i]? = some p ∧ v = .ref p.1 := fun i v hv => by
            have q : its.toList[i]? = some v := (Array.getElem?_toList ..).trans hv
            rw [eq, List.getElem?_map] at q
            cases hq : ks[i]? with
            | none => rw [hq] at q; cases q
            | some p => rw [hq] at q; exact ⟨p, rfl, (Option.some.inj q).symm⟩
          have out : ∀ b, s.heap.objs.size ≤ b → s.heap.get? b = none := fun b hb => by
            cases q : s.heap.get? b with
            | none => rfl
            | some o => exact absurd (Nat.lt_of_lt_of_le (Heap.lt_size q) hb) (Nat.lt_irrefl _)
          refine set_update_tups ((Walks.tuple nh3 _ l ne1 its).toS) s.heap.objs.size nin ks size few val s.heap ki (out _ (Nat.le_refl _)) (fun b hb => out b (by rw [List.mem_singleton.mp hb, Heap.size_push]; exact Nat.le_succ _)) un (its.size - 0) 0 _ (by omega) (Nat.zero_le _)
            ⟨⟨_, Heap.get?_push_size _ rfl, rfl, rfl⟩, (tl1.push _)⟩ (fun b o e => Heap.get?_push_of_some _ (Heap.get?_push_of_some _ e)) ⟨[], #[], 0, _, setTR_fresh (Heap.get?_push_of_some _ hS), Got.zero ks⟩ ?_
          intro s' L es ep t hm hS' g' kp
          obtain ⟨h', g2, d', tk', os'⟩ := s'
          have eg : g2 = s.gens := hm.gens
          have ed : d' = s.drawn := hm.drawn
          have eo : os' = s.os := hm.os
          subst eg; subst ed; subst eo
          show wpAny _ _ _ _ _ _
          refine wpAny_pure (show wpAny _ _ (ret Value.none) _ _ _ from ?_)
          rw [size] at g'
          exact wpAny_pure ⟨rfl, h', tk', L, es, ep, t, rfl, hS', g', kp⟩
        · cases r2 with
          | error e => exact hr2
          | ok fl2 =>
            cases fl2 with
            | ret r =>
              obtain ⟨rfl, h', tk, L, es, ep, t, rfl, hS', g', k'⟩ := hr2
              repeat (any_goals (first | assumption | wp_step))
              exact fin _ _ _ _ _ _ hS' g' k'
            | _ => exact hr2.elim
      | _ => exact hr.elim)⟩
end
section
variable {X : Cx}
/-- len(set(t)), t a tuple of tuples of ints -/
def tLenSUU (K : PySem.W.Frag) (ta : TE) : TE := fun σ H Q => ta σ H fun x H1 => ∃ (l : Addr) (ks : List (Addr × List Int)), x = V.ref l ∧ SqT K H1 l (ks.map fun p => V.ref p.1) ∧ (∀ p ∈ ks, SqT K H1 p.1 (p.2.map V.int)) ∧ ks.length < 64 ∧
  ∀ n : Nat, (n = ks.length ↔ (ks.map (·.2)).Nodup) → Q (.int n) H1
theorem pe_lenSUU {a : Expr} {ta : TE} {p p2 q pos : Pos} (hc : X.calm = true) (hu : X.A.units + 64 < cLine) (hg : Gl X "len") (hm : X.mg "len" = none) (hg2 : Gl X "set") (hm2 : X.mg "set" = none) (ha : PE X a ta)
    (na : starEach [a] X.env = (false, eval a X.env) :: starEach [] X.env := by rfl) : PE X (.Call (.Name "len" p) [.Call (.Name "set" p2) [a] [] q] [] pos) (tLenSUU X.K ta) := by
  refine ⟨fun pins s σ H Q I h => Call_ (ld_blt I hg hm PySem.boot_len (PyProof.Rows.callWith_builtin1 (PyProof.Rows.args_cons (Call_ (ld_blt I hg2 hm2 PyProof.Rows.boot_set ?_)) rfl) rfl rfl))⟩
  refine PyProof.Rows.callWith_type1 (PyProof.Rows.args_cons (thn (ha.run pins s σ H _ I h) fun v s1 hh => PyProof.Rows.args_nil ?_) na) na rfl
  obtain ⟨x, H1, I1, r1, l, ks, rfl, hq, hk, few, q1⟩ := hh
  cases r1
  obtain ⟨its, r, pl, hz⟩ := I1.tuple hq
  refine set_of_tup2 (P := X.prog) (w := X.w) ks (I1.ok.hd hc) pl (by simpa using refs_of_vals r) (fun p hp => I1.isT (hk p hp)) few (by omega) fun h' tk L es ep t R g k => PyProof.Rows.args_nil ?_
  have I2 : Inv X pins σ H1 { s1 with heap := h', toks := tk } := I1.kept fun b o e => k b o e
  have hes : es.size = L.length := R.size (s := { s1 with heap := h', toks := tk })
  have hf := R.fits (s := { s1 with heap := h', toks := tk })
  obtain ⟨o, ho, hex, hd⟩ := R.ob
  refine call_len_set (s := { s1 with heap := h', toks := tk }) ho hex hd hf (by have := R.few; omega) ⟨.int es.size, H1, I2.tok _, ⟨_, rfl⟩, q1 es.size ?_⟩
  have e1 : (L.map (·.2)).length = es.size := by simp [hes]
  have e2 : (ks.map (·.2)).length = ks.length := by simp
  rw [← e1, ← e2]
  refine nd_iff R.nd fun k => ⟨fun z => ?_, fun z => ?_⟩
  · obtain ⟨p, hp, rfl⟩ := List.mem_map.mp z
    exact List.mem_map.mpr ⟨p, List.mem_of_mem_take (g.sub p hp), rfl⟩
  · obtain ⟨p, hp, rfl⟩ := List.mem_map.mp z
    exact g.all p (by rw [List.take_length]; exact hp)
end
end Wk

set_option Elab.async false
set_option linter.all false
set_option maxRecDepth 100000
set_option maxHeartbeats 4000000
namespace Wk
open PySem PySem.Spec PyProof.Rows L2 Evl
/-- the walk of a tuple's iterator under an enumerate -/
abbrev itO (l : Addr) : Obj := { cls := .type "tuple_iterator", data := .fields #[.ref l, .int 0 0] }
abbrev enO (it : Addr) : Obj := { cls := .type "enumerate", data := .fields #[.none, .bool false, .ref it, rawInt 0, .none, .none] }
theorem enumNewT (l : Addr) (its : Array Value) (n : Nat) (od : Option Addr) (sl : Array (Option Value)) :
    Meets (Builtin.«enumerate.__new__» ⟨[.type "enumerate", .ref l], []⟩) (fun _ R s => s.heap.get? l = some { cls := .type "tuple", dict := od, data := .seq its n, slots := sl } ∧
      R (.ok (.ret (.ref (s.heap.push (itO l)).objs.size))) { s with heap := (s.heap.push (itO l)).push (enO s.heap.objs.size) }) :=
  .of_wp fun prog w A R s h => by
    obtain ⟨hp, g, d, tk, os⟩ := s; obtain ⟨hl, h⟩ := h
    have su := sub_enumerate
    have tl : Heap.IsTuple (Shared.heap ⟨hp, g, d, tk, os⟩) l its := ⟨_, hl, rfl, n, rfl⟩
    wp_walk using wpAny_loadPart' hl
    refine wpAny_stack_any fun st => wpAny_pure ?_
    split
    · rename_i c _ _ _ _ _
      cases (c == Value.type "enumerate") <;> (wp_walk using wpAny_loadPart' hl, wpAny_pyIter_tuple tl; exact ⟨_, rfl, h⟩)
    · wp_walk using wpAny_loadPart' hl, wpAny_pyIter_tuple tl
      exact ⟨_, rfl, h⟩
section
variable {prog : Program} {w : World} {A : Around} {E : Value → Shared → Prop} {s : Shared}
theorem enumT_call {l : Addr} {its : Array Value} {Q : Value → Shared → Prop} (tl : s.heap.IsTuple l its)
    (h : ∀ h', IsEnum h' (s.heap.objs.size + 1) s.heap.objs.size 0 .none → h'.IsTupleIter s.heap.objs.size l 0 → h'.objs.size = s.heap.objs.size + 2 → (∀ b o, s.heap.get? b = some o → h'.get? b = some o) → Q (.ref (s.heap.objs.size + 1)) { s with heap := h' }) :
    wpAny (model prog w) A (call (.type "enumerate") [.ref l]) Q E s := by
  obtain ⟨⟨c, od, dt, sl⟩, hl, hc, n, hd⟩ := tl
  replace hc : c = .type "tuple" := hc
  replace hd : dt = .seq its n := hd
  subst hc hd
  refine callType_new F.called_enumerate (by decide) (F.typeCall_enumerate_1 _) (F.newCall_enumerate_1 _) (fun ob => F.args_object_init_2 ob _) F.entry_enumerate_new (enumNewT l its n od sl) ⟨hl, ?_⟩
  have hz : (s.heap.push (itO l)).objs.size = s.heap.objs.size + 1 := Heap.size_push ..
  show _ ∧ _
  rw [hz]
  have he : IsEnum ((s.heap.push (itO l)).push (enO s.heap.objs.size)) (s.heap.objs.size + 1) s.heap.objs.size 0 .none := by
    have q := Heap.get?_push_size (s.heap.push (itO l)) (o := enO s.heap.objs.size) rfl
    rw [hz] at q; exact q
  exact ⟨⟨_, he, rfl⟩, h _ he ⟨_, Heap.get?_push_of_some _ (Heap.get?_push_size _ rfl), rfl, rfl⟩ (by rw [Heap.size_push, hz]) fun b o x => Heap.get?_push_of_some _ (Heap.get?_push_of_some _ x)⟩
end
/-- the tuple at a, each item in a new pair with its place -/
def IteT (K : PySem.W.Frag) (a : Addr) : It :=
  ⟨fun i H => ∃ (xs : List V) (x : V), SqT K H a xs ∧ xs[i]? = some x, fun i H v H' => ∃ T x, v = .ref T ∧ H T = none ∧ H' = upd H T (.tup [.int (i : Nat), x]) ∧ ∀ xs, SqT K H a xs → xs[i]? = some x, fun i H => ∃ xs : List V, SqT K H a xs ∧ xs.length = i⟩
theorem turn_enumT {P : Program} {w : World} {K : PySem.W.Frag} {elts : List Expr} {kk : Nat} {tpos : Pos} (a e it : Addr) :
    Turn P w K (.Tuple elts kk tpos) (IteT K a) [e, it] e (fun i h => (∃ old, IsEnum h e it ((i : Nat) : Int) old) ∧ h.IsTupleIter it a i ∧ e ≠ it) where
  mem := List.mem_cons_self
  obj := fun i h st b hb => by
    obtain ⟨⟨old, he⟩, ⟨o, ho, hc, hd⟩, _⟩ := st
    rcases List.mem_cons.mp hb with z | z
    · rw [z]; exact ⟨_, he, fun v q => nomatch q⟩
    · rw [List.mem_singleton.mp z]; exact ⟨o, ho, fun v q => by rw [hd] at q; cases q⟩
  keep := fun i h h' st k => by
    obtain ⟨⟨old, he⟩, ⟨o, ho, r⟩, hne⟩ := st
    exact ⟨⟨old, k e (by simp) _ he⟩, ⟨o, k it (by simp) o ho, r⟩, hne⟩
  item := by
    intro X hP hw hK hc i pins s σ H E I hf st hg
    subst hP hw hK
    obtain ⟨⟨old, he⟩, hit, hne⟩ := st
    obtain ⟨xs, x, hq, hx⟩ := hg
    obtain ⟨its, rv, p, hz⟩ := I.tuple hq
    obtain ⟨u, hu, ru⟩ := rv.get hx
    have el : e < s.heap.objs.size := Heap.lt_size he
    have il : it < s.heap.objs.size := by obtain ⟨_, q, _⟩ := hit; exact Heap.lt_size q
    have nai : a ≠ it := fun z => by
      obtain ⟨o, ho, oc, _⟩ := p
      obtain ⟨o2, ho2, oc2, _⟩ := hit
      rw [z, ho2] at ho
      cases ho
      rw [oc2] at oc
      injection oc with q
      exact absurd q (by decide)
    have nae : e ≠ a := fun z => by
      obtain ⟨o, ho, oc, _⟩ := p
      have he2 := he
      unfold IsEnum at he2
      rw [z, ho] at he2
      cases he2
      injection oc with q
      exact absurd q (by decide)
    have hi : i < its.toArray.size := by
      have q := (List.getElem?_eq_some_iff.mp hu).1
      simpa using q
    refine wpAny_pyNext_enum_itemD (Draws.tuple (by simpa using I.ok.hd hc) it a nai its.toArray) he ⟨hit, p⟩ hi hne (by simp [hne, nae]) fun y h' tk hy ho hst hT hsz hk => ?_
    have ey : y = u := by
      have q : its.toArray[i]? = some y := hy
      rw [List.getElem?_toArray, hu] at q
      exact (Option.some.inj q).symm
    subst ey
    refine ⟨_, rfl, wpAny_letOwnedTupleGo_enum (s := { s with heap := h', toks := tk + 1 }) ho fun h2 he' sb => ?_⟩
    have hT2 : h2.get? s.heap.objs.size = some { cls := .type "tuple", data := .seq #[.int i tk, y] } := (sb.2 _ (Nat.ne_of_gt el)).trans hT
    have nw : ObjOk X.prog X.w (upd H s.heap.objs.size (.tup [.int (i : Nat), x])) h2 s.heap.objs.size (.tup [.int (i : Nat), x]) := ⟨by show 2 ≤ sizeLine; decide, [.int i tk, y], .cons ⟨_, rfl⟩ (.cons ru .nil), ⟨_, hT2, rfl, _, rfl⟩⟩
    have I1 : Inv X pins σ (upd H s.heap.objs.size (.tup [.int (i : Nat), x])) { s with heap := h2, toks := tk + 1 } := I.turnedNew (ch := [e, it]) (fun b ob hb q => by
        have b1 : b ≠ e := fun z => hb (by simp [z])
        have b2 : b ≠ it := fun z => hb (by simp [z])
        exact (sb.2 b b1).trans (hk b ob b1 b2 q)) hf (Nat.le_refl _) nw
    refine ⟨.ref s.heap.objs.size, _, I1, rfl, ⟨_, x, rfl, I.hok.fresh (Nat.le_refl _), rfl, fun ys hy => by rw [I.tuple_inj hy hq]; exact hx⟩, ⟨⟨y, ?_⟩, ?_, hne⟩, fun b hb => ?_⟩
    · rw [show ((i + 1 : Nat) : Int) = (i : Int) + 1 by omega]; exact he'
    · obtain ⟨o, ho2, r2⟩ := hst.1
      exact ⟨o, (sb.2 it (Ne.symm hne)).trans ho2, r2⟩
    · have hb2 : b < s.heap.objs.size := by
        rcases List.mem_cons.mp hb with z | z
        · rw [z]; exact el
        · rw [List.mem_singleton.mp z]; exact il
      rw [upd_ne (Nat.ne_of_lt hb2)]
      exact (hf b hb).1
  done := by
    intro X hP hw hK hc i pins s σ H E I hf st hg
    subst hP hw hK
    obtain ⟨⟨old, he⟩, hit, hne⟩ := st
    obtain ⟨xs, hq, hx⟩ := hg
    obtain ⟨its, rv, p, hz⟩ := I.tuple hq
    obtain ⟨f0, f1, f2, f3, f4, f5⟩ := hf it (by simp)
    have hl := rv.length
    have ei : i = its.toArray.size := by simp; omega
    have nai : a ≠ it := fun z => by
      obtain ⟨o, ho, oc, _⟩ := p
      obtain ⟨o2, ho2, oc2, _⟩ := hit
      rw [z, ho2] at ho
      cases ho
      rw [oc2] at oc
      injection oc with q
      exact absurd q (by decide)
    subst ei
    exact wpAny_pyNext_enum_endD (Draws.tuple (by simpa using I.ok.hd hc) it a nai its.toArray) he ⟨hit, p⟩ fun h' eb => ⟨rfl, I.turned (t' := s.toks) (fun b o hb q => eb b o hb q) f0 f1 f3 f4 f5⟩
  self := fun A i s Q E st h => let ⟨⟨_, he⟩, _⟩ := st; wpAny_pyIter_enum he h

def iEnumT (K : PySem.W.Frag) (ta : TA) : TI := fun σ H R => ta σ H fun vs H1 => ∃ a xs, vs = [.ref a] ∧ SqT K H1 a xs ∧ R (IteT K a) H1
/-- for i, x in enumerate(t), t a tuple -/
theorem pi_enumT {X : Cx} {e : Expr} {ta : TA} {p pos tpos : Pos} {elts : List Expr} {kk : Nat} (hg : Gl X "enumerate") (hm : X.mg "enumerate" = none) (ha : PA X [e] ta) (hs : starEach [e] X.env = [(false, eval e X.env)] := by rfl) :
    PI X (.Tuple elts kk tpos) (.Call (.Name "enumerate" p) [e] [] pos) (iEnumT X.K ta) := by
  refine ⟨fun pins s σ H R I h => Call_ (ld_blt I hg hm boot_enumerate (PyProof.Rows.callWith_type1 (thn (ha.run pos pins s σ H _ I h) fun us s1 hh => ?_) hs rfl))⟩
  obtain ⟨vs, H1, I1, r1, a, xs, rfl, hq, q⟩ := hh
  cases r1 with
  | cons r rr =>
    cases rr
    cases r
    obtain ⟨its, rv, pt, hz⟩ := I1.tuple hq
    refine enumT_call pt fun h' he hit hsz hk => wpAny_pyIter_enum he ?_
    refine ⟨s1.heap.objs.size + 1, [s1.heap.objs.size + 1, s1.heap.objs.size], _, _, H1, rfl, I1.kept (t' := s1.toks) hk, turn_enumT a (s1.heap.objs.size + 1) s1.heap.objs.size, ⟨⟨.none, he⟩, hit, Nat.succ_ne_self _⟩, fun b hb => ?_, q⟩
    have hle : s1.heap.objs.size ≤ b := by
      rcases List.mem_cons.mp hb with z | z
      · rw [z]; exact Nat.le_add_right _ _
      · rw [List.mem_singleton.mp z]; exact Nat.le_refl _
    exact I1.fpOk hle (I1.hok.fresh hle)
theorem walk_enumT {K : PySem.W.Frag} {a : Addr} {xs : List V} : Walk (IteT K a) xs.length (fun H => SqT K H a xs) (YPair (fun i => some (.int (i : Nat))) (fun i => xs[i]?)) := by
  refine ⟨fun i _ hi q => ⟨xs, xs[i], q, by simp [hi]⟩, fun _ q => ⟨xs, q, rfl⟩, fun i H v H' _ q y => ?_⟩
  obtain ⟨T, x, h1, h2, h3, h4⟩ := y
  exact ⟨T, .int (i : Nat), x, h1, h2, h3, rfl, h4 xs q⟩
section
variable {K : PySem.W.Frag} {σ : L2.St} {H : Hp} {t : TT} {te : TE}
/-- [e for x in t], t a tuple -/
theorem el_lcT {a : Addr} {xs : List V} {tl : TE} {j : Nat} {vs : List Nat} (f : Nat → Bool) (v : Nat → V) (h : Ev tl σ H (.ref a)) (hx : SqT K H a xs) (hz : xs.length ≤ 40000) (hw : ∀ x, wipe ((wipe σ vs).set j (some x)) vs = wipe σ vs)
    (ht : ∀ (i : Nat) (x : V) H1, Ex H H1 → xs[i]? = some x → EvT t ((wipe σ vs).set j (some x)) H1 (f i)) (he : ∀ (i : Nat) (x : V) H1, Ex H H1 → xs[i]? = some x → f i = true → Ev te ((wipe σ vs).set j (some x)) H1 (v i)) :
    EvL (tLc (iTup K tl) (gName j) t te vs) σ H (given xs.length f v) := fun H0 e Q q => h H0 e _ fun H1 e1 => ⟨a, rfl, ⟨xs, ex_t (e.trans e1) hx⟩, fun Dl hD =>
  lc_it (walk_tup (K := K) (a := a) (xs := xs)) (Cw H1 f v Dl) ⟨hD, Ex.new hD, upd_same⟩ (fun i H' _ p => ex_t ((e.trans e1).trans p.2.1) hx)
    (fun i x H' H2 hi p y => by
      obtain ⟨rfl, hxi⟩ := y
      exact ⟨hw x, cw_turn p (by omega) (ht i x H1 (e.trans e1) hxi) (fun hf => he i x H1 (e.trans e1) hxi hf)⟩)
    (fun H' p => q Dl H' (fresh_back e1 p.1) (e1.trans p.2.1) p.2.2)⟩
theorem given_all (n : Nat) (v : Nat → V) : given n (fun _ => true) v = (List.range n).map v := by
  unfold given
  rw [List.filter_eq_self.mpr (fun _ _ => rfl)]
theorem et_yes : EvT tYes σ H true := fun H1 _ _ q => q H1 (Ex.refl H1)
/-- all([..]) of flags -/
theorem ev_allL {bs : List Bool} {ta : TE} (h : EvL ta σ H (bs.map V.bl)) : Ev (tCB (rAll K) (tCons ta tNil)) σ H (.bl (bs.all id)) := fun H1 e Q q =>
  h H1 e _ fun p H2 _ e2 hp => ⟨p, bs, rfl, sq_of hp, q H2 e2⟩
/-- all([test(x) for x in t]) -/
theorem ev_allT {a : Addr} {xs : List V} {tl : TE} {j : Nat} {vs : List Nat} (g : Nat → Bool) (h : Ev tl σ H (.ref a)) (hx : SqT K H a xs) (hz : xs.length ≤ 40000) (hw : ∀ x, wipe ((wipe σ vs).set j (some x)) vs = wipe σ vs)
    (he : ∀ (i : Nat) (x : V) H1, Ex H H1 → xs[i]? = some x → Ev te ((wipe σ vs).set j (some x)) H1 (.bl (g i))) :
    Ev (tCB (rAll K) (tCons (tLc (iTup K tl) (gName j) tYes te vs) tNil)) σ H (.bl (((List.range xs.length).map g).all id)) :=
  ev_allL (by
    have q := el_lcT (K := K) (te := te) (fun _ => true) (fun i => .bl (g i)) h hx hz hw (fun _ _ _ _ _ => et_yes) fun i x H1 e hxi _ => he i x H1 e hxi
    rw [given_all] at q
    rw [List.map_map]
    exact q)
end
section
variable {K : PySem.W.Frag} {σ : L2.St} {H : Hp} {ta tb te : TE}
theorem ev_lenT {p : Addr} {xs : List V} (ha : Ev ta σ H (.ref p)) (h : SqT K H p xs) : Ev (tCB (rLenS K) (tCons ta tNil)) σ H (.int (xs.length : Int)) := fun H1 e Q q =>
  ha H1 e _ fun H2 e2 => ⟨p, xs, rfl, Or.inr (ex_t (e.trans e2) h), q H2 e2⟩
theorem all_get {α : Type} (ds : List α) (p : α → Bool) : ((List.range ds.length).map (fun i => ((ds[i]?).map p).getD false)).all id = ds.all p := by
  have e : (List.range ds.length).map (fun i => ((ds[i]?).map p).getD false) = ds.map p := by
    apply List.ext_getElem
    · simp
    · intro i h1 h2
      have hi : i < ds.length := by simpa using h1
      simp [hi]
  rw [e, List.all_map]
  rfl
end
section
variable {K : PySem.W.Frag} {σ : L2.St} {H : Hp} {g : TG} {tu tz : TS} {D : Ends}
/-- for i, x in enumerate(t) -/
theorem s_forEn {a : Addr} {xs : List V} {tl : TE} (h : Ev tl σ H (.ref a)) (hx : SqT K H a xs) (Pv : Nat → L2.St → Hp → Prop) (h0 : ∀ H1, Ex H H1 → Pv 0 σ H1) (hl : ∀ i σ' H', i ≤ xs.length → Pv i σ' H' → SqT K H' a xs)
    (hs : ∀ i y T σ' H', xs[i]? = some y → Pv i σ' H' → H' T = none → g (.ref T) σ' (upd H' T (.tup [.int (i : Nat), y])) fun σ2 H2 => tu { D with nx := Pv (i + 1), ct := Pv (i + 1), bk := D.nx } σ2 H2) (hd : ∀ σ' H', Pv xs.length σ' H' → D.nx σ' H') : tFor (iEnumT K (tCons tl tNil)) g tu D σ H :=
  h H (Ex.refl H) _ fun H1 e => ⟨a, xs, rfl, ex_t e hx, for_it (walk_enumT (K := K) (a := a) (xs := xs)) Pv (h0 H1 e) hl (fun i x σ' H2 H3 hi p y => by
    obtain ⟨T, u, y, rfl, hT, rfl, hu, hy⟩ := y
    cases hu
    exact hs i y T σ' H2 hy p hT) hd⟩
theorem q_forEn {a : Addr} {xs : List V} {tl : TE} (h : Ev tl σ H (.ref a)) (hx : SqT K H a xs) (Pv : Nat → L2.St → Hp → Prop) (h0 : ∀ H1, Ex H H1 → Pv 0 σ H1) (hl : ∀ i σ' H', i ≤ xs.length → Pv i σ' H' → SqT K H' a xs)
    (hs : ∀ i y T σ' H', xs[i]? = some y → Pv i σ' H' → H' T = none → g (.ref T) σ' (upd H' T (.tup [.int (i : Nat), y])) fun σ2 H2 => tu { D with nx := Pv (i + 1), ct := Pv (i + 1), bk := tz D } σ2 H2) (hd : ∀ σ' H', Pv xs.length σ' H' → tz D σ' H') : tSeq (tFor (iEnumT K (tCons tl tNil)) g tu) tz D σ H :=
  s_forEn (D := { D with nx := tz D }) h hx Pv h0 hl hs hd
end
end Wk

set_option Elab.async false
set_option linter.all false
set_option maxRecDepth 100000
set_option maxHeartbeats 4000000
namespace Wk
open PySem PySem.Spec PyProof.Rows L2 Evl
/-! an object made, a method called, where what is raised is wished for at the caller's slots -/
section
variable {X : Cx} {CX : CXT} {k : Nat} {f C : Addr} {fd : FuncData} {ps : List Str} {sp : Sp} {W : L2.St → XK} {x m : Str} {p pos apos : Pos} {e o : Expr} {es : List Expr} {ta : TE} {t : TA}
def tMkAt (C : Addr) (sp : Sp) (W : L2.St → XK) (t : TA) : TE := fun σ H Q => t σ H fun vs H1 => ∀ x dx, H1 x = none → H1 dx = none → dx ≠ x → sp (.ref x :: vs) (upd (upd H1 dx (.own x)) x (.ins C dx [])) (fun v H2 => v = .non ∧ Q (.ref x) H2) (W σ)
theorem pe_mkAt (M : Mk X.K C f) (Fn : FnOk X.prog X.w X.K X.mg X.base CX k f fd ps sp) (hr : Room (k + 1) X.A) (hg : Gl X x) (hm : X.mg x = some (.ref C)) (hb : Binds X.K fd ps []) (hx : ∀ σ, PassesAt CX X σ (W σ)) (ha : PA X (e :: es) t)
    (hdb : (x == ("__debug__" : Str)) = false := by decide) (he : starEach (e :: es) X.env = (false, eval e X.env) :: starEach es X.env := by rfl) (hpl : (backTo pos (starEach es X.env)).any (·.1) = false := by rfl) :
    PE X (.Call (.Name x p) (e :: es) [] pos) (tMkAt C sp W t) := by
  refine ⟨fun pins s σ H Q I h => wpAny_Call_Name_kw (ld_glob I hg hm (PySem.W.callWith_K (h₀ := X.base) I.ok.mod.kin M.kp (thn (ha.run pos pins s σ H _ I h) fun us s1 hh => ?_) he hpl) hdb)⟩
  obtain ⟨vs, H1, I1, r, q⟩ := hh
  refine ⟨I1.kIn, ?_⟩
  have hq := q (s1.heap.objs.size + 1) s1.heap.objs.size (I1.hok.fresh (Nat.le_succ _)) (I1.hok.fresh (Nat.le_refl _)) (Nat.ne_of_lt (Nat.lt_succ_self _))
  have J := Inv.made (C := C) I1
  have rr : Vals (V.ref (s1.heap.objs.size + 1) :: vs) (Value.ref (s1.heap.objs.size + 1) :: us) := .cons rfl r
  have hl : (Value.ref (s1.heap.objs.size + 1) :: us).length = ps.length := rr.length.symm.trans (Fn.len _ _ _ _ hq)
  have bd := hb _ (Value.ref (s1.heap.objs.size + 1) :: us) J.kIn (by rw [List.append_nil]; exact hl)
  rw [List.append_nil] at bd
  refine wpAny_call (make_map (f := f) I1.kIn M.makes M.init (beq_iff_eq.mp M.fn) (codeAny_mono (Fn.run _ X.stack _ _ ⟨_, []⟩ _ _ _ (W σ) (hr.make C us []) (J.env0.make C us []) bd rr hq) fun r s' out => ?_))
  cases r with
  | error er => exact hx σ pins _ _ er s' J out
  | ok fl =>
    cases fl with
    | ret u =>
      obtain ⟨v, H', I3, rv, ev, q3⟩ := J.after out
      subst ev
      exact ⟨rv, ⟨V.ref (s1.heap.objs.size + 1), H', I3, rfl, q3⟩⟩
    | next => exact False.elim out
    | brk => exact False.elim out
    | cont => exact False.elim out
def tMeAt (C : Addr) (m : Str) (sp : Sp) (W : L2.St → XK) (ta : TE) (t : TA) : TE := fun σ H Q => ta σ H fun x H1 => ∃ a dx fs, x = .ref a ∧ H1 a = some (.ins C dx fs) ∧ fs.lookup m = none ∧ t σ H1 fun vs H2 => sp (x :: vs) H2 Q (W σ)
theorem pe_meAt {pl : Sem Bool} (ho : PE X o ta) (c : Cls X.K C) (hm : Meth X.K C m f) (Fn : FnOk X.prog X.w X.K X.mg X.base CX k f fd ps sp) (hr : Room k X.A) (hb : Binds X.K fd ps []) (hx : ∀ σ, PassesAt CX X σ (W σ)) (ha : PA X (e :: es) t)
    (hst : starEach (e :: es) X.env = (false, eval e X.env) :: starEach es X.env := by rfl) (hpl : (backTo pos (starEach es X.env)).any (·.1) = false := by rfl)
    (ht : eval (.Call (.Attribute o m apos) (e :: es) [] pos) X.env = (do
      let ov ← eval o X.env
      standAt apos.atName
      let (f, first) ← holding [ov] (getMethod ov m pl)
      callWith pos f first (backTo pos (starEach (e :: es) X.env)) (backToKw pos (keywordEach [] X.env))) := by rfl) :
    PE X (.Call (.Attribute o m apos) (e :: es) [] pos) (tMeAt C m sp W ta t) := by
  refine ⟨fun pins s σ H Q I h => PySem.W.methodCall_KW (pl := pl) (thn (ho.run pins s σ H _ I h) fun u s1 hh => ?_) ht⟩
  obtain ⟨x, H1, I1, rx, a, dx, fs, ex, ea, l, q⟩ := hh
  subst ex
  obtain rfl : u = Value.ref a := rx
  refine getmeth_ok I1 ea c hm l (PySem.W.callWith_K (first := [.ref a]) (h₀ := X.base) I.ok.mod.kin hm.kp (thn (ha.run pos pins s1 σ H1 _ I1 q) fun us s2 hh => ?_) hst hpl)
  obtain ⟨vs, H2, I2, r, q2⟩ := hh
  exact ⟨I2.kIn, run_fnS (us := .ref a :: us) (vs := .ref a :: vs) Fn hr hb (hx σ) I2 (.cons rfl r) q2⟩
end
/-! an own error with one field -/
/-- __init__ of such an error: self.router = router -/
def spXI (C : Addr) : Sp := fun vs H Q _ => ∃ (a : Addr) (y : V), vs = [.ref a, y] ∧ H a = some (exo a C none) ∧ ∀ dx, H dx = none → dx ≠ a → Q .non (upd (upd H dx (exd dx [("router", y)])) a (exo a C (some dx)))
/-- X(e) is made: where the error's dict is -/
theorem mk_err {C : Addr} {te : TE} {σ : L2.St} {H : Hp} {y : V} {W : XK} (h : Ev te σ H y) (k : ∀ d H', H d = none → Ex H H' → H' d = some (.xd [("router", y)]) → W (.ref C) (some d) H') : tMkO C (spXI C) [] (tCons te tNil) σ H W := by
  refine h H (Ex.refl H) _ fun H1 e => ⟨by show 1 ≤ 1000; decide, fun a ha => ?_⟩
  refine ⟨a, y, rfl, upd_same, fun dx hd hne => ⟨rfl, dx, [("router", y)], upd_same, by rw [upd_ne hne, upd_same], ?_, ?_⟩⟩
  · rw [upd_ne hne] at hd
    exact hd
  · have hd1 : H1 dx = none := by rw [upd_ne hne] at hd; exact hd
    refine k dx _ (fresh_back e hd1) (fun b o hb => ?_) upd_same
    have hb1 := e b o hb
    have nb : b ≠ dx := ne_of_none hb1 hd1
    have na : b ≠ a := ne_of_none hb1 ha
    rw [upd_ne nb, del_ne na, upd_ne na, upd_ne nb, upd_ne na]
    exact hb1
/-! parts of tuples -/
section
variable {K : PySem.W.Frag} {σ : L2.St} {H : Hp} {ta tb te : TE}
/-- what stands in a tuple (an old one or a new one) -/
def EvS (te : TE) (σ : L2.St) (H : Hp) (xs : List V) : Prop := ∀ H1, Ex H H1 → ∀ Q : VK, (∀ p H2, Ex H1 H2 → H2 p = some (.tup xs) → Q (.ref p) H2) → te σ H1 Q
theorem es_sl {a : Addr} {xs : List V} {tl th : TO} {lo hi : Option Int} (h : Ev te σ H (.ref a)) (h1 : EvO tl σ H lo) (h2 : EvO th σ H hi) (hs : H a = some (.tup xs)) : EvS (tSl (rSlA K) te tl th) σ H (cutV xs lo hi) := fun H1 e Q q =>
  h H1 e _ fun H2 e2 => h1 H2 (e.trans e2) _ fun H3 e3 => h2 H3 ((e.trans e2).trans e3) _ fun H4 e4 => by
    have hs4 := (((e.trans e2).trans e3).trans e4) _ _ hs
    refine ⟨a, xs, rfl, st_of hs4, fun hw => ?_, fun hw p hp => q p _ (((e2.trans e3).trans e4).trans (Ex.new hp)) upd_same⟩
    have ec : cutV xs lo hi = xs := by
      unfold cutV
      rw [hw.1, hw.2]
      simp
    rw [ec] at q
    exact q a H4 ((e2.trans e3).trans e4) hs4
theorem es_cat {xs ys : List V} (ha : EvS ta σ H xs) (hb : EvS tb σ H ys) (hz : xs.length + ys.length ≤ 100000) : EvS (tOp (rCatA K) ta tb) σ H (xs ++ ys) := fun H1 e Q q =>
  ha H1 e _ fun p H2 e2 hp => hb H2 (e.trans e2) _ fun p' H3 e3 hp' => by
    have hp3 := e3 _ _ hp
    refine ⟨p, p', xs, ys, rfl, rfl, st_of hp3, st_of hp', sz_of hz, fun hx => ?_, fun _ hy => ?_, fun _ _ r hr => q r _ ((e2.trans e3).trans (Ex.new hr)) upd_same⟩
    · rw [hx] at q
      exact q p' H3 (e2.trans e3) hp'
    · rw [hy, List.append_nil] at q
      exact q p H3 (e2.trans e3) hp3
theorem es_tup {t : TA} {xs : List V} (h : EvA t σ H xs) (hz : xs.length ≤ 100000) : EvS (tTup t) σ H xs := fun H1 e Q q => eu_tup h hz H1 e Q fun p H2 _ e2 hp => q p H2 e2 hp
theorem es_var {a : Addr} {xs : List V} (h : Ev te σ H (.ref a)) (hs : H a = some (.tup xs)) : EvS te σ H xs := fun H1 e Q q => h H1 e _ fun H2 e2 => q a H2 e2 ((e.trans e2) _ _ hs)
theorem es_mono {xs : List V} {H' : Hp} (e : Ex H H') (h : EvS te σ H xs) : EvS te σ H' xs := fun H1 e1 Q q => h H1 (e.trans e1) Q q
end
/-! x in t, t a tuple of data -/
section
variable {X : Cx}
def rInU (K : PySem.W.Frag) : R2 := fun x y H Q => ∃ d ds, Dp K H x d ∧ Dp K H y (.tuple ds) ∧ SeqAt.shaped d = true ∧ PyData.canLayAll0 ds = true ∧ Q (.bl (ds.any fun z => PyData.eqv z d)) H
def rNotInU (K : PySem.W.Frag) : R2 := fun x y H Q => ∃ d ds, Dp K H x d ∧ Dp K H y (.tuple ds) ∧ SeqAt.shaped d = true ∧ PyData.canLayAll0 ds = true ∧ Q (.bl (!ds.any fun z => PyData.eqv z d)) H
theorem op_inU (hu : X.A.units + 66 < cLine) : OpR X (compareOp .In) (rInU X.K) := fun pins s σ H x y v u Q I rx ry h => by
  obtain ⟨d, ds, hd, he, sd, se, q⟩ := h
  obtain ⟨as, r1⟩ := Dp.reads I d x v hd rx
  obtain ⟨bs, r2⟩ := Dp.reads I (.tuple ds) y u he ry
  have hdp := SeqAt.depth_of_shaped sd
  exact SeqAt.in_tuple_reads r2 r1 se (SeqAt.canLay_of_shaped sd) (by have := Nat.min_le_right (PyData.depthAll ds) d.depth; omega) ⟨.bl _, H, I, rfl, q⟩
theorem op_notInU (hu : X.A.units + 66 < cLine) : OpR X (compareOp .NotIn) (rNotInU X.K) := fun pins s σ H x y v u Q I rx ry h => by
  obtain ⟨d, ds, hd, he, sd, se, q⟩ := h
  obtain ⟨as, r1⟩ := Dp.reads I d x v hd rx
  obtain ⟨bs, r2⟩ := Dp.reads I (.tuple ds) y u he ry
  have hdp := SeqAt.depth_of_shaped sd
  exact SeqAt.notIn_tuple_reads r2 r1 se (SeqAt.canLay_of_shaped sd) (by have := Nat.min_le_right (PyData.depthAll ds) d.depth; omega) ⟨.bl _, H, I, rfl, q⟩
end
end Wk

set_option Elab.async false
set_option linter.all false
set_option maxRecDepth 100000
set_option maxHeartbeats 4000000
namespace Wk
open PySem PySem.Spec PyProof.Rows L2 Evl SeqAt
/-! == of a sequence and the empty one: by the lengths alone -/
section
variable {X : Cx}
def rEqEL (K : PySem.W.Frag) : R2 := fun x y H Q => ∃ a b xs, x = .ref a ∧ y = .ref b ∧ SqL K H a xs ∧ SqL K H b [] ∧ Q (.bl xs.isEmpty) H
theorem op_eqEL (hu : X.A.units < cLine) : OpR X (compareOp .Eq) (rEqEL X.K) := fun pins s σ H x y v u Q I rx ry h => by
  obtain ⟨a, b, xs, rfl, rfl, ha, hb, q⟩ := h
  cases rx
  cases ry
  obtain ⟨its, r1, p1, _⟩ := I.list ha
  obtain ⟨its2, r2, p2, _⟩ := I.list hb
  cases r2
  cases r1 with
  | nil => exact eq_listAt (e := fun _ => true) p1.isList p2.isList rfl hu (fun j h1 _ => absurd h1 (by simp)) ⟨.bl true, H, I, rfl, q⟩
  | cons r rr => exact eq_list_lengthsAt p1.isList p2.isList (by simp) hu ⟨.bl false, H, I, rfl, q⟩
def rEqEU (K : PySem.W.Frag) : R2 := fun x y H Q => ∃ a b xs, x = .ref a ∧ y = .ref b ∧ SqT K H a xs ∧ SqT K H b [] ∧ Q (.bl xs.isEmpty) H
theorem op_eqEU (hu : X.A.units < cLine) : OpR X (compareOp .Eq) (rEqEU X.K) := fun pins s σ H x y v u Q I rx ry h => by
  obtain ⟨a, b, xs, rfl, rfl, ha, hb, q⟩ := h
  cases rx
  cases ry
  obtain ⟨its, r1, p1, _⟩ := I.tuple ha
  obtain ⟨its2, r2, p2, _⟩ := I.tuple hb
  cases r2
  refine eq_tupleAt (e := fun _ => true) p1 p2 hu (fun j _ h2 => absurd h2 (by simp)) ⟨.bl xs.isEmpty, H, I, ?_, q⟩
  cases r1 <;> rfl
def rNeEU (K : PySem.W.Frag) : R2 := fun x y H Q => ∃ a b xs, x = .ref a ∧ y = .ref b ∧ SqT K H a xs ∧ SqT K H b [] ∧ Q (.bl (!xs.isEmpty)) H
theorem op_neEU (hu : X.A.units < cLine) : OpR X (compareOp .NotEq) (rNeEU X.K) := fun pins s σ H x y v u Q I rx ry h => by
  obtain ⟨a, b, xs, rfl, rfl, ha, hb, q⟩ := h
  cases rx
  cases ry
  obtain ⟨its, r1, p1, _⟩ := I.tuple ha
  obtain ⟨its2, r2, p2, _⟩ := I.tuple hb
  cases r2
  refine RcNeAt.tuples (e := fun _ => true) p1 p2 hu (fun j _ h2 => absurd h2 (by simp)) X.prog X.w _ _ ⟨.bl (!xs.isEmpty), H, I, ?_, q⟩
  cases r1 <;> rfl
end
/-! a dict and a tuple are unlike -/
theorem dictEqTup (l b : Addr) (o : Obj) (hoc : o.cls = .type "dict") (its : Array Value) (n : Nat) (dd : Option Addr) (sl : Array (Option Value)) :
    Meets (Builtin.«dict.__eq__» ⟨[.ref l, .ref b], []⟩) (fun _ R s => s.heap.get? l = some o ∧ s.heap.get? b = some { cls := .type "tuple", dict := dd, data := .seq its n, slots := sl } ∧ R (.ok (.ret .notImplemented)) s) :=
  .of_wp fun prog w A R s h => by
    obtain ⟨hp, g, d, tk, os⟩ := s
    obtain ⟨hl, hb, h⟩ := h
    obtain ⟨oc, od, dt, os2⟩ := o
    simp only at hoc
    subst hoc
    have f1 := F.sub_tuple_dict
    wp_walk using wpAny_loadPart' hl, wpAny_loadPart' hb
    exact ⟨_, rfl, h⟩
theorem tupEqDict (l b : Addr) (o : Obj) (hoc : o.cls = .type "dict") (its : Array Value) (n : Nat) (dd : Option Addr) (sl : Array (Option Value)) :
    Meets (Builtin.«tuple.__eq__» ⟨[.ref b, .ref l], []⟩) (fun _ R s => s.heap.get? b = some { cls := .type "tuple", dict := dd, data := .seq its n, slots := sl } ∧ s.heap.get? l = some o ∧ R (.ok (.ret .notImplemented)) s) :=
  .of_wp fun prog w A R s h => by
    obtain ⟨hp, g, d, tk, os⟩ := s
    obtain ⟨hb, hl, h⟩ := h
    obtain ⟨oc, od, dt, os2⟩ := o
    simp only at hoc
    subst hoc
    have f1 := F.sub_dict_tuple
    wp_walk using wpAny_loadPart' hl, wpAny_loadPart' hb
    exact ⟨_, rfl, h⟩
section
variable {A : Around} {s : Shared}
theorem eqAt_dictTup {l b : Addr} {o : Obj} {its : Array Value} (hl : s.heap.get? l = some o) (hoc : o.cls = .type "dict") (hb : s.heap.IsTuple b its) (hu : A.units < cLine) : EqAt A s (.ref l) (.ref b) false := by
  obtain ⟨⟨c2, dd, dt, sl⟩, ho2, hc2, n, hd2⟩ := hb
  simp only at hc2 hd2
  subst hc2 hd2
  have hne : l ≠ b := fun z => by
    rw [z, ho2] at hl
    cases hl
    exact absurd hoc (by simp)
  refine EqAt.of_refs hne fun prog w E Q h => ?_
  exact rc_eq_decline_or (k := false) ⟨_, hl, hoc⟩ ⟨_, ho2, rfl⟩ (by decide) F.sub_tuple_dict F.slot_dict_eq F.slot_tuple_eq_refl
    (fun _ hq => call_meets F.slot_dict_eq ⟨_, hl, hoc⟩ F.entry_dict_eq (F.args_dict_eq_2 _ _) (dictEqTup l b o hoc its n dd sl) ⟨hl, ho2, hq⟩)
    (fun _ hq => call_meets F.slot_tuple_eq_refl ⟨_, ho2, rfl⟩ F.entry_tuple_eq (F.args_tuple_eq_2 _ _) (tupEqDict l b o hoc its n dd sl) ⟨ho2, hl, hq⟩)
    (fun _ hq => wpAny_isSame_ref_other hne hl ho2 (by rw [hoc]; simp) hq) (.inr hu) h
end
/-- an item of an edited row -/
def Itm (d : PyData) : Prop := d = .dict [] ∨ (d.canLay0 = true ∧ d.depth ≤ 8)
section
variable {X : Cx}
/-- x not in l, l a list of such items, x a tuple: a flag -/
def rNotInX (K : PySem.W.Frag) : R2 := fun x y H Q => ∃ a p ds vs es, x = .ref a ∧ y = .ref p ∧ H p = some (.lst vs) ∧ DqA H vs ds ∧ (∀ d ∈ ds, Itm d) ∧ Dq H (.ref a) (.tuple es) ∧ PyData.canLay0 (.tuple es) = true ∧ ∀ b : Bool, Q (.bl b) H
theorem op_notInX (hu : X.A.units + 66 < cLine) : OpR X (compareOp .NotIn) (rNotInX X.K) := fun pins s σ H x y v u Q I rx ry h => by
  obtain ⟨a, p, ds, vs, es, rfl, rfl, hp, hds, hi, hx, cx, q⟩ := h
  cases rx
  cases ry
  obtain ⟨its, r1, p1, _⟩ := I.list (sq_of hp)
  have hxp := hx
  cases hxp with
  | tup h1 h2 =>
    obtain ⟨as, rx⟩ := Dp.reads I (.tuple es) (.ref a) (.ref a) (Dq.dp (K := X.K) cx hx) rfl
    obtain ⟨its2, r2, p2, _⟩ := I.tuple (st_of h1)
    have key : ∀ y ∈ its, ∃ b, EqAt X.A.in1 s y (.ref a) b := fun y hy => by
      obtain ⟨i, hiy⟩ := List.mem_iff_getElem?.mp hy
      have hil : i < vs.length := by
        have := (List.getElem?_eq_some_iff.mp hiy).1
        rw [r1.length]; exact this
      have hv : vs[i]? = some vs[i] := List.getElem?_eq_getElem hil
      obtain ⟨u2, hu2, ru⟩ := r1.get hv
      rw [hiy] at hu2
      cases hu2
      obtain ⟨d, ed, hd⟩ := hds.get hv
      rcases hi d (List.mem_of_getElem? ed) with z | ⟨z, zd⟩
      · subst z
        generalize hvv : vs[i] = vv at *
        cases hd with
        | dic hdd =>
          cases ru
          obtain ⟨_, _, vs2, _, o, es2, ep, g1, g2, _⟩ := (show ObjOk X.prog X.w H s.heap _ (.dK []) from I.hok _ _ hdd)
          exact ⟨false, eqAt_dictTup g1 g2.1 p2 (by show X.A.in1.units < cLine; simp; omega)⟩
      · obtain ⟨bs, ry⟩ := Dp.reads I d vs[i] y (Dq.dp (K := X.K) z hd) ru
        exact ⟨_, eqAt_reads d (.tuple es) X.A.in1 s y (.ref a) bs as ry rx z cx (by
          have hm := Nat.min_le_left d.depth (PyData.tuple es).depth
          show X.A.in1.units + _ < cLine
          simp
          omega)⟩
    have key2 : ∃ e : Value → Bool, ∀ y, y ∈ its.toArray → EqAt X.A.in1 s y (.ref a) (e y) := by
      refine ⟨fun y => @decide (EqAt X.A.in1 s y (.ref a) true) (Classical.propDecidable _), fun y hy => ?_⟩
      obtain ⟨b, hb⟩ := key y (by simpa using hy)
      by_cases c : EqAt X.A.in1 s y (.ref a) true
      · simp only [c, decide_true]
      · simp only [c, decide_false]
        cases b with
        | false => exact hb
        | true => exact absurd hb c
    obtain ⟨e, he⟩ := key2
    exact notIn_listAt e p1.isList he ⟨.bl _, H, I, rfl, q _⟩
end
end Wk

set_option Elab.async false
set_option linter.all false
set_option maxRecDepth 100000
set_option maxHeartbeats 2000000
namespace Wk
open PySem PySem.Spec PyProof.Rows L2 Evl
def top (i : Nat) : Stmt := PySem.Challenge.pw_wishreels_k72_chains_judged.main.body.getD i (.Pass ⟨0, 0, 0, 0⟩)
abbrev FnP (K : PySem.W.Frag) (x : Str) (st : Stmt) (f : Addr) (fd : FuncData) : Prop := FunD K x x (defArgs st) (defBody st) (defScope st) [] [] f fd
/-- names that are the built-in ones -/
structure Bl (mg : Str → Option Value) : Prop where
  isi : mg "isinstance" = none
  len : mg "len" = none
  tuple : mg "tuple" = none
  list : mg "list" = none
  int : mg "int" = none
  bool : mg "bool" = none
  str : mg "str" = none
  all : mg "all" = none
  set : mg "set" = none
  enum : mg "enumerate" = none
  range : mg "range" = none
  abs : mg "abs" = none
  min : mg "min" = none
  repr : mg "repr" = none
/-- a pure promise: a plain value, what stood stays -/
def spP (R : Hp → List V → V → Prop) : Sp := fun vs H Q _ => ∃ z, R H vs z ∧ ∀ H', Ex H H' → Q z H'
theorem spP_v {R : Hp → List V → V → Prop} {vs : List V} {H : Hp} {z : V} (h : ∀ H1, Ex H H1 → R H1 vs z) : SpV (spP R) vs H z := fun H1 e Q q E => ⟨z, h H1 e, fun H2 e2 => q H2 e2⟩
def isI : PyData → Bool
  | .int _ => true
  | _ => false
/-- what a datum is worth as an int -/
def valI : PyData → Int
  | .int i => i
  | _ => 0
theorem isI_eq {d : PyData} (h : isI d = true) : d = .int (valI d) := by
  cases d <;> first | rfl | (simp [isI] at h)
theorem kit_int (d : PyData) : ∃ b, kitB (tyN d) "int" = some b ∧ (b = true → ∃ c, kitB (tyN d) "bool" = some c ∧ (b && !c) = isI d) ∧ (b = false → isI d = false) := by
  cases d with
  | none => exact ⟨false, show kitB "NoneType" "int" = some false by decide +kernel, fun h => (by cases h), fun _ => rfl⟩
  | bool b => exact ⟨true, show kitB "bool" "int" = some true by decide +kernel, fun _ => ⟨true, show kitB "bool" "bool" = some true by decide +kernel, rfl⟩, fun h => (by cases h)⟩
  | int i => exact ⟨true, show kitB "int" "int" = some true by decide +kernel, fun _ => ⟨false, show kitB "int" "bool" = some false by decide +kernel, rfl⟩, fun h => (by cases h)⟩
  | str z => exact ⟨false, show kitB "str" "int" = some false by decide +kernel, fun h => (by cases h), fun _ => rfl⟩
  | list ds => exact ⟨false, show kitB "list" "int" = some false by decide +kernel, fun h => (by cases h), fun _ => rfl⟩
  | tuple ds => exact ⟨false, show kitB "tuple" "int" = some false by decide +kernel, fun h => (by cases h), fun _ => rfl⟩
  | dict ds => exact ⟨false, show kitB "dict" "int" = some false by decide +kernel, fun h => (by cases h), fun _ => rfl⟩
def isTu : PyData → Bool
  | .tuple _ => true
  | _ => false
def itemsT : PyData → List PyData
  | .tuple ds => ds
  | _ => []
theorem kit_tup (d : PyData) : kitB (tyN d) "tuple" = some (isTu d) := by
  cases d with
  | none => exact show kitB "NoneType" "tuple" = some false by decide +kernel
  | bool b => exact show kitB "bool" "tuple" = some false by decide +kernel
  | int i => exact show kitB "int" "tuple" = some false by decide +kernel
  | str z => exact show kitB "str" "tuple" = some false by decide +kernel
  | list ds => exact show kitB "list" "tuple" = some false by decide +kernel
  | tuple ds => exact show kitB "tuple" "tuple" = some true by decide +kernel
  | dict ds => exact show kitB "dict" "tuple" = some false by decide +kernel
def isR (n : Int) (d : PyData) : Bool := isI d && (decide (0 ≤ valI d) && decide (valI d ≤ n - 1))
section
variable {P : Program} {w : World} {K : PySem.W.Frag} {mg : Str → Option Value} {base : Heap} {f : Addr} {fd : FuncData}
/-! is_integer, _law_is_int -/
abbrev spIsInt : Sp := spP fun H vs z => ∃ v d, vs = [v] ∧ Dq H v d ∧ z = .bl (isI d)
abbrev sIsInt : Stmt := top 1
theorem scIsInt : FnScope ["thing"] ["thing"] (defScope sIsInt) := ⟨rfl, rfl, rfl, by decide +kernel, rfl, by decide +kernel, by decide +kernel⟩
theorem ok_isInt (B : Bl mg) (F : FnP K "is_integer" sIsInt f fd) : FnOk P w K mg base CX0 1 f fd ["thing"] spIsInt := by
  refine F.ok scIsInt (fun vs H Q E h => ?_) (fun cdv A outer s H vs Q E hr h => ?_)
  · obtain ⟨z, ⟨v, d, rfl, _⟩, _⟩ := h
    rfl
  · obtain ⟨z, ⟨v, d, rfl, hd, rfl⟩, k⟩ := h
    refine ⟨_, pss_one (ps_ret (pe_and (pe_callB call_isi (by rfl) B.isi boot_isinstance (pa_cons (pv 0) (pa_cons (pe_bltn (v := .ty "int") (by rfl) B.int PyProof.Rows.boot_int rfl) pa_nil)))
      (pe_one (pe_not (pe_callB call_isi (by rfl) B.isi boot_isinstance (pa_cons (pv 0) (pa_cons (pe_bltn (v := .ty "bool") (by rfl) B.bool PyProof.Rows.boot_bool rfl) pa_nil))))))), ?_⟩
    obtain ⟨b, hb, h1, h2⟩ := kit_int d
    have v0 : Ev (tVar 0) (start ["thing"] [v]) H v := ev_var rfl
    cases b with
    | true =>
      obtain ⟨c, hc, e⟩ := h1 rfl
      rw [← e] at k
      exact s_ret (ev_andV (ev_isi v0 hd hb) fun _ => ev_notV (ev_isi v0 hd hc)) k
    | false =>
      rw [h2 rfl] at k
      exact s_ret (ev_andV (b := false) (ev_isi v0 hd hb) fun z => (by cases z)) k

/-! is_between, is_router -/
abbrev spBetween : Sp := spP fun H vs z => ∃ (a b : Int) (v : V) (d : PyData), vs = [.int a, .int b, v] ∧ Dq H v d ∧ z = .bl (isI d && (decide (a ≤ valI d) && decide (valI d ≤ b)))
abbrev sBetween : Stmt := top 2
theorem scBetween : FnScope ["least", "most", "thing"] ["least", "most", "thing"] (defScope sBetween) := ⟨rfl, rfl, rfl, by decide +kernel, rfl, by decide +kernel, by decide +kernel⟩
theorem ok_between (B : Bl mg) (C : Cal P w K mg base "is_integer" ["thing"] 1 spIsInt) (F : FnP K "is_between" sBetween f fd) : FnOk P w K mg base CX0 2 f fd ["least", "most", "thing"] spBetween := by
  refine F.ok scBetween (fun vs H Q E h => ?_) (fun cdv A outer s H vs Q E hr h => ?_)
  · obtain ⟨z, ⟨a, b, v, d, rfl, _⟩, _⟩ := h
    rfl
  · obtain ⟨z, ⟨a, b, v, d, rfl, hd, rfl⟩, k⟩ := h
    refine ⟨_, pss_one (ps_ret (pe_and (pe_cal C hr (by rfl) (pa_cons (pv 2) pa_nil)) (pe_one (pe_chain op_le op_le (pv 0) (pv 2) (pv 1))))), ?_⟩
    have v0 : Ev (tVar 0) (start ["least", "most", "thing"] [.int a, .int b, v]) H (.int a) := ev_var rfl
    have v1 : Ev (tVar 1) (start ["least", "most", "thing"] [.int a, .int b, v]) H (.int b) := ev_var rfl
    have v2 : Ev (tVar 2) (start ["least", "most", "thing"] [.int a, .int b, v]) H v := ev_var rfl
    refine s_ret (ev_andV (a := isI d) (ev_call (ea_cons v2 ea_nil) (spP_v fun H1 e => ⟨v, d, rfl, hd.mono e, rfl⟩)) fun hi => ?_) k
    rw [isI_eq hi] at hd
    cases hd
    exact ev_chain v0 v2 v1 rv_I0 rv_I0
end
end Wk

set_option Elab.async false
set_option linter.all false
set_option maxRecDepth 100000
set_option maxHeartbeats 2000000
namespace Wk
open PySem PySem.Spec PyProof.Rows L2 Evl
theorem cut_to (xs : List V) (i : Nat) (h : i ≤ xs.length) : cutV xs none (some (i : Int)) = xs.take i := by
  unfold cutV
  rw [HT.sIx_none, HT.sIx_nat, Nat.min_eq_left h]
  simp
theorem flat_ints (ns : List Int) : (ns.map V.int).all flatV = true := by
  rw [List.all_map, List.all_eq_true]
  intro x _
  rfl
theorem cut_from (xs : List V) (i : Nat) (h : i ≤ xs.length) : cutV xs (some (i : Int)) none = xs.drop i := by
  unfold cutV
  rw [HT.sIx_nat, HT.sIx_none, Nat.min_eq_left h]
  exact List.take_of_length_le (by simp)
theorem seqIx {k n : Nat} (h : k < n) : seqIndex? (k : Int) n = some k := by
  have q := ixN_seq (n := n) (i := (k : Int)) (j := k) (by
    unfold ixN
    rw [if_pos (by omega), if_pos (by omega)]
    simp)
  exact q.1
theorem ix_listK {X : Cx} {K : PySem.W.Frag} (hK : X.K = K) : IxR X (rIxL K) := by
  subst hK
  exact ix_list
theorem ixNat {n : Nat} {x : Int} (h0 : 0 ≤ x) (h1 : x < n) : ixN n x = some x.toNat := by
  unfold ixN
  rw [if_pos h0, if_pos h1]
theorem at_ints {os : List Int} {j : Nat} (h : j < os.length) : atI (os.map V.int) (j : Int) = some (.int os[j]) := atI_nat (by rw [List.getElem?_map, List.getElem?_eq_getElem h]; rfl)
theorem g_name {i : Nat} {x : V} {σ : L2.St} {H : Hp} {k : L2.St → Hp → Prop} (h : k (σ.set i (some x)) H) : gName i x σ H k := h
theorem asg_lst1 {te : TE} {g : TG} {D : Ends} {σ : L2.St} {H : Hp} (h : te σ H fun x H1 => 1 ≤ sizeLine ∧ ∀ b, H1 b = none → g (.ref b) σ (upd H1 b (.lst [x])) D.nx) : tAsg (tLst (tCons te tNil)) g D σ H := h
theorem cb1 {r : List V → Hp → VK → Prop} {ta : TE} {σ : L2.St} {H : Hp} {Q : VK} (h : ta σ H fun x H1 => r [x] H1 Q) : tCB r (tCons ta tNil) σ H Q := h
theorem q_c {i : Nat} {v : V} {tz : TS} {D : Ends} {σ : L2.St} {H : Hp} (h : tz D (σ.set i (some v)) H) : tSeq (tAsg (tC v) (gName i)) tz D σ H := h
theorem call_tupleK {X : Cx} {K : PySem.W.Frag} (hK : X.K = K) : CallR X (.type "tuple") (fun xs H Q => ∃ p ys, xs = [.ref p] ∧ ((SqL K H p ys ∧ ∀ l, H l = none → Q (.ref l) (upd H l (.tup ys))) ∨ (SqT K H p ys ∧ Q (.ref p) H))) := by
  subst hK
  exact call_tuple_of
theorem ret_cb {r : List V → Hp → VK → Prop} {ta : TE} {D : Ends} {σ : L2.St} {H : Hp} (h : ta σ H fun x H1 => r [x] H1 D.rt) : tRet (tCB r (tCons ta tNil)) D σ H := h
theorem ret_op {r : R2} {ta tb : TE} {D : Ends} {σ : L2.St} {H : Hp} (h : ta σ H fun x H1 => tb σ H1 fun y H2 => r x y H2 D.rt) : tRet (tOp r ta tb) D σ H := h
theorem call_listK2 {X : Cx} {K : PySem.W.Frag} (hK : X.K = K) : CallR X (.type "list") (fun xs H Q => ∃ p ys, xs = [.ref p] ∧ (SqL K H p ys ∨ SqT K H p ys) ∧ ∀ l, H l = none → Q (.ref l) (upd H l (.lst ys))) := by
  subst hK
  exact call_list_of
theorem take_snoc {α : Type} {l : List α} {i : Nat} {x : α} (h : l[i]? = some x) : l.take (i + 1) = l.take i ++ [x] := by
  rw [List.take_add_one, h]
  rfl
theorem ev_inS {K : PySem.W.Frag} {σ : L2.St} {H : Hp} {ta tb : TE} {x : V} {xs : List V} (ha : Ev ta σ H x) (hb : EvS tb σ H xs) (hx : flatV x = true) (hf : xs.all flatV = true) : Ev (tOp (rIn K false) ta tb) σ H (.bl (inV x xs)) := fun H1 e Q q =>
  ha H1 e _ fun H2 e2 => hb H2 (e.trans e2) _ fun p H3 e3 hp => ⟨p, xs, rfl, .inr (st_of hp), hx, hf, q H3 (e2.trans e3)⟩
theorem modP (a b : Int) (h : 0 < b) : 0 ≤ a % b ∧ a % b < b := ⟨Int.emod_nonneg _ (by omega), Int.emod_lt_of_pos _ h⟩
theorem q_asgW {te : TE} {tz : TS} {D : Ends} {σ : L2.St} {H : Hp} {i : Nat} (h : te σ H fun x H1 => tz D (σ.set i (some x)) H1) : tSeq (tAsg te (gName i)) tz D σ H := h
end Wk

set_option Elab.async false
set_option linter.all false
set_option maxRecDepth 100000
set_option maxHeartbeats 2000000
namespace Wk
open PySem PySem.Spec PyProof.Rows L2 Evl
/-! the pool: the list at p of the list at q that stays, and of three numbers; G is what stays -/
structure Pm (G H : Hp) (p q : Addr) : Prop where
  ex : Ex G H
  gp : G p = none
  gq : ∃ cs : List Int, G q = some (.lst (cs.map V.int)) ∧ cs.length ≤ 63
  at_ : ∃ (a b c : Int), H p = some (.lst [.ref q, .int a, .int b, .int c]) ∧ 0 ≤ a ∧ 0 ≤ b ∧ 0 ≤ c
theorem Pm.np {G H : Hp} {p q a : Addr} (h : Pm G H p q) (ha : H a = none) : a ≠ p := fun z => by
  obtain ⟨a', b, c, h2, _⟩ := h.at_
  rw [z, h2] at ha
  cases ha
theorem Pm.ext {G H H' : Hp} {p q : Addr} (h : Pm G H p q) (e : Ex H H') : Pm G H' p q := by
  obtain ⟨a, b, c, h2, r⟩ := h.at_
  exact ⟨h.ex.trans e, h.gp, h.gq, a, b, c, e _ _ h2, r⟩
theorem Pm.new {G H : Hp} {p q a : Addr} {o : HO} (h : Pm G H p q) (ha : H a = none) : Pm (upd G a o) (upd H a o) p q := by
  obtain ⟨a', b, c, h2, r⟩ := h.at_
  obtain ⟨cs, h0, h1⟩ := h.gq
  have np := h.np ha
  have ga := fresh_back h.ex ha
  refine ⟨fun b u hb => ?_, by rw [upd_ne (Ne.symm np)]; exact h.gp, ⟨cs, (Ex.new ga) _ _ h0, h1⟩, a', b, c, by rw [upd_ne (Ne.symm np)]; exact h2, r⟩
  by_cases c : b = a
  · rw [c, upd_same] at hb ⊢
    exact hb
  · rw [upd_ne c] at hb ⊢
    exact h.ex _ _ hb
theorem Pm.mut {G H : Hp} {p q a : Addr} {o : HO} (h : Pm G H p q) (ga : G a = none) (np : a ≠ p) : Pm G (upd H a o) p q := by
  obtain ⟨a', b, c, h2, r⟩ := h.at_
  exact ⟨Ex.mut h.ex ga, h.gp, h.gq, a', b, c, by rw [upd_ne (Ne.symm np)]; exact h2, r⟩
theorem Pm.hold {G H : Hp} {p q a : Addr} {o : HO} (h : Pm G H p q) (ha : H a = some o) (np : a ≠ p) (ga : G a = none) : Pm (upd G a o) H p q := by
  obtain ⟨cs, h0, h1⟩ := h.gq
  refine ⟨fun b u hb => ?_, by rw [upd_ne (Ne.symm np)]; exact h.gp, ⟨cs, (Ex.new ga) _ _ h0, h1⟩, h.at_⟩
  by_cases c : b = a
  · rw [c, upd_same] at hb
    cases hb
    rw [c]
    exact ha
  · rw [upd_ne c] at hb
    exact h.ex _ _ hb
def Of1 (p : Addr) (H H' : Hp) : Prop := ∀ b o, b ≠ p → H b = some o → H' b = some o
theorem Of1.refl (p : Addr) (H : Hp) : Of1 p H H := fun _ _ _ h => h
theorem Of1.trans {p : Addr} {H H1 H2 : Hp} (a : Of1 p H H1) (b : Of1 p H1 H2) : Of1 p H H2 := fun c o h1 h => b c o h1 (a c o h1 h)
theorem Of1.ex {p : Addr} {H H1 : Hp} (e : Ex H H1) : Of1 p H H1 := fun c o _ h => e c o h
open Classical in
noncomputable def Hd1 (H : Hp) (p : Addr) : Hp := fun b => if b = p then none else H b
theorem hd1_at {H : Hp} {p b : Addr} (hp : b ≠ p) : Hd1 H p b = H b := by
  unfold Hd1
  rw [if_neg hp]
theorem Pm.sub {G H : Hp} {p q : Addr} (h : Pm G H p q) : Ex G (Hd1 H p) := fun b o hb => by
  have hp : b ≠ p := fun z => by rw [z, h.gp] at hb; cases hb
  rw [hd1_at hp]
  exact h.ex _ _ hb
theorem Pm.hd {G H : Hp} {p q : Addr} (h : Pm G H p q) : Pm (Hd1 H p) H p q := by
  obtain ⟨cs, h0, h1⟩ := h.gq
  refine ⟨fun b o hb => ?_, by unfold Hd1; rw [if_pos rfl], ⟨cs, h.sub _ _ h0, h1⟩, h.at_⟩
  unfold Hd1 at hb
  split at hb
  · cases hb
  · exact hb
theorem Pm.off {H H' : Hp} {p q : Addr} (h : Pm (Hd1 H p) H' p q) : Of1 p H H' := fun b o hp hb => h.ex b o (by rw [hd1_at hp]; exact hb)
theorem Pm.back {G H H' : Hp} {p q : Addr} (h0 : Pm G H p q) (h : Pm (Hd1 H p) H' p q) : Pm G H' p q := ⟨h0.sub.trans h.ex, h0.gp, h0.gq, h.at_⟩
/-- less stays -/
theorem Pm.less {G G' H : Hp} {p q : Addr} (h : Pm G H p q) (e : Ex G' G) (hq : ∃ cs : List Int, G' q = some (.lst (cs.map V.int)) ∧ cs.length ≤ 63) : Pm G' H p q := ⟨e.trans h.ex, fresh_back e h.gp, hq, h.at_⟩
theorem rng_getD (ns : List Int) : (List.range ns.length).map (fun i => V.int (ns.getD i 0)) = ns.map V.int := by
  apply List.ext_getElem
  · simp
  · intro i h1 h2
    have h3 : i < ns.length := by simpa using h1
    simp [List.getD_eq_getElem?_getD, List.getElem?_eq_getElem h3]
theorem given_yesAll (n : Nat) (v : Nat → V) : given n (fun _ => true) v = (List.range n).map v := by
  unfold given
  rw [List.filter_eq_self.mpr fun _ _ => rfl]
theorem cut_all {ns : List Int} (h : ns.length ≤ 63) : cutV (ns.map V.int) none (some 63) = ns.map V.int := by
  unfold cutV
  rw [HT.sIx_none, show ((63 : Int)) = ((63 : Nat) : Int) from rfl, HT.sIx_nat, List.length_map, Nat.min_eq_right h]
  simp
  exact List.take_of_length_le (by simp)
theorem ret_lst1 {te : TE} {ta : TA} {D : Ends} {σ : L2.St} {H : Hp} (h : te σ H fun x H1 => ta σ H1 fun vs H2 => (x :: vs).length ≤ sizeLine ∧ ∀ l, H2 l = none → D.rt (.ref l) (upd H2 l (.lst (x :: vs)))) : tRet (tLst (tCons te ta)) D σ H := h
section
variable {P : Program} {w : World} {K : PySem.W.Frag} {mg : Str → Option Value} {base : Heap} {f : Addr} {fd : FuncData}
/-! _law_pool -/
def spPool (K : PySem.W.Frag) : Sp := fun vs H Q _ => ∃ (a : Addr) (ns : List Int), vs = [.ref a] ∧ SqL K H a (ns.map V.int) ∧ ns.length ≤ 63 ∧ ∀ G H' p q, Ex H G → Pm G H' p q → Q (.ref p) H'
abbrev sPool : Stmt := top 6
abbrev nPool : List Str := ["_law_script", "_law_cell"]
theorem scPool : FnScope nPool ["_law_script"] (defScope sPool) := ⟨rfl, rfl, rfl, by decide +kernel, rfl, by decide +kernel, by decide +kernel⟩
theorem ok_pool (B : Bl mg) (F : FnP K "_law_pool" sPool f fd) : FnOk P w K mg base CX0 1 f fd ["_law_script"] (spPool K) := by
  refine F.ok scPool (fun vs H Q E h => ?_) (fun cdv A outer s H vs Q E hr h => ?_)
  · obtain ⟨a, ns, rfl, _⟩ := h
    rfl
  · obtain ⟨a, ns, rfl, hs, hl, k⟩ := h
    refine ⟨_, pss_one (ps_ret (pe_lst (pa_cons (pe_lc (own := [("_law_cell", 1)]) (g := gName 1) (tt := tYes) rfl scPool.nd (pi_list (pe_slice sl_list (pv 0) po_none (po_some pe_int))) (blkOk_by (N := nPool) (sc := defScope sPool) (by decide +kernel))
          (fun _ _ _ _ _ => pg_name (i := 1) scPool.nd rfl (Or.inl rfl)) (fun _ _ _ _ _ => pts_nil)
          (fun _ _ _ _ _ => pe_callTy call_int1 (by rfl) B.int PyProof.Rows.boot_int (pa_cons (pv 1) pa_nil))) (pa_cons pe_int (pa_cons pe_int (pa_cons pe_int pa_nil)))))), ?_⟩
    have hsl : EvL (tSl (rSlL K) (tVar 0) tNoPart (tPart (tC (.int 63)))) (wipe (start nPool [V.ref a]) [1]) H (ns.map V.int) := by
      have q := el_sl (K := K) (te := tVar 0) (σ := wipe (start nPool [V.ref a]) [1]) (H := H) (ev_var rfl) eo_none (eo_some (i := 63) ev_c) hs
      rw [cut_all hl] at q
      exact q
    have hlc := el_lcNL (K := K) (σ := start nPool [V.ref a]) (H := H) (j := 1) (vs := [1]) (te := tCB (fun xs H Q => (∃ i, xs = [.int i] ∧ Q (.int i) H) ∨ ∃ k, xs = [.bl k] ∧ Q (.int (if k then 1 else 0)) H) (tCons (tVar 1) tNil)) (t := tYes) (fun _ => true) (fun i => V.int (ns.getD i 0)) hsl (by rw [List.length_map]; omega) (fun x => rfl) (fun _ _ _ _ _ => et_yes) (fun i x H1 e hx _ => by
      rw [List.getElem?_map] at hx
      cases hn : ns[i]? with
      | none => rw [hn] at hx; cases hx
      | some n =>
        rw [hn] at hx
        have ex : x = .int n := (Option.some.inj hx).symm
        subst ex
        rw [show ns.getD i 0 = n by rw [List.getD_eq_getElem?_getD, hn]; rfl]
        exact ev_cb (ea_cons (ev_var rfl) ea_nil) fun H2 e2 Q2 q => .inl ⟨n, rfl, q H2 (Ex.refl H2)⟩)
    rw [given_yesAll, List.length_map, rng_getD] at hlc
    refine ret_lst1 (hlc H (Ex.refl _) _ fun q H1 hq e1 hq1 => ?_)
    refine ⟨by show 4 ≤ sizeLine; decide, fun p hp => ?_⟩
    exact k H1 _ p q e1 ⟨Ex.new hp, hp, ⟨ns, hq1, hl⟩, 0, 0, 0, upd_same, by decide, by decide, by decide⟩
/-! _law_mixed -/
def mx1 (c m : Int) : Int := ((c + 7919 * m + 1) * 48271) % 2147483647
def mx2 (y : Int) : Int := (y * (y / 1009 + 69621)) % 2147483647
def mx3 (y : Int) : Int := (y * (y / 2003 + 40692)) % 2147483399
def mixI (c m : Int) : Int := mx3 (mx2 (mx1 c m))
theorem mixI_nn (c m : Int) : 0 ≤ mixI c m := (modP _ 2147483399 (by decide)).1
abbrev spMixed : Sp := spP fun _ vs z => ∃ c m : Int, vs = [.int c, .int m] ∧ z = .int (mixI c m)
abbrev sMixed : Stmt := top 7
abbrev nMixed : List Str := ["_law_cell", "_law_many", "_law_number"]
theorem scMixed : FnScope nMixed ["_law_cell", "_law_many"] (defScope sMixed) := ⟨rfl, rfl, rfl, by decide +kernel, rfl, by decide +kernel, by decide +kernel⟩
theorem ok_mixed (B : Bl mg) (F : FnP K "_law_mixed" sMixed f fd) : FnOk P w K mg base CX0 1 f fd ["_law_cell", "_law_many"] spMixed := by
  refine F.ok scMixed (fun vs H Q E h => ?_) (fun cdv A outer s H vs Q E hr h => ?_)
  · obtain ⟨z, ⟨c, m, rfl, _⟩, _⟩ := h
    rfl
  · obtain ⟨z, ⟨c, m, rfl, rfl⟩, k⟩ := h
    refine ⟨_, pss_cons (ps_set (i := 2) scMixed.nd rfl (Or.inl rfl) (pe_op op_mod (pe_callTy call_int1 (by rfl) B.int PyProof.Rows.boot_int (pa_cons (pe_op op_mul (pe_op op_add (pe_op op_add (pv 0) (pe_op op_mul pe_int (pv 1))) pe_int) pe_int) pa_nil)) pe_int))
      (pss_cons (ps_set (i := 2) scMixed.nd rfl (Or.inl rfl) (pe_op op_mod (pe_callTy call_int1 (by rfl) B.int PyProof.Rows.boot_int (pa_cons (pe_op op_mul (pv 2) (pe_op op_add (pe_op op_fdiv (pv 2) pe_int) pe_int)) pa_nil)) pe_int))
      (pss_one (ps_ret (pe_op op_mod (pe_callTy call_int1 (by rfl) B.int PyProof.Rows.boot_int (pa_cons (pe_op op_mul (pv 2) (pe_op op_add (pe_op op_fdiv (pv 2) pe_int) pe_int)) pa_nil)) pe_int)))), ?_⟩
    refine ⟨.int c, rfl, .int m, rfl, 7919, m, rfl, rfl, .inl ⟨by decide, by decide⟩, c, _, rfl, rfl, _, 1, rfl, rfl, _, 48271, rfl, rfl, .inr ⟨by decide, by decide⟩, .inl ⟨_, rfl, _, 2147483647, rfl, rfl, (show (0 : Int) < 2147483647 by decide), ?_⟩⟩
    have m1 := modP ((c + 7919 * m + 1) * 48271) 2147483647 (by decide)
    change tSeq _ _ _ [some (.int c), some (.int m), some (.int (mx1 c m))] H
    have k' : ∀ H', Ex H H' → Q (.int (mx3 (mx2 (mx1 c m)))) H' := k
    have hy1 : 0 ≤ mx1 c m ∧ mx1 c m < 2147483647 := m1
    generalize mx1 c m = y1 at k' hy1 ⊢
    refine ⟨.int y1, rfl, .int y1, rfl, y1, 1009, rfl, rfl, ⟨by decide, by decide⟩, _, 69621, rfl, rfl, y1, _, rfl, rfl, .inl ⟨by omega, by omega⟩, .inl ⟨_, rfl, _, 2147483647, rfl, rfl, (show (0 : Int) < 2147483647 by decide), ?_⟩⟩
    have m2 : 0 ≤ mx2 y1 ∧ mx2 y1 < 2147483647 := modP (y1 * (y1 / 1009 + 69621)) 2147483647 (by decide)
    refine g_name ?_
    exact ⟨.int (mx2 y1), rfl, .int (mx2 y1), rfl, mx2 y1, 2003, rfl, rfl, ⟨by decide, by decide⟩, _, 40692, rfl, rfl, mx2 y1, _, rfl, rfl, .inl ⟨by omega, by omega⟩, .inl ⟨_, rfl, _, 2147483399, rfl, rfl, (show (0 : Int) < 2147483399 by decide), k' H (Ex.refl _)⟩⟩
/-! _law_draw -/
def spDraw : Sp := fun vs H Q _ => ∃ (G : Hp) (p q : Addr) (z : Int), vs = [.ref p, .int z] ∧ Pm G H p q ∧ 0 < z ∧ z ≤ 1000000000 ∧ ∀ H' (i : Int), Pm G H' p q → 0 ≤ i → i < z → Q (.int i) H'
abbrev sDraw : Stmt := top 8
abbrev nDraw : List Str := ["_law_pool_here", "_law_limit", "_law_drawn", "_law_cell", "_law_fresh"]
theorem scDraw : FnScope nDraw ["_law_pool_here", "_law_limit"] (defScope sDraw) := ⟨rfl, rfl, rfl, by decide +kernel, rfl, by decide +kernel, by decide +kernel⟩
theorem ok_draw (B : Bl mg) (C : Cal P w K mg base "_law_mixed" ["_law_cell", "_law_many"] 1 spMixed) (F : FnP K "_law_draw" sDraw f fd) : FnOk P w K mg base CX0 2 f fd ["_law_pool_here", "_law_limit"] spDraw := by
  refine F.ok scDraw (fun vs H Q E h => ?_) (fun cdv A outer s H vs Q E hr h => ?_)
  · obtain ⟨G, p, q, z, rfl, _⟩ := h
    rfl
  · obtain ⟨G, p, q, z, rfl, hP, hz, hz2, k⟩ := h
    refine ⟨_, pss_cons (ps_asg (pe_op op_add (pe_ix ix_list (pv 0) pe_int (fun _ _ => rfl)) pe_int) (pg_sub (pv 0) pe_int set_list))
      (pss_cons (ps_if (pt_cmpR op_ge (pe_ix ix_list (pv 0) pe_int (fun _ _ => rfl)) (pv 1) (nomark _))
          (pss_cons (ps_set (i := 2) scDraw.nd rfl (Or.inl rfl) (pe_op op_mod (pe_callTy call_int1 (by rfl) B.int PyProof.Rows.boot_int (pa_cons (pe_ix ix_list (pv 0) pe_int (fun _ _ => rfl)) pa_nil)) (pv 1)))
          (pss_cons (ps_asg (pe_op op_fdiv (pe_ix ix_list (pv 0) pe_int (fun _ _ => rfl)) (pv 1)) (pg_sub (pv 0) pe_int set_list))
          (pss_one (ps_ret (pv 2))))) pss_nil)
      (pss_cons (ps_set (i := 3) scDraw.nd rfl (Or.inl rfl) pe_int)
      (pss_cons (ps_set (i := 4) scDraw.nd rfl (Or.inl rfl) (pe_cmpR op_lt (pe_ix ix_list (pv 0) pe_int (fun _ _ => rfl)) (pe_callB call_len_seq (by rfl) B.len PySem.boot_len (pa_cons (pe_ix ix_list (pv 0) pe_int (fun _ _ => rfl)) pa_nil)) (nomark _)))
      (pss_cut (ps_if (pt_cmpR op_gt (pe_callB call_len_seq (by rfl) B.len PySem.boot_len (pa_cons (pe_ix ix_list (pv 0) pe_int (fun _ _ => rfl)) pa_nil)) pe_int (nomark _))
          (pss_one (ps_set (i := 3) scDraw.nd rfl (Or.inl rfl) (pe_callB call_abs (by rfl) B.abs boot_abs (pa_cons (pe_ix ix_list (pe_ix ix_list (pv 0) pe_int (fun _ _ => rfl)) (pe_op op_mod (pe_callTy call_int1 (by rfl) B.int PyProof.Rows.boot_int (pa_cons (pe_ix ix_list (pv 0) pe_int (fun _ _ => rfl)) pa_nil)) (pe_callB call_len_seq (by rfl) B.len PySem.boot_len (pa_cons (pe_ix ix_list (pv 0) pe_int (fun _ _ => rfl)) pa_nil))) (fun _ _ => rfl)) pa_nil)))) pss_nil)
      (pss_cons (ps_asg (pe_op op_add (pe_ix ix_list (pv 0) pe_int (fun _ _ => rfl)) pe_int) (pg_sub (pv 0) pe_int set_list))
      (pss_cons (ps_asg pe_int (pg_sub (pv 0) pe_int set_list))
      (pss_cons (ps_if (PW.pt (pw_and (pt_val (pv 4)) (pw_and1 (pt_cmpR op_ge (pv 3) (pe_op op_pow pe_int pe_int) (nomark _)))))
          (pss_cons (ps_asg (pe_op op_fdiv (pv 3) (pv 1)) (pg_sub (pv 0) pe_int set_list))
          (pss_one (ps_ret (pe_op op_mod (pe_callTy call_int1 (by rfl) B.int PyProof.Rows.boot_int (pa_cons (pv 3) pa_nil)) (pv 1))))) pss_nil)
      (pss_one (ps_ret (pe_op op_mod (pe_callTy call_int1 (by rfl) B.int PyProof.Rows.boot_int (pa_cons (pe_op op_fdiv (pe_cal C hr (by rfl) (pa_cons (pv 3) (pa_cons (pe_ix ix_list (pv 0) pe_int (fun _ _ => rfl)) pa_nil))) pe_int) pa_nil)) (pv 1))))))))))), ?_⟩
    obtain ⟨cs, gq, hcs⟩ := hP.gq
    obtain ⟨a, b, c, hp, ha, hb, hc⟩ := hP.at_
    have hzz : z < 2 ^ 30 := by omega
    refine ⟨.ref p, rfl, p, _, 3, .int c, rfl, rfl, sq_of hp, rfl, c, 1, rfl, rfl, .ref p, rfl, p, _, 3, 3, rfl, rfl, hp, rfl, ?_⟩
    have hpa : (upd H p (.lst ([V.ref q, .int a, .int b, .int c].set 3 (.int (c + 1))))) p = some (.lst [.ref q, .int a, .int b, .int (c + 1)]) := upd_same
    have hPa : Ex G (upd H p (.lst ([V.ref q, .int a, .int b, .int c].set 3 (.int (c + 1))))) := Ex.mut hP.ex hP.gp
    generalize upd H p (.lst ([V.ref q, .int a, .int b, .int c].set 3 (.int (c + 1)))) = H1 at *
    have hc1 : 0 ≤ c + 1 := by omega
    generalize c + 1 = c' at *
    have hq1 := hPa _ _ gq
    refine q_when (b := decide (z ≤ b)) (et_test (ev_op (r := rI0 fun i j => .bl (decide (j ≤ i))) (x := .int b) (y := .int z) (ev_op (ev_var rfl) ev_c (rv_ixL (K := K) (i := 2) (sq_of hpa) rfl)) (ev_var rfl) rv_I0)) (fun hbz H2 e2 => ?_) (fun hbz H2 e2 => ?_)
    · have hp2 := e2 _ _ hpa
      have m := modP b z hz
      refine ⟨.ref p, rfl, p, _, 2, .int b, rfl, rfl, sq_of hp2, rfl, .inl ⟨b, rfl, .int z, rfl, b, z, rfl, rfl, hz, ?_⟩⟩
      refine g_name ?_
      dsimp only
      refine ⟨.ref p, rfl, p, _, 2, .int b, rfl, rfl, sq_of hp2, rfl, .int z, rfl, b, z, rfl, rfl, ⟨hz, by omega⟩, .ref p, rfl, p, _, 2, 2, rfl, rfl, hp2, rfl, ?_⟩
      refine ⟨_, rfl, k _ _ ⟨Ex.mut (hPa.trans e2) hP.gp, hP.gp, hP.gq, _, _, _, upd_same, ha, ?_, hc1⟩ m.1 m.2⟩
      exact Int.ediv_nonneg hb (by omega)
    · have hp2 := e2 _ _ hpa
      have hq2 := e2 _ _ hq1
      have hP2 := hPa.trans e2
      refine q_c ?_
      refine q_asg (v := .bl (decide (a < (cs.length : Int)))) (by
        have z := ev_len (K := K) (ta := tOp (rIxL K) (tVar 0) (tC (.int 0))) (σ := [some (.ref p), some (.int z), none, some (.int 0), none]) (H := H2) (ev_op (ev_var rfl) ev_c (rv_ixL (K := K) (i := 0) (sq_of hp2) rfl)) (sq_of hq2)
        rw [List.length_map] at z
        exact ev_op (r := rI0 fun i j => .bl (decide (i < j))) (ev_op (ev_var rfl) ev_c (rv_ixL (K := K) (i := 1) (sq_of hp2) rfl)) z rv_I0) fun H3 e3 => ?_
      have hp3 := e3 _ _ hp2
      have hq3 := e3 _ _ hq2
      have hP3 := hP2.trans e3
      generalize decide (a < (cs.length : Int)) = fr
      change tCut _ _ _ [some (.ref p), some (.int z), none, some (.int 0), some (.bl fr)] H3
      refine q_cut (M := fun σ' H' => ∃ v : Int, 0 ≤ v ∧ σ' = [some (.ref p), some (.int z), none, some (.int v), some (.bl fr)] ∧ Ex H3 H') ?_ ?_
      · refine s_when (b := decide (0 < (cs.length : Int))) (et_test (by
          have z := ev_len (K := K) (ta := tOp (rIxL K) (tVar 0) (tC (.int 0))) (σ := [some (.ref p), some (.int z), none, some (.int 0), some (.bl fr)]) (H := H3) (ev_op (ev_var rfl) ev_c (rv_ixL (K := K) (i := 0) (sq_of hp3) rfl)) (sq_of hq3)
          rw [List.length_map] at z
          exact ev_op (r := rI0 fun i j => .bl (decide (j < i))) z ev_c rv_I0)) (fun h0 H4 e4 => ?_) (fun _ H4 e4 => ⟨0, by decide, rfl, e4⟩)
        have h0 := of_decide_eq_true h0
        have hp4 := e4 _ _ hp3
        have hq4 := e4 _ _ hq3
        have m := modP a (cs.length : Int) h0
        obtain ⟨j, hj⟩ : ∃ j : Nat, a % (cs.length : Int) = (j : Int) := ⟨(a % (cs.length : Int)).toNat, by omega⟩
        have hjl : j < cs.length := by omega
        have hcj : (cs.map V.int)[j]? = some (.int cs[j]) := by rw [List.getElem?_map, List.getElem?_eq_getElem hjl]; rfl
        generalize cs[j] = v at *
        refine ⟨.ref p, rfl, p, _, 0, .ref q, rfl, rfl, sq_of hp4, rfl, .ref p, rfl, p, _, 1, .int a, rfl, rfl, sq_of hp4, rfl, .inl ⟨a, rfl, .ref p, rfl, p, _, 0, .ref q, rfl, rfl, sq_of hp4, rfl, q, _, rfl, .inl (sq_of hq4), a, _, rfl, rfl, by rw [List.length_map]; exact h0, ?_⟩⟩
        rw [List.length_map]
        dsimp only
        rw [hj]
        refine ⟨q, _, (j : Int), .int v, rfl, rfl, sq_of hq4, atI_nat hcj, v, rfl, ?_⟩
        refine g_name ⟨_, ?_, rfl, e4⟩
        split <;> omega
      · rintro σ' H4 ⟨v, hv, rfl, e4⟩
        have hp4 := e4 _ _ hp3
        have hP4 := hP3.trans e4
        refine ⟨.ref p, rfl, p, _, 1, .int a, rfl, rfl, sq_of hp4, rfl, a, 1, rfl, rfl, .ref p, rfl, p, _, 1, 1, rfl, rfl, hp4, rfl, ?_⟩
        have hp5 : (upd H4 p (.lst ([V.ref q, .int a, .int b, .int c'].set 1 (.int (a + 1))))) p = some (.lst [.ref q, .int (a + 1), .int b, .int c']) := upd_same
        have hP5 : Ex G (upd H4 p (.lst ([V.ref q, .int a, .int b, .int c'].set 1 (.int (a + 1))))) := Ex.mut hP4 hP.gp
        generalize upd H4 p (.lst ([V.ref q, .int a, .int b, .int c'].set 1 (.int (a + 1)))) = H5 at *
        refine ⟨.ref p, rfl, p, _, 2, 2, rfl, rfl, hp5, rfl, ?_⟩
        have hp6 : (upd H5 p (.lst ([V.ref q, .int (a + 1), .int b, .int c'].set 2 (.int 0)))) p = some (.lst [.ref q, .int (a + 1), .int 0, .int c']) := upd_same
        have hP6 : Ex G (upd H5 p (.lst ([V.ref q, .int (a + 1), .int b, .int c'].set 2 (.int 0)))) := Ex.mut hP5 hP.gp
        generalize upd H5 p (.lst ([V.ref q, .int (a + 1), .int b, .int c'].set 2 (.int 0))) = H6 at *
        have ha1 : 0 ≤ a + 1 := by omega
        generalize a + 1 = a' at *
        refine q_when (b := fr && decide ((10 : Int) ^ (18 : Int).toNat ≤ v)) (et_and (et_B (ev_var rfl)) fun _ => et_test fun H7 e7 Q7 q7 => ⟨.int v, rfl, 10, 18, rfl, rfl, ⟨by decide, by decide, by decide⟩, v, _, rfl, rfl, q7 H7 (Ex.refl _)⟩) (fun _ H7 e7 => ?_) (fun _ H7 e7 => ?_)
        · have hp7 := e7 _ _ hp6
          have m := modP v z hz
          refine ⟨.int v, rfl, .int z, rfl, v, z, rfl, rfl, ⟨hz, by omega⟩, .ref p, rfl, p, _, 2, 2, rfl, rfl, hp7, rfl, ?_⟩
          refine ⟨.int v, rfl, .inl ⟨v, rfl, .int z, rfl, v, z, rfl, rfl, hz, k _ _ ⟨Ex.mut (hP6.trans e7) hP.gp, hP.gp, hP.gq, _, _, _, upd_same, ha1, Int.ediv_nonneg hv (by omega), hc1⟩ m.1 m.2⟩⟩
        · have hp7 := e7 _ _ hp6
          refine ⟨.int v, rfl, .ref p, rfl, p, _, 3, .int c', rfl, rfl, sq_of hp7, rfl, .int (mixI v c'), ⟨v, c', rfl, rfl⟩, fun H8 e8 => ?_⟩
          have m := modP (mixI v c' / 16) z hz
          refine ⟨_, 16, rfl, rfl, ⟨by decide, by decide⟩, .inl ⟨_, rfl, .int z, rfl, _, z, rfl, rfl, hz, k _ _ ⟨(hP6.trans e7).trans e8, hP.gp, hP.gq, _, _, _, e8 _ _ hp7, ha1, by decide, hc1⟩ m.1 m.2⟩⟩
/-- a draw, as a call -/
theorem ev_draw {G H : Hp} {p q : Addr} {z : Int} {Q : VK} (h : Pm G H p q) (hz : 0 < z) (hz2 : z ≤ 1000000000) (k : ∀ H' (i : Int), Pm G H' p q → Of1 p H H' → 0 ≤ i → i < z → Q (.int i) H') (E : XK) : spDraw [.ref p, .int z] H Q E :=
  ⟨Hd1 H p, p, q, z, rfl, h.hd, hz, hz2, fun H' i hP h0 h1 => k H' i (h.back hP) hP.off h0 h1⟩
end
end Wk


set_option Elab.async false
set_option linter.all false
set_option maxRecDepth 100000
set_option maxHeartbeats 2000000
namespace Wk
open L2 PySem PySem.Spec PyProof.Rows
section
variable {X : Cx}
/-- one entry more by a comprehension, in a dict of either kind of keys -/
theorem put_dp {ps : List (Addr × Obj)} {σ : L2.St} {H Hn : Hp} {s : Shared} {D : Addr} {y z : V} {u r : Value}
    {E : Value → Shared → Prop} {Q : Unit → Shared → Prop} (hu : X.A.units < cLine) (I : Inv X ps σ H s)
    (g : DPut H D y z Hn) (ry : L2.RelV y u) (rz : L2.RelV z r) (h : ∀ s', Inv X ps σ Hn s' → Q () s') :
    wpAny (model X.prog X.w) X.A (dictSet D u r) Q E s := by
  rcases g with ⟨kvs, k, e, rfl, l, rfl⟩ | ⟨kvs, k, b, e, rfl, eb, l, rfl⟩
  · exact d_dictSet I e l ry rz h
  · obtain rfl : u = Value.ref b := ry
    obtain ⟨z1, nd, xs, rel, dd⟩ := dt_of I.hok e
    have l1 := length_putK kvs k z
    refine wpAny_dictSet_heap (hsz := by rw [← Paired.length rel]; exact z1) hu (key_of I.hok eb) dd
      fun h1 d1 sb => h _ ?_
    obtain ⟨q, es, ep, hq, a1, a2, a3, _, a4⟩ := d1
    refine d_write I (by rw [e]; trivial) sb ⟨q, hq⟩ ⟨by omega, nd, _, (rel.put k eb rz).keeps ?_, q, es, ep, hq, a1, a2, a3, a4⟩
    intro c ys ec
    exact (upd_ne (ne_of ec e (by intro z; cases z))).trans ec
end
/-- what one item does: the target, the tests, then key, value and the entry -/
def dqStep (g : TG) (tt : TT) (tk tv : TE) (vs : List Nat) (D : Addr) (Nx : Hp → Prop) (σ : L2.St) (x : V) (H : Hp) : Prop :=
  g x (wipe σ vs) H fun σa Ha => wipe σa vs = wipe σ vs ∧ tt σa Ha fun b Hb =>
    if b = true then tk σa Hb fun y Hc => tv σa Hc fun z Hd => ∃ Hn, DPut Hd D y z Hn ∧ Nx Hn
    else Nx Hb
/-- the walk of such a comprehension by a measure -/
def dqWalk (J : It) (step : (Hp → Prop) → V → Hp → Prop) (Qs : Hp → Prop) (W : Nat → Nat → Hp → Prop) : Prop :=
  ∀ i m H, W i m H → (J.stop i H ∧ Qs H) ∨
    (J.go i H ∧ ∃ Nx : Hp → Prop, (∀ Ha, Nx Ha → ∃ k, k < m ∧ W (i + 1) k Ha) ∧ ∀ x Ha, J.yld i H x Ha → step Nx x Ha)
theorem dq_loop {Y : Cx} {σ : L2.St} {vs : List Nat} {R : Result → Shared → Prop} {J : It} {fp : List Addr} {it D : Addr}
    {tn : Nat → Heap → Prop} {kx vx tg iter : Expr} {ifs : List Expr} {scope : Scope} {pos : Pos} {g : TG} {tt : TT} {tk tv : TE}
    {W : Nat → Nat → Hp → Prop} {Qs : Hp → Prop} (hc : Y.calm = true) (hx : Y.xe = fun _ _ => False) (hu : Y.A.units < cLine)
    (T : Turn Y.prog Y.w Y.K tg J fp it tn) (pg : PG Y tg g) (pt : PTs Y ifs tt) (pk : PE Y kx tk) (pv : PE Y vx tv)
    (own : ∀ {σ' : L2.St} {H' : Hp} {s' : Shared}, Inv Y [] σ' H' s' → (∀ b ∈ fp, H' b = none) → ∀ b ∈ fp, FpOk Y [] H' b)
    (walk : dqWalk J (fun Nx x H => dqStep g tt tk tv vs D Nx σ x H) Qs W)
    (last : ∀ H s, Inv Y [] (wipe σ vs) H s → Qs H → R (.ok .next) s)
    {m : Nat} {H : Hp} {s : Shared} (I : Inv Y [] (wipe σ vs) H s) (st : tn 0 s.heap) (nf : ∀ b ∈ fp, H b = none) (w : W 0 m H) :
    codeAny (model Y.prog Y.w) Y.A
      (.compLoop (.DictComp kx vx [⟨tg, iter, ifs, 0⟩] scope pos) 0 (.ref it) (.ref D) Y.env) R s := by
  refine compLoop_anyD (fun k s1 => ∃ i H1, Inv Y [] (wipe σ vs) H1 s1 ∧ tn i s1.heap ∧ (∀ b ∈ fp, H1 b = none) ∧ W i k H1)
    (fun k s1 hk => ?_) m ⟨0, H, I, st, nf, w⟩
  obtain ⟨i, H1, I1, st1, nf1, w1⟩ := hk
  cases walk i k H1 w1 with
  | inl e =>
    refine thnF (T.done Y rfl rfl rfl hc i [] s1 _ H1 (fun _ _ => False) I1 (own I1 nf1) st1 e.1) ?_
    rintro _ s2 ⟨rfl, I2⟩
    exact last H1 s2 I2 e.2
  | inr e =>
    obtain ⟨go, Nx, less, step⟩ := e
    refine thnF (T.item Y rfl rfl rfl hc i [] s1 _ H1 (fun _ _ => False) I1 (own I1 nf1) st1 go) ?_
    rintro _ s2 ⟨u, rfl, it2⟩
    refine thnF it2 ?_
    rintro _ s3 ⟨x, H3, I3, rx, yx, st3, nf3⟩
    have pin := I3.pinned (own I3 nf3) (T.obj _ _ st3)
    have t1 := pg.run _ s3 _ H3 x u _ pin rx (step x H3 yx)
    rw [hx] at t1
    refine thnF t1 ?_
    rintro _ s4 ⟨σ4, H4, I4, ew, q4⟩
    have back : ∀ {s9 : Shared} {H9 : Hp}, Inv Y ([] ++ pinsAt fp s3.heap) σ4 H9 s9 → Nx H9 →
        ∃ j, j < k ∧ ∃ i' H', Inv Y [] (wipe σ vs) H' s9 ∧ tn i' s9.heap ∧ (∀ b ∈ fp, H' b = none) ∧ W i' j H' := by
      intro s9 H9 I9 nx
      obtain ⟨j, lt, wj⟩ := less H9 nx
      have same : ∀ b ∈ fp, ∀ o, s3.heap.get? b = some o → s9.heap.get? b = some o ∧ H9 b = none := by
        intro b hb o eo
        have a := I9.pin (b, o) (List.mem_append_right _ (List.mem_append_right _ (mem_pinsAt hb eo)))
        exact ⟨a.1, a.2.1⟩
      refine ⟨j, lt, i + 1, H9, ?_, T.keep _ _ _ st3 fun b hb o eo => (same b hb o eo).1, ?_, wj⟩
      · refine (I9.unpinned (pins := [])).weak (by rw [← ew, wipe_length]) ?_
        intro n v en
        rw [← ew] at en
        exact (wipe_some en).1
      · intro b hb
        obtain ⟨o, eo, _⟩ := T.obj _ _ st3 b hb
        exact (same b hb o eo).2
    have t2 := pt.run _ s4 σ4 H4 _ I4 q4
    rw [hx] at t2
    refine thnF t2 ?_
    rintro b s5 ⟨H5, I5, q5⟩
    cases b with
    | false => exact back I5 q5
    | true =>
      have t3 := pk.run _ s5 σ4 H5 _ I5 q5
      rw [hx] at t3
      refine thnF t3 ?_
      rintro ky s6 ⟨y, H6, I6, ry, q6⟩
      have t4 := pv.run _ s6 σ4 H6 _ I6 q6
      rw [hx] at t4
      refine thnF t4 ?_
      rintro vy s7 ⟨z, H7, I7, rz, Hn, put, nx⟩
      exact put_dp hu I7 put ry rz fun s8 I8 => back I8 nx
/-- {k: v for .. in .. if ..}, keys tuples -/
def tDq (wi : TI) (g : TG) (tt : TT) (tk tv : TE) (vs : List Nat) : TE := fun σ H Q => wi σ H fun J H1 => ∀ D, H1 D = none →
  ∃ W : Nat → Nat → Hp → Prop, (∃ m, W 0 m (upd H1 D (.dT []))) ∧
    dqWalk J (fun Nx x Ha => dqStep g tt tk tv vs D Nx σ x Ha) (fun Ha => Q (.ref D) Ha) W
/-- the context of the block -/
abbrev Bq (X : Cx) (scope : Scope) (s : Shared) (H : Hp) (C : Addr) (cl : List (Str × Addr)) (fp : List Addr) : Cx :=
  X.blk s H scope (compEnvC scope cl C X.env) fp
theorem pe_dq {X : Cx} {kx vx tg iter : Expr} {ifs : List Expr} {scope : Scope} {own : List (Str × Nat)} {pos : Pos}
    {wi : TI} {g : TG} {tt : TT} {tk tv : TE} (hc : X.calm = true) (hu : X.A.units + 1 < cLine) (hN : X.N.Nodup)
    (hi : PI X tg iter wi) (ok : BlkOk X.N X.env.scope scope own) (hg : ∀ s H C cl fp, PG (Bq X scope s H C cl fp) tg g)
    (ht : ∀ s H C cl fp, PTs (Bq X scope s H C cl fp) ifs tt) (hk : ∀ s H C cl fp, PE (Bq X scope s H C cl fp) kx tk)
    (he : ∀ s H C cl fp, PE (Bq X scope s H C cl fp) vx tv) (hs : ∀ x, foldedSetIterable iter X.env x = pure x := by intro _; rfl) :
    PE X (.DictComp kx vx [⟨tg, iter, ifs, 0⟩] scope pos) (tDq wi g tt tk tv (own.map (·.2))) := by
  constructor
  intro ps s σ H Q I h
  rw [arm_eval_DictComp]
  have look : ∀ y ∈ scope.names, y.2 = .free → ∃ c, X.env.cells.lookup y.1 = some c := by
    intro y hy e
    exact I.ok.has _ (ok.free y hy e)
  refine wpAny_comprehension_free (use := none) rfl hs (closure_ok look) ok.kind (fun y hy e => (ok.uniq y hy).trans (by rw [e])) ?_
  refine thn (hi.run ps s σ H _ I h) ?_
  intro xv s1 h1
  refine thn h1 ?_
  rintro _ s2 ⟨it, fp, tn, J, H2, rfl, I2, T, st2, f2, q⟩
  refine wpAny_newObj_type ?_
  refine newEnv_comp ?_
  obtain ⟨D, hD⟩ : ∃ D, D = s2.heap.objs.size := ⟨_, rfl⟩
  rw [← hD]
  obtain ⟨W, ⟨m0, w0⟩, walk⟩ := q D (I2.hok.fresh (Nat.le_of_eq hD.symm))
  obtain ⟨s3, e3⟩ : ∃ s3 : Shared, s3 = { s2 with heap := s2.heap.push { cls := .type "dict", data := .dict #[] } } := ⟨_, rfl⟩
  have g3 : ∀ b o, s2.heap.get? b = some o → s3.heap.get? b = some o := by
    intro b o e
    rw [e3]
    exact Heap.get?_push_of_some _ (by exact e)
  have I3 : Inv X ps σ (upd H2 D (.dT [])) s3 := by
    rw [e3, hD]
    exact I2.laid (t' := s2.toks) (fun b o e => Heap.get?_push_of_some _ e) (Nat.le_refl _) (dt_empty s2.heap I2.big)
  rw [← e3]
  obtain ⟨H3, eH3⟩ : ∃ H3, H3 = upd H2 D (.dT []) := ⟨_, rfl⟩
  rw [← eH3] at I3 w0
  have f3 : ∀ b ∈ fp, FpOk X ps H3 b ∧ b < s3.heap.objs.size := by
    intro b hb
    obtain ⟨o, e, _⟩ := T.obj 0 _ st2 b hb
    refine ⟨⟨?_, (f2 b hb).2⟩, Heap.lt_size (g3 b o e)⟩
    rw [eH3, upd_ne (by rw [hD]; exact Nat.ne_of_lt (Heap.lt_size e))]
    exact (f2 b hb).1
  have st3 : tn 0 s3.heap := T.keep _ _ _ st2 fun b _ o e => g3 b o e
  have Ib := block_start I3 ok hN f3
  obtain ⟨C, hC⟩ : ∃ C, C = s3.heap.objs.size := ⟨_, rfl⟩
  rw [← hC] at Ib ⊢
  obtain ⟨cl, ecl⟩ : ∃ cl, cl = cellsFrom (C + 1) scope.names (cloFrom X.env.cells scope.names []) := ⟨_, rfl⟩
  rw [← ecl] at Ib ⊢
  have st4 : tn 0 (pushCells (s3.heap.push { cls := .type "dict", data := .dict #[] }) scope.names) := T.keep _ _ _ st3 fun b _ o e =>
    pushCells_keeps _ _ _ _ (Heap.get?_push_of_some _ e)
  have loop : codeAny (model X.prog X.w) X.A
      (.compLoop (.DictComp kx vx [⟨tg, iter, ifs, 0⟩] scope pos) 0 (.ref it) (.ref D) (compEnvC scope cl C X.env))
      (compPost (model X.prog X.w) X.A X.xe none (EP X ps σ Q) (.ref D) C)
      { s3 with heap := pushCells (s3.heap.push { cls := .type "dict", data := .dict #[] }) scope.names } := by
    refine dq_loop (Y := Bq X scope s3 H3 C cl fp) (σ := σ) hc rfl (Nat.lt_of_succ_lt hu) T (hg s3 H3 C cl fp)
      (ht s3 H3 C cl fp) (hk s3 H3 C cl fp) (he s3 H3 C cl fp) ?_ walk ?_ Ib st4 (fun b hb => (f3 b hb).1.1) w0
    · intro σ' H' s' I' nf b hb
      refine ⟨nf b hb, (I'.ok.exf b hb).1, I'.ok.exfs b hb, .inl hb, fun x c e => (I'.ok.exf b hb).2 x c e, ?_⟩
      intro p hp
      exact absurd (show p ∈ ([] : List (Addr × Obj)) ++ [] from hp) (by simp)
    · intro H6 s6 I6 q6
      have I7 : Inv X ps σ H6 s6 := by
        refine I3.call' (ch := fp) I6.os I6.base I6.hok I6.bare ?_
        intro b hb
        obtain ⟨_, n1, _, n2, n3, n4⟩ := (f3 b hb).1
        exact ⟨n2, n1, n3, n4⟩
      obtain ⟨m, hn, _⟩ := I6.loc
      refine ⟨m, hn, fun h' sb => ?_⟩
      obtain ⟨n0, n1, n2, n3, n4, n5⟩ := I3.fpOk (b := C) (Nat.le_of_eq hC.symm) (show H6 C = none from I6.free)
      refine ⟨.ref D, H6, ?_, rfl, q6⟩
      exact I7.turned (t' := s6.toks) (fun b o hb e => (sb.2 b hb).trans e) n0 n1 n3 n4 n5
  exact codeAny_compStart_dict loop (T.self _ 0 _ _ _ st4 loop)
end Wk

set_option Elab.async false
set_option linter.all false
set_option maxRecDepth 100000
set_option maxHeartbeats 2000000
namespace Wk
open L2 PySem PySem.Spec PyProof.Rows Evl
/-- the items that a comprehension has put, item j of the source by Y j -/
def Grown (Y : Nat → V → Hp → Prop) (H : Hp) : List Nat → List V → Prop
  | [], us => us = []
  | j :: js, us => ∃ u r, us = u :: r ∧ Y j u H ∧ Grown Y H js r
def UpY (Y : Nat → V → Hp → Prop) : Prop := ∀ i u H H', Ex H H' → Y i u H → Y i u H'
theorem Grown.up {Y : Nat → V → Hp → Prop} (hY : UpY Y) {H H' : Hp} (e : Ex H H') : ∀ {js : List Nat} {us : List V}, Grown Y H js us → Grown Y H' js us
  | [], _, h => h
  | j :: js, _, ⟨u, r, h1, h2, h3⟩ => ⟨u, r, h1, hY j u H H' e h2, Grown.up hY e h3⟩
theorem Grown.snoc {Y : Nat → V → Hp → Prop} {H : Hp} {j : Nat} {u : V} (h : Y j u H) : ∀ {js : List Nat} {us : List V}, Grown Y H js us → Grown Y H (js ++ [j]) (us ++ [u])
  | [], _, h0 => by
    rw [show _ = [] from h0]
    exact ⟨u, [], rfl, h, rfl⟩
  | k :: js, _, ⟨v, r, h1, h2, h3⟩ => by
    subst h1
    exact ⟨v, r ++ [u], rfl, h2, Grown.snoc h h3⟩
theorem Grown.len {Y : Nat → V → Hp → Prop} {H : Hp} : ∀ {js : List Nat} {us : List V}, Grown Y H js us → us.length = js.length
  | [], _, h0 => by
    rw [show _ = [] from h0]
    rfl
  | k :: js, _, ⟨v, r, h1, h2, h3⟩ => by
    subst h1
    simp [Grown.len h3]
def upTo (f : Nat → Bool) (i : Nat) : List Nat := (List.range i).filter f
theorem upTo_yes {f : Nat → Bool} {i : Nat} (h : f i = true) : upTo f (i + 1) = upTo f i ++ [i] := by
  unfold upTo
  rw [List.range_succ, List.filter_append]
  simp [h]
theorem upTo_no {f : Nat → Bool} {i : Nat} (h : f i = false) : upTo f (i + 1) = upTo f i := by
  unfold upTo
  rw [List.range_succ, List.filter_append]
  simp [h]
theorem upTo_len (f : Nat → Bool) (i : Nat) : (upTo f i).length ≤ i := by
  unfold upTo
  have h := List.length_filter_le f (List.range i)
  rw [List.length_range] at h
  exact h
/-- what is evaluated is told by Y, the heap may grow -/
def EvY (te : TE) (σ : L2.St) (H : Hp) (Y : V → Hp → Prop) : Prop := ∀ H1, Ex H H1 → ∀ Q : VK, (∀ u H2, Ex H1 H2 → Y u H2 → Q u H2) → te σ H1 Q
def off (D : Addr) (H : Hp) : Hp := fun a => if a = D then none else H a
theorem off_ex {D : Addr} {H H' : Hp} (e : Ex H H') : Ex (off D H) (off D H') := fun a o h => by
  unfold off at h ⊢
  by_cases z : a = D
  · rw [if_pos z] at h
    cases h
  · rw [if_neg z] at h ⊢
    exact e a o h
theorem off_in (D : Addr) (H : Hp) : Ex (off D H) H := fun a o h => by
  unfold off at h
  split at h
  · cases h
  · exact h
theorem off_upd {D : Addr} {H : Hp} {o : HO} : off D (upd H D o) = off D H := by
  funext a
  unfold off upd
  split <;> rfl
theorem off_at {D a : Addr} {H : Hp} (h : a ≠ D) : off D H a = H a := by
  unfold off
  rw [if_neg h]
/-- a word of an item that outlives new objects and does not speak of lists -/
structure GoodY (Y : Nat → V → Hp → Prop) : Prop where
  up : UpY Y
  off : ∀ i u H D l, H D = some (.lst l) → Y i u H → Y i u (Wk.off D H)
def Gw (Y : Nat → V → Hp → Prop) (H : Hp) (f : Nat → Bool) (D : Addr) (i : Nat) (H' : Hp) : Prop :=
  H D = none ∧ Ex H H' ∧ ∃ us, H' D = some (.lst us) ∧ Grown Y (off D H') (upTo f i) us
theorem gw_turn {Y : Nat → V → Hp → Prop} (hY : GoodY Y) {H H' : Hp} {f : Nat → Bool} {D : Addr} {i : Nat} {t : TT} {te : TE} {σ2 : L2.St} (p : Gw Y H f D i H') (hi : i < 50000)
    (ht : EvT t σ2 H' (f i)) (he : f i = true → EvY te σ2 H' (Y i)) :
    t σ2 H' fun b H3 => if b = true then te σ2 H3 fun y H4 => ∃ acc, H4 D = some (.lst acc) ∧ acc.length < sizeLine ∧ Gw Y H f D (i + 1) (upd H4 D (.lst (acc ++ [y])))
      else Gw Y H f D (i + 1) H3 := by
  obtain ⟨p1, p2, us, p3, p4⟩ := p
  refine ht H' (Ex.refl _) _ fun H3 e3 => ?_
  cases hf : f i with
  | false =>
    refine ⟨p1, p2.trans e3, us, e3 _ _ p3, ?_⟩
    rw [upTo_no hf]
    exact p4.up hY.up (off_ex e3)
  | true =>
    refine he hf H3 e3 _ fun u H4 e4 y => ?_
    have d4 := e4 _ _ (e3 _ _ p3)
    have l1 := p4.len
    have l2 := upTo_len f i
    refine ⟨us, d4, sz_lt (by omega), p1, Ex.mut ((p2.trans e3).trans e4) p1, us ++ [u], upd_same, ?_⟩
    rw [upTo_yes hf, off_upd]
    exact Grown.snoc (hY.off i u H4 D us d4 y) (p4.up hY.up (off_ex (e3.trans e4)))
/-- a list comprehension whose items may be new objects -/
theorem grow_lc {J : It} {n : Nat} {Gd : Hp → Prop} {Yx : Nat → V → Prop} {Y : Nat → V → Hp → Prop} {j : Nat} {vs : List Nat} {σ : L2.St} {H : Hp} {D : Addr} {Qd : Hp → Prop} {t : TT} {te : TE}
    (w : Walk J n Gd (fun i H x H' => H' = H ∧ Yx i x)) (hY : GoodY Y) (f : Nat → Bool) (hD : H D = none) (hn : n ≤ 40000) (hG : ∀ H', Ex H H' → Gd H') (hw : ∀ x, wipe ((wipe σ vs).set j (some x)) vs = wipe σ vs)
    (ht : ∀ i x H', Ex H H' → i < n → Yx i x → EvT t ((wipe σ vs).set j (some x)) H' (f i)) (he : ∀ i x H', Ex H H' → i < n → Yx i x → f i = true → EvY te ((wipe σ vs).set j (some x)) H' (Y i))
    (hq : ∀ us H', Ex H H' → H' D = some (.lst us) → Grown Y H' (upTo f n) us → Qd H') :
    ∃ W : Nat → Nat → Hp → Prop, (∃ m, W 0 m (upd H D (.lst []))) ∧ ∀ i m H, W i m H →
      (J.stop i H ∧ Qd H) ∨ (J.go i H ∧ ∃ Nx : Hp → Prop, (∀ H', Nx H' → ∃ m', m' < m ∧ W (i + 1) m' H') ∧ ∀ x H', J.yld i H x H' → gName j x (wipe σ vs) H' fun σ2 H2 => wipe σ2 vs = wipe σ vs ∧ t σ2 H2 fun b H3 =>
        if b = true then te σ2 H3 fun y H4 => ∃ acc, H4 D = some (.lst acc) ∧ acc.length < sizeLine ∧ Nx (upd H4 D (.lst (acc ++ [y]))) else Nx H3) := by
  refine lc_it w (Gw Y H f D) ⟨hD, Ex.new hD, [], upd_same, rfl⟩ (fun i H' _ p => hG H' p.2.1) (fun i x H' H2 hi p y => ?_) (fun H' p => ?_)
  · obtain ⟨rfl, yx⟩ := y
    exact ⟨hw x, gw_turn hY p (by omega) (ht i x _ p.2.1 hi yx) (fun hf => he i x _ p.2.1 hi yx hf)⟩
  · obtain ⟨_, e, us, d, g⟩ := p
    exact hq us H' e d (g.up hY.up (off_in D H'))
/-- the keys of a dict are the first i of k, each with True -/
def KHas (k : Nat → List L2.Key) (i : Nat) (kvs : List (List L2.Key × V)) : Prop :=
  ∀ q, (valV kvs q = some (V.bl true) ∧ ∃ j, j < i ∧ k j = q) ∨ (valV kvs q = none ∧ ∀ j, j < i → k j ≠ q)
/-- the keys that a comprehension has put -/
def Kw (k : Nat → List L2.Key) (H : Hp) (D : Addr) (i : Nat) (H' : Hp) : Prop :=
  H D = none ∧ Ex H H' ∧ ∃ kvs, H' D = some (.dT kvs) ∧ kvs.length ≤ i ∧ KHas k i kvs
/-- {x: True for x in ..}, of tuples of whole numbers or texts -/
theorem grow_dq {J : It} {n : Nat} {Gd : Hp → Prop} {Yx : Nat → V → Prop} {k : Nat → List L2.Key} {j : Nat} {vs : List Nat} {σ : L2.St} {H : Hp} {D : Addr} {Qd : Hp → Prop} {tk tv : TE}
    (w : Walk J n Gd (fun i H x H' => H' = H ∧ Yx i x)) (hD : H D = none) (hn : n ≤ 40000) (hG : ∀ H', Ex H H' → Gd H') (hw : ∀ x, wipe ((wipe σ vs).set j (some x)) vs = wipe σ vs)
    (hk : ∀ i x H', Ex H H' → i < n → Yx i x → EvY tk ((wipe σ vs).set j (some x)) H' (fun u H2 => ∃ b, u = .ref b ∧ H2 b = some (.tup ((k i).map kV))))
    (hv : ∀ i x H', Ex H H' → i < n → Yx i x → Ev tv ((wipe σ vs).set j (some x)) H' (.bl true))
    (hq : ∀ kvs H', Ex H H' → H' D = some (.dT kvs) → KHas k n kvs → Qd H') :
    ∃ W : Nat → Nat → Hp → Prop, (∃ m, W 0 m (upd H D (.dT []))) ∧ dqWalk J (fun Nx x Ha => dqStep (gName j) tYes tk tv vs D Nx σ x Ha) Qd W := by
  refine ⟨fun i m H' => m = n - i ∧ i ≤ n ∧ Kw k H D i H', ⟨n, by simp, Nat.zero_le _, hD, Ex.new hD, [], upd_same, Nat.le_refl _, fun q => .inr ⟨rfl, fun j hj => absurd hj (Nat.not_lt_zero _)⟩⟩, ?_⟩
  rintro i m H1 ⟨rfl, hi, p1, p2, kvs, p3, p4, p5⟩
  by_cases lt : i < n
  · refine .inr ⟨w.goes i H1 lt (hG H1 p2), Kw k H D (i + 1), fun Ha q => ⟨n - (i + 1), by omega, rfl, lt, q⟩, fun x Ha y => ?_⟩
    obtain ⟨rfl, yx⟩ := w.yields i H1 x Ha lt (hG H1 p2) y
    refine ⟨hw x, ?_⟩
    show tk _ _ _
    refine hk i x _ p2 lt yx _ (Ex.refl _) _ fun u H2 e2 hu => ?_
    obtain ⟨b, rfl, hb⟩ := hu
    refine hv i x _ p2 lt yx H2 e2 _ fun H3 e3 => ?_
    have d3 := e3 _ _ (e2 _ _ p3)
    refine ⟨_, DPut.t d3 (e3 _ _ hb) (sz_lt (by omega)), p1, Ex.mut ((p2.trans e2).trans e3) p1, _, upd_same, ?_, fun q => ?_⟩
    · have := length_putK kvs (k i) (V.bl true)
      omega
    · rw [valV_put]
      by_cases e : q = k i
      · rw [if_pos e]
        exact .inl ⟨rfl, i, Nat.lt_succ_self i, e.symm⟩
      · rw [if_neg e]
        rcases p5 q with ⟨z, j', h1, h2⟩ | ⟨z, h2⟩
        · exact .inl ⟨z, j', by omega, h2⟩
        · refine .inr ⟨z, fun j' hj => ?_⟩
          rcases Nat.lt_succ_iff_lt_or_eq.mp hj with h3 | h3
          · exact h2 j' h3
          · subst h3
            exact fun z2 => e z2.symm
  · have e : i = n := by omega
    subst e
    exact .inl ⟨w.stops H1 (hG H1 p2), hq kvs H1 p2 p3 p5⟩
end Wk

set_option Elab.async false
set_option linter.all false
set_option maxRecDepth 100000
set_option maxHeartbeats 2000000
namespace Wk
open PySem PySem.Spec PyProof.Rows L2 Evl
theorem lay_ints : ∀ ns : List Int, PyData.canLayAll0 (ns.map PyData.int) = true
  | [] => by simp [PyData.canLayAll0]
  | n :: ns => by
    have h := lay_ints ns
    simp [PyData.canLayAll0, PyData.canLay0, h]
theorem depth_ints : ∀ ns : List Int, PyData.depthAll (ns.map PyData.int) = 0
  | [] => by simp [PyData.depthAll]
  | n :: ns => by
    have h := depth_ints ns
    simp [PyData.depthAll, PyData.depth, h]
theorem shaped_ints (ns : List Int) : SeqAt.shaped (.tuple (ns.map PyData.int)) = true := by
  unfold SeqAt.shaped
  have h1 := lay_ints ns
  have h2 := depth_ints ns
  simp [PyData.canLay0, PyData.depth, h1, h2]
theorem layAll : ∀ {ds : List PyData}, PyData.canLayAll0 ds = true ↔ ∀ d ∈ ds, d.canLay0 = true
  | [] => by simp [PyData.canLayAll0]
  | d :: ds => by
    have ih := layAll (ds := ds)
    simp [PyData.canLayAll0, ih]
theorem depAll {k : Nat} : ∀ {ds : List PyData}, PyData.depthAll ds ≤ k ↔ ∀ d ∈ ds, d.depth ≤ k
  | [] => by simp [PyData.depthAll]
  | d :: ds => by
    have ih := depAll (k := k) (ds := ds)
    simp only [PyData.depthAll, List.mem_cons, forall_eq_or_imp, ← ih]
    omega
theorem nd_snoc {α : Type} {l : List α} {x : α} (h : l.Nodup) (hx : x ∉ l) : (l ++ [x]).Nodup := by
  unfold List.Nodup
  rw [List.pairwise_append]
  refine ⟨h, List.pairwise_singleton _ _, fun a ha b hb => ?_⟩
  rw [List.mem_singleton] at hb
  intro e
  rw [← hb, ← e] at hx
  exact hx ha
theorem eraseIdx_mp {α β : Type} (f : α → β) : ∀ (l : List α) (k : Nat), (l.map f).eraseIdx k = (l.eraseIdx k).map f
  | [], _ => rfl
  | _ :: _, 0 => rfl
  | x :: l, k + 1 => by
    show f x :: (l.map f).eraseIdx k = f x :: (l.eraseIdx k).map f
    rw [eraseIdx_mp f l k]
theorem eqv_ints : ∀ a b : List Int, PyData.eqvAll (a.map PyData.int) (b.map PyData.int) = decide (a = b)
  | [], [] => by simp [PyData.eqvAll]
  | [], _ :: _ => by simp [PyData.eqvAll]
  | _ :: _, [] => by simp [PyData.eqvAll]
  | x :: a, y :: b => by
    have ih := eqv_ints a b
    simp only [List.map_cons, PyData.eqvAll, PyData.eqv, ih]
    by_cases h : x = y
    · subst h; simp
    · have : (x == y) = false := by simpa using h
      simp [this, h]
theorem inV_ints (x : Int) : ∀ ns : List Int, inV (.int x) (ns.map V.int) = decide (x ∈ ns)
  | [] => rfl
  | n :: ns => by
    have ih := inV_ints x ns
    unfold inV at *
    rw [List.map_cons, List.any_cons, ih]
    show ((n == x) || _) = _
    by_cases h : n = x
    · subst h; simp
    · have : (n == x) = false := by simpa using h
      rw [this]
      simp [Ne.symm h]
abbrev Wy := List Int
def wd (w : Wy) : PyData := .tuple (w.map PyData.int)
theorem eqv_wd (a b : Wy) : PyData.eqv (wd a) (wd b) = decide (a = b) := eqv_ints a b
theorem wd_ref {G : Hp} {v : V} {w : Wy} (h : Dq G v (wd w)) : ∃ a, v = .ref a ∧ G a = some (.tup (w.map V.int)) := by
  unfold wd at h
  cases h with
  | tup h1 h2 => exact ⟨_, rfl, by rw [h1, h2.int_inv]⟩
theorem wd_of {G : Hp} {a : Addr} {w : Wy} (h : G a = some (.tup (w.map V.int))) : Dq G (.ref a) (wd w) := .tup h (DqA.ints w)
theorem lay_wds (ws : List Wy) : PyData.canLayAll0 (ws.map wd) = true := layAll.mpr fun d hd => by
  obtain ⟨w, _, rfl⟩ := List.mem_map.mp hd
  simp [wd, PyData.canLay0, lay_ints]
theorem dep_wds (ws : List Wy) : PyData.depthAll (ws.map wd) ≤ 1 := depAll.mpr fun d hd => by
  obtain ⟨w, _, rfl⟩ := List.mem_map.mp hd
  simp [wd, PyData.depth, depth_ints]
theorem shaped_wds (ws : List Wy) : SeqAt.shaped (.list (ws.map wd)) = true := by
  unfold SeqAt.shaped
  have h1 := lay_wds ws
  have h2 := dep_wds ws
  have : decide ((PyData.list (ws.map wd)).depth ≤ 64) = true := decide_eq_true (by simp only [PyData.depth]; omega)
  rw [this]
  simp [PyData.canLay0, h1]
theorem any_wd (ws : List Wy) (x : Wy) : ((ws.map wd).any fun z => PyData.eqv z (wd x)) = decide (x ∈ ws) := by
  induction ws with
  | nil => rfl
  | cons a l ih =>
    rw [List.map_cons, List.any_cons, ih, eqv_wd]
    by_cases h : a = x
    · subst h; simp
    · rw [decide_eq_false h, Bool.false_or, decide_eq_decide]
      constructor
      · exact fun z => List.mem_cons_of_mem _ z
      · intro z
        rcases List.mem_cons.mp z with e | e
        · exact absurd e.symm h
        · exact e
theorem DqA.wds_inv {G : Hp} {ws : List Wy} {vs : List V} {i : Nat} {v : V} (h : DqA G vs (ws.map wd)) (e : vs[i]? = some v) : ∃ w, ws[i]? = some w ∧ Dq G v (wd w) := by
  obtain ⟨d, e1, e2⟩ := h.get e
  rw [List.getElem?_map] at e1
  cases hw : ws[i]? with
  | none => rw [hw] at e1; cases e1
  | some w =>
    rw [hw] at e1
    cases e1
    exact ⟨w, rfl, e2⟩
theorem DqA.set {G : Hp} {v : V} {d : PyData} (hv : Dq G v d) : ∀ {ds : List PyData} {vs : List V} (i : Nat), DqA G vs ds → DqA G (vs.set i v) (ds.set i d)
  | [], _, i, .nil => by simp; exact .nil
  | _ :: _, _, 0, .cons h t => .cons hv t
  | _ :: _, _, i + 1, .cons h t => .cons h (DqA.set hv i t)
theorem DqA.erase {G : Hp} : ∀ {ds : List PyData} {vs : List V} (i : Nat), DqA G vs ds → DqA G (vs.eraseIdx i) (ds.eraseIdx i)
  | [], _, i, .nil => by simp; exact .nil
  | _ :: _, _, 0, .cons h t => t
  | _ :: _, _, i + 1, .cons h t => .cons h (DqA.erase i t)
theorem DqA.perm {G : Hp} {us ys : List V} (h : ys.Perm us) : ∀ {ds : List PyData}, DqA G us ds → ∃ es, es.Perm ds ∧ DqA G ys es := by
  induction h with
  | nil => exact fun h => ⟨_, .refl _, h⟩
  | cons x h ih =>
    intro ds hd
    cases hd with
    | cons hv t =>
      obtain ⟨es, h1, h2⟩ := ih t
      exact ⟨_, h1.cons _, .cons hv h2⟩
  | swap x y l =>
    intro ds hd
    cases hd with
    | cons hx t =>
      cases t with
      | cons hy t => exact ⟨_, .swap _ _ _, .cons hy (.cons hx t)⟩
  | trans h1 h2 ih1 ih2 =>
    intro ds hd
    obtain ⟨es, a, b⟩ := ih2 hd
    obtain ⟨es2, c, d⟩ := ih1 b
    exact ⟨es2, c.trans a, d⟩
def wi (d : PyData) : Wy := (itemsT d).map valI
theorem wi_wd (w : Wy) : wi (wd w) = w := by
  show (w.map PyData.int).map valI = w
  rw [List.map_map]
  exact List.map_id w
theorem perm_wds {es : List PyData} {ws : List Wy} (h : es.Perm (ws.map wd)) : ∃ ws' : List Wy, ws'.Perm ws ∧ es = ws'.map wd := by
  refine ⟨es.map wi, ?_, ?_⟩
  · have z := h.map wi
    rw [List.map_map, show (wi ∘ wd) = id from funext wi_wd, List.map_id] at z
    exact z
  · rw [List.map_map]
    refine ((List.map_congr_left fun d hd => ?_).trans (List.map_id es)).symm
    obtain ⟨w, _, rfl⟩ := List.mem_map.mp (h.mem_iff.mp hd)
    show wd (wi (wd w)) = _
    rw [wi_wd]
    rfl
def TupY (z : Nat → List V) : Nat → V → Hp → Prop := fun i u H => ∃ b, u = .ref b ∧ H b = some (.tup (z i))
theorem tupY_good (z : Nat → List V) : GoodY (TupY z) := by
  refine ⟨fun i u H H' e h => ?_, fun i u H D l hD h => ?_⟩
  · obtain ⟨b, h1, h2⟩ := h
    exact ⟨b, h1, e _ _ h2⟩
  · obtain ⟨b, h1, h2⟩ := h
    refine ⟨b, h1, (off_at ?_).trans h2⟩
    intro hb
    rw [hb, hD] at h2
    cases h2
theorem grown_ks {z : Nat → Wy} {H : Hp} : ∀ {js : List Nat} {us : List V}, Grown (TupY fun i => (z i).map V.int) H js us → ∃ ks : List (Addr × List Int), us = (ks.map fun p => V.ref p.1) ∧ ks.map (·.2) = js.map z ∧
    ∀ p ∈ ks, H p.1 = some (.tup (p.2.map V.int))
  | [], us, h => ⟨[], h, rfl, fun p hp => by cases hp⟩
  | j :: js, us, ⟨u, r, h1, ⟨b, h2, h3⟩, h4⟩ => by
    obtain ⟨ks, k1, k2, k3⟩ := grown_ks h4
    subst h1 h2
    refine ⟨(b, z j) :: ks, by rw [k1]; rfl, by rw [List.map_cons, k2]; rfl, ?_⟩
    intro p hp
    rcases List.mem_cons.mp hp with e | e
    · subst e
      exact h3
    · exact k3 p e
theorem ks_wds {H : Hp} : ∀ {ks : List (Addr × List Int)}, (∀ p ∈ ks, H p.1 = some (.tup (p.2.map V.int))) → DqA H (ks.map fun p => V.ref p.1) ((ks.map (·.2)).map wd)
  | [], _ => .nil
  | p :: ks, h => .cons (wd_of (h p List.mem_cons_self)) (ks_wds fun q hq => h q (List.mem_cons_of_mem _ hq))
theorem wds_ks {H : Hp} : ∀ {ws : List Wy} {us : List V}, DqA H us (ws.map wd) → ∃ ks : List (Addr × List Int), us = (ks.map fun p => V.ref p.1) ∧ ks.map (·.2) = ws ∧ ∀ p ∈ ks, H p.1 = some (.tup (p.2.map V.int))
  | [], us, h => by
    cases h
    exact ⟨[], rfl, rfl, fun p hp => by cases hp⟩
  | w :: ws, us, h => by
    cases h with
    | cons hv t =>
      obtain ⟨ks, k1, k2, k3⟩ := wds_ks t
      obtain ⟨a, rfl, ha⟩ := wd_ref hv
      refine ⟨(a, w) :: ks, by rw [k1]; rfl, by rw [List.map_cons, k2], fun p hp => ?_⟩
      rcases List.mem_cons.mp hp with e | e
      · subst e
        exact ha
      · exact k3 p e
/-! pairs of routers, ascending -/
theorem asc_eq : ∀ {l m : List Nat}, l.Pairwise (· < ·) → m.Pairwise (· < ·) → (∀ x, x ∈ l ↔ x ∈ m) → l = m
  | [], [], _, _, _ => rfl
  | [], b :: m, _, _, h => absurd ((h b).mpr List.mem_cons_self) (by simp)
  | a :: l, [], _, _, h => absurd ((h a).mp List.mem_cons_self) (by simp)
  | a :: l, b :: m, h1, h2, h => by
    obtain ⟨ha, hl⟩ := List.pairwise_cons.mp h1
    obtain ⟨hb, hm⟩ := List.pairwise_cons.mp h2
    have e : a = b := by
      rcases List.mem_cons.mp ((h a).mp List.mem_cons_self) with z | z
      · exact z
      · rcases List.mem_cons.mp ((h b).mpr List.mem_cons_self) with y | y
        · exact y.symm
        · have := ha b y
          have := hb a z
          omega
    subst e
    rw [asc_eq hl hm fun x => ?_]
    constructor
    · intro hx
      rcases List.mem_cons.mp ((h x).mp (List.mem_cons_of_mem _ hx)) with z | z
      · have := ha x hx
        omega
      · exact z
    · intro hx
      rcases List.mem_cons.mp ((h x).mpr (List.mem_cons_of_mem _ hx)) with z | z
      · have := hb x hx
        omega
      · exact z
def cdW (c : Nat) : Wy := [((c / 8 : Nat) : Int), ((c % 8 : Nat) : Int)]
def ascW (S : List Wy) : List Wy := ((List.range 64).filter fun c => decide (cdW c ∈ S)).map cdW
theorem cd_pair {u v : Nat} (hv : v < 8) : cdW (u * 8 + v) = [(u : Int), (v : Int)] := by
  unfold cdW
  rw [show (u * 8 + v) / 8 = u by omega, show (u * 8 + v) % 8 = v by omega]
def enW (w : Wy) : Nat := (w.getD 0 0).toNat * 8 + (w.getD 1 0).toNat
/-- a pair of unlike routers below n -/
def PrOk (n : Nat) (w : Wy) : Prop := ∃ u v : Nat, w = [(u : Int), (v : Int)] ∧ u < n ∧ v < n ∧ u ≠ v
theorem asc_unique {S M : List Wy} (hb : ∀ p ∈ S, ∃ u v : Nat, u < 8 ∧ v < 8 ∧ p = [(u : Int), (v : Int)]) (hm : ∀ p, p ∈ M ↔ p ∈ S) (nd : M.Nodup)
    (pw : M.Pairwise fun q r => TS.code 64 q ≤ TS.code 64 r) : M = ascW S := by
  have hM : ∀ p ∈ M, ∃ u v : Nat, u < 8 ∧ v < 8 ∧ p = [(u : Int), (v : Int)] := fun p hp => hb p ((hm p).mp hp)
  have e1 : (M.map enW).map cdW = M := by
    rw [List.map_map]
    refine (List.map_congr_left fun p hp => ?_).trans (List.map_id M)
    obtain ⟨u, v, hu, hv, rfl⟩ := hM p hp
    show cdW ((u : Int).toNat * 8 + (v : Int).toNat) = _
    rw [Int.toNat_natCast, Int.toNat_natCast, cd_pair hv]
    rfl
  have e2 : (M.map enW).Pairwise (· < ·) := by
    rw [List.pairwise_map]
    refine List.Pairwise.imp_of_mem (R := fun q r => TS.code 64 q ≤ TS.code 64 r ∧ q ≠ r) ?_ (pw.and nd)
    intro q r hq hr ⟨h, hne⟩
    obtain ⟨u, v, hu, hv, rfl⟩ := hM q hq
    obtain ⟨x, y, hx, hy, rfl⟩ := hM r hr
    have z := pair_lt h hne (by omega) (by omega) (by omega) (by omega)
    show (u : Int).toNat * 8 + (v : Int).toNat < (x : Int).toNat * 8 + (y : Int).toNat
    rw [Int.toNat_natCast, Int.toNat_natCast, Int.toNat_natCast, Int.toNat_natCast]
    omega
  have e3 : ((List.range 64).filter fun c => decide (cdW c ∈ S)).Pairwise (· < ·) := List.Pairwise.filter _ List.pairwise_lt_range
  have e4 : M.map enW = (List.range 64).filter fun c => decide (cdW c ∈ S) := by
    refine asc_eq e2 e3 fun c => ?_
    rw [List.mem_map, List.mem_filter, List.mem_range, decide_eq_true_eq]
    constructor
    · rintro ⟨p, hp, rfl⟩
      have hp2 := (hm p).mp hp
      obtain ⟨u, v, hu, hv, rfl⟩ := hM p hp
      have ee : enW [(u : Int), (v : Int)] = u * 8 + v := by
        show (u : Int).toNat * 8 + (v : Int).toNat = _
        rw [Int.toNat_natCast, Int.toNat_natCast]
      rw [ee]
      exact ⟨by omega, by rw [cd_pair hv]; exact hp2⟩
    · rintro ⟨hc, hp⟩
      refine ⟨cdW c, (hm _).mpr hp, ?_⟩
      show (((c / 8 : Nat) : Int)).toNat * 8 + (((c % 8 : Nat) : Int)).toNat = c
      rw [Int.toNat_natCast, Int.toNat_natCast]
      omega
  rw [← e1, e4]
  rfl
theorem asc_mem {S : List Wy} (hb : ∀ p ∈ S, ∃ u v : Nat, u < 8 ∧ v < 8 ∧ p = [(u : Int), (v : Int)]) (p : Wy) : p ∈ ascW S ↔ p ∈ S := by
  unfold ascW
  rw [List.mem_map]
  constructor
  · rintro ⟨c, hc, rfl⟩
    exact of_decide_eq_true (List.mem_filter.mp hc).2
  · intro hp
    obtain ⟨u, v, hu, hv, rfl⟩ := hb p hp
    exact ⟨u * 8 + v, List.mem_filter.mpr ⟨List.mem_range.mpr (by omega), decide_eq_true (by rw [cd_pair hv]; exact hp)⟩, cd_pair hv⟩
theorem asc_len (S : List Wy) : (ascW S).length ≤ 64 := by
  unfold ascW
  rw [List.length_map]
  have h := List.length_filter_le (fun c => decide (cdW c ∈ S)) (List.range 64)
  rw [List.length_range] at h
  exact h
def swW (w : Wy) : Wy := [w.getD 1 0, w.getD 0 0]
def joinW (prs : List Wy) : List Wy := ascW (prs ++ prs.map swW)
theorem PrOk.sw {n : Nat} {w : Wy} (h : PrOk n w) : PrOk n (swW w) := by
  obtain ⟨u, v, rfl, h1, h2, h3⟩ := h
  exact ⟨v, u, rfl, h2, h1, Ne.symm h3⟩
theorem both_ok {n : Nat} {prs : List Wy} (h : ∀ p ∈ prs, PrOk n p) : ∀ p ∈ prs ++ prs.map swW, PrOk n p := fun p hp => by
  rcases List.mem_append.mp hp with z | z
  · exact h p z
  · obtain ⟨q, hq, rfl⟩ := List.mem_map.mp z
    exact (h q hq).sw
theorem PrOk.bd {n : Nat} (hn : n ≤ 8) {S : List Wy} (h : ∀ p ∈ S, PrOk n p) : ∀ p ∈ S, ∃ u v : Nat, u < 8 ∧ v < 8 ∧ p = [(u : Int), (v : Int)] := fun p hp => by
  obtain ⟨u, v, e, h1, h2, _⟩ := h p hp
  exact ⟨u, v, by omega, by omega, e⟩
theorem join_ok {n : Nat} (hn : n ≤ 8) {prs : List Wy} (h : ∀ p ∈ prs, PrOk n p) : ∀ p ∈ joinW prs, PrOk n p := fun p hp => both_ok h p ((asc_mem (PrOk.bd hn (both_ok h)) p).mp hp)

theorem perm_erase {α : Type} : ∀ {l : List α} {m : Nat} (h : m < l.length), l.Perm (l[m] :: l.eraseIdx m)
  | [], _, h => absurd h (Nat.not_lt_zero _)
  | x :: l, 0, _ => .refl _
  | x :: l, m + 1, h => ((perm_erase (l := l) (m := m) (Nat.lt_of_succ_lt_succ h)).cons x).trans (.swap _ _ _)
end Wk

set_option Elab.async false
set_option linter.all false
set_option maxRecDepth 100000
set_option maxHeartbeats 2000000
namespace Wk
open PySem PySem.Spec PyProof.Rows L2 Evl
section
variable {P : Program} {w : World} {K : PySem.W.Frag} {mg : Str → Option Value} {base : Heap} {f : Addr} {fd : FuncData}
/-! _law_shuffled -/
def spShuf : Sp := fun vs H Q _ => ∃ (G : Hp) (p q a : Addr) (xs : List V), vs = [.ref p, .ref a] ∧ Pm G H p q ∧ G a = some (.lst xs) ∧ xs.length ≤ 1000 ∧ ∀ H' l ys, Pm G H' p q → H l = none → l ≠ p → H' l = some (.lst ys) → ys.Perm xs → Q (.ref l) H'
abbrev sShuf : Stmt := top 9
abbrev nShuf : List Str := ["_law_pool_here", "_law_items", "_law_left", "_law_mixed_here", "_law_k"]
theorem scShuf : FnScope nShuf ["_law_pool_here", "_law_items"] (defScope sShuf) := ⟨rfl, rfl, rfl, by decide +kernel, rfl, by decide +kernel, by decide +kernel⟩
theorem ok_shuf (B : Bl mg) (C : Cal P w K mg base "_law_draw" ["_law_pool_here", "_law_limit"] 2 spDraw) (F : FnP K "_law_shuffled" sShuf f fd) : FnOk P w K mg base CX0 3 f fd ["_law_pool_here", "_law_items"] spShuf := by
  refine F.ok scShuf (fun vs H Q E h => ?_) (fun cdv A outer s H vs Q E hr h => ?_)
  · obtain ⟨G, p, q, a, xs, rfl, _⟩ := h
    rfl
  · obtain ⟨G, p, q, a, xs, rfl, hP, ha, hx, k⟩ := h
    refine ⟨_, pss_cons (ps_set (i := 2) scShuf.nd rfl (Or.inl rfl) (pe_callTy (call_listK2 (K := K) rfl) (by rfl) B.list PyProof.Rows.boot_list (pa_cons (pv 1) pa_nil)))
      (pss_cons (ps_set (i := 3) scShuf.nd rfl (Or.inl rfl) (pe_lst pa_nil))
      (pss_cons (ps_for (passes_of rfl) rfl (pi_range1 (by rfl) B.range (pa_cons (pe_callB call_len_seq (by rfl) B.len PySem.boot_len (pa_cons (pv 1) pa_nil)) pa_nil)) (pg_name (i := 4) scShuf.nd rfl (Or.inl rfl))
        (pss_one (ps_expr (pe_bm PySem.F.plainAttrs_list PySem.F.slot_list_append PySem.F.type_list_append mt_append (pv 3) (pa_cons
          (pe_bm PySem.F.plainAttrs_list PySem.F.slot_list_pop PySem.F.type_list_pop mt_popAt (pv 2) (pa_cons (pe_cal C hr (by rfl) (pa_cons (pv 0) (pa_cons (pe_callB call_len_seq (by rfl) B.len PySem.boot_len (pa_cons (pv 2) pa_nil)) pa_nil))) pa_nil)) pa_nil)))))
      (pss_one (ps_ret (pv 3))))), ?_⟩
    have hHa := hP.ex _ _ ha
    refine ⟨.ref a, rfl, a, xs, rfl, .inl (sq_of hHa), fun a1 ha1 => ?_⟩
    refine ⟨by show 0 ≤ sizeLine; decide, fun a2 ha2 => ?_⟩
    have n12 : a1 ≠ a2 := fun z => by rw [← z, upd_same] at ha2; cases ha2
    have ha2' : H a2 = none := by rw [upd_ne (Ne.symm n12)] at ha2; exact ha2
    have ga1 := fresh_back hP.ex ha1
    have ga2 := fresh_back hP.ex ha2'
    have p1 := hP.np ha1
    have p2 := hP.np ha2'
    change tSeq _ _ _ [some (.ref p), some (.ref a), some (.ref a1), some (.ref a2), none] _
    have hHa2 : (upd (upd H a1 (.lst xs)) a2 (.lst [])) a = some (.lst xs) := by
      rw [upd_ne (ne_of_none hHa ha2'), upd_ne (ne_of_none hHa ha1)]
      exact hHa
    refine q_forR1 (ea_cons (ev_len (ev_var rfl) (sq_of hHa2)) ea_nil) (n := (xs.length : Int)) (by omega) (fun i σ' H' => ∃ (ls os : List V) (o : Option V), σ' = [some (.ref p), some (.ref a), some (.ref a1), some (.ref a2), o] ∧ Pm G H' p q ∧ H' a1 = some (.lst ls) ∧ H' a2 = some (.lst os) ∧ (os ++ ls).Perm xs ∧ os.length = i) ?_ ?_ ?_
    · intro H1 e1
      exact ⟨xs, [], none, rfl, ((hP.ext (Ex.new ha1)).ext (Ex.new ha2)).ext e1, e1 _ _ (by rw [upd_ne n12, upd_same]), e1 _ _ upd_same, .refl _, rfl⟩
    · rintro i σ' H1 hi ⟨ls, os, o, rfl, hP1, h1, h2, hpm, hol⟩
      have hlen := hpm.length_eq
      rw [List.length_append] at hlen
      have hlp : 0 < ls.length := by omega
      refine ⟨.ref a2, rfl, .inl ⟨rfl, _, sq_of h2⟩, .ref a1, rfl, .inl ⟨rfl, _, sq_of h1⟩, .ref p, rfl, .ref a1, rfl, a1, _, rfl, .inl (sq_of h1), ?_⟩
      refine ⟨_, p, q, ((ls.length : Int)), rfl, hP1.hd, by omega, by omega, fun H2 j hP20 hj0 hj1 => ?_⟩
      have hP2 := hP1.back hP20
      have hO2 := hP20.off
      obtain ⟨m, rfl⟩ : ∃ m : Nat, j = (m : Int) := ⟨j.toNat, by omega⟩
      have hm : m < ls.length := by omega
      have h1' := hO2 _ _ p1 h1
      have h2' := hO2 _ _ p2 h2
      refine ⟨a1, _, (m : Int), m, ls[m], rfl, rfl, h1', by omega, by omega, seqIx hm, List.getElem?_eq_getElem hm, ?_⟩
      refine ⟨a2, _, ls[m], rfl, rfl, by rw [upd_ne (Ne.symm n12)]; exact h2', by rw [sizeLine_eq]; omega, ?_⟩
      refine ⟨ls.eraseIdx m, os ++ [ls[m]], _, rfl, (hP2.mut ga1 p1).mut ga2 p2, by rw [upd_ne n12, upd_same], by rw [upd_same], ?_, by simp; omega⟩
      refine List.Perm.trans ?_ hpm
      rw [List.append_assoc]
      refine List.Perm.append_left _ ?_
      exact (perm_erase hm).symm
    · rintro σ' H1 ⟨ls, os, o, rfl, hP1, h1, h2, hpm, hol⟩
      have hlen := hpm.length_eq
      rw [List.length_append] at hlen
      have hl0 : ls = [] := List.length_eq_zero_iff.mp (by omega)
      subst hl0
      rw [List.append_nil] at hpm
      exact ⟨.ref a2, rfl, k H1 a2 os hP1 ha2' p2 h2 hpm⟩
end
end Wk

set_option Elab.async false
set_option linter.all false
set_option maxRecDepth 100000
set_option maxHeartbeats 2000000
namespace Wk
open PySem PySem.Spec PyProof.Rows L2 Evl
def vI : V → Int
  | .int i => i
  | _ => 0
theorem perm_ints {ys : List V} {ns : List Int} (h : ys.Perm (ns.map V.int)) : ∃ os : List Int, os.Perm ns ∧ ys = os.map V.int := by
  refine ⟨ys.map vI, ?_, ?_⟩
  · have z := h.map vI
    rw [List.map_map, show (vI ∘ V.int) = id from rfl, List.map_id] at z
    exact z
  · rw [List.map_map]
    refine ((List.map_congr_left fun d hd => ?_).trans (List.map_id ys)).symm
    obtain ⟨w, _, rfl⟩ := List.mem_map.mp (h.mem_iff.mp hd)
    rfl
theorem next_ne {a d n : Int} (h0 : 0 ≤ a) (h1 : a < n) (h2 : 0 ≤ d) (h3 : d < n - 1) : (a + 1 + d) % n ≠ a := by
  by_cases h : a + 1 + d < n
  · rw [Int.emod_eq_of_lt (by omega) h]
    omega
  · rw [show a + 1 + d = (a + 1 + d - n) + n by omega, Int.add_emod_right, Int.emod_eq_of_lt (by omega) (by omega)]
    omega
theorem prOk_of {n : Nat} {a b : Int} (h0 : 0 ≤ a) (h1 : a < n) (h2 : 0 ≤ b) (h3 : b < n) (h4 : a ≠ b) : PrOk n [a, b] :=
  ⟨a.toNat, b.toNat, by rw [Int.toNat_of_nonneg h0, Int.toNat_of_nonneg h2], by omega, by omega, by omega⟩
/-- links that are put into the list at D -/
structure LsW (n : Nat) (G H : Hp) (p q D : Addr) (us : List V) (prs : List Wy) : Prop where
  pm : Pm G H p q
  at_ : H D = some (.lst us)
  gD : G D = none
  np : D ≠ p
  dq : DqA G us (prs.map wd)
  ok : ∀ w ∈ prs, PrOk n w
theorem LsW.ext {n : Nat} {G H H' : Hp} {p q D : Addr} {us : List V} {prs : List Wy} (h : LsW n G H p q D us prs) (e : Ex H H') : LsW n G H' p q D us prs := ⟨h.pm.ext e, e _ _ h.at_, h.gD, h.np, h.dq, h.ok⟩
theorem LsW.off {n : Nat} {G H H' : Hp} {p q D : Addr} {us : List V} {prs : List Wy} (h : LsW n G H p q D us prs) (hP : Pm G H' p q) (o : Of1 p H H') : LsW n G H' p q D us prs := ⟨hP, o _ _ h.np h.at_, h.gD, h.np, h.dq, h.ok⟩
theorem LsW.put {n : Nat} {G H : Hp} {p q D t : Addr} {us : List V} {prs : List Wy} {w : Wy} (h : LsW n G H p q D us prs) (ht : H t = none) (hw : PrOk n w) :
    Ex G (upd G t (.tup (w.map V.int))) ∧ LsW n (upd G t (.tup (w.map V.int))) (upd (upd H t (.tup (w.map V.int))) D (.lst (us ++ [.ref t]))) p q D (us ++ [.ref t]) (prs ++ [w]) := by
  have gt := fresh_back h.pm.ex ht
  have eg : Ex G (upd G t (.tup (w.map V.int))) := Ex.new gt
  have nDt : D ≠ t := ne_of_none h.at_ ht
  have gD' : (upd G t (.tup (w.map V.int))) D = none := by rw [upd_ne nDt]; exact h.gD
  refine ⟨eg, (h.pm.new ht).mut gD' h.np, upd_same, gD', h.np, ?_, fun x hx => ?_⟩
  · rw [List.map_append]
    exact (h.dq.mono eg).append (.cons (wd_of upd_same) .nil)
  · rcases List.mem_append.mp hx with z | z
    · exact h.ok x z
    · rw [List.mem_singleton.mp z]
      exact hw
section
variable {P : Program} {w : World} {K : PySem.W.Frag} {mg : Str → Option Value} {base : Heap} {f : Addr} {fd : FuncData}
/-! _law_links -/
def spLinks : Sp := fun vs H Q _ => ∃ (G : Hp) (p q : Addr) (n : Nat), vs = [.ref p, .int (n : Int)] ∧ Pm G H p q ∧ 1 ≤ n ∧ n ≤ 8 ∧
  ∀ G' H' (l : Addr) (us : List V) (prs : List Wy), Ex G G' → Pm G' H' p q → G' l = some (.lst us) → DqA G' us (prs.map wd) → (∀ w ∈ prs, PrOk n w) → prs.length ≤ 22 → Q (.ref l) H'
abbrev sLinks : Stmt := top 10
abbrev nLinks : List Str := ["_law_pool_here", "_law_size", "_law_order", "_law_kind", "_law_links_here", "_law_k", "_law_a", "_law_b"]
theorem scLinks : FnScope nLinks ["_law_pool_here", "_law_size"] (defScope sLinks) := ⟨rfl, rfl, rfl, by decide +kernel, rfl, by decide +kernel, by decide +kernel⟩
theorem ok_links (B : Bl mg) (C : Cal P w K mg base "_law_draw" ["_law_pool_here", "_law_limit"] 2 spDraw) (C2 : Cal P w K mg base "_law_shuffled" ["_law_pool_here", "_law_items"] 3 spShuf) (F : FnP K "_law_links" sLinks f fd) : FnOk P w K mg base CX0 4 f fd ["_law_pool_here", "_law_size"] spLinks := by
  refine F.ok scLinks (fun vs H Q E h => ?_) (fun cdv A outer s H vs Q E hr h => ?_)
  · obtain ⟨G, p, q, n, rfl, _⟩ := h
    rfl
  · obtain ⟨G, p, q, n, rfl, hP, hn1, hn8, k⟩ := h
    refine ⟨_, pss_cons (ps_set (i := 2) scLinks.nd rfl (Or.inl rfl) (pe_cal C2 hr (by rfl) (pa_cons (pv 0) (pa_cons (pe_listRg rfl (by rfl) B.list (prg_1 (by rfl) B.range (pv 1))) pa_nil))))
      (pss_cons (ps_set (i := 3) scLinks.nd rfl (Or.inl rfl) (pe_cal C hr (by rfl) (pa_cons (pv 0) (pa_cons pe_int pa_nil))))
      (pss_cons (ps_set (i := 4) scLinks.nd rfl (Or.inl rfl) (pe_lst pa_nil))
      (pss_cut (ps_for (passes_of rfl) rfl (pi_range1 (by rfl) B.range (pa_cons (pe_op op_sub (pv 1) pe_int) pa_nil)) (pg_name (i := 5) scLinks.nd rfl (Or.inl rfl))
        (pss_one (ps_if (pt_cmpR op_ne (pv 3) pe_int (nomark _)) (pss_one (ps_expr (pe_bm PySem.F.plainAttrs_list PySem.F.slot_list_append PySem.F.type_list_append mt_append (pv 4) (pa_cons
          (pe_tup (pa_cons (pe_ix ix_list (pv 2) (pv 5) (fun _ _ => rfl)) (pa_cons (pe_ix ix_list (pv 2) (pe_op op_add (pv 5) pe_int) (fun _ _ => rfl)) pa_nil))) pa_nil)))) pss_nil)))
      (pss_cut (ps_for (passes_of rfl) rfl (pi_range1 (by rfl) B.range (pa_cons (pe_cal C hr (by rfl) (pa_cons (pv 0) (pa_cons (pe_op op_mul pe_int (pv 1)) pa_nil))) pa_nil)) (pg_name (i := 5) scLinks.nd rfl (Or.inl rfl))
        (pss_one (ps_if (PW.pt (pw_and (pt_cmpR op_gt (pv 1) pe_int (nomark _)) (pw_and1 (pt_cmpR op_ne (pv 3) pe_int (nomark _)))))
          (pss_cons (ps_set (i := 6) scLinks.nd rfl (Or.inl rfl) (pe_cal C hr (by rfl) (pa_cons (pv 0) (pa_cons (pv 1) pa_nil))))
          (pss_cons (ps_set (i := 7) scLinks.nd rfl (Or.inl rfl) (pe_op op_mod (pe_callTy call_int1 (by rfl) B.int PyProof.Rows.boot_int (pa_cons (pe_op op_add (pe_op op_add (pv 6) pe_int) (pe_cal C hr (by rfl) (pa_cons (pv 0) (pa_cons (pe_op op_sub (pv 1) pe_int) pa_nil)))) pa_nil)) (pv 1)))
          (pss_one (ps_expr (pe_bm PySem.F.plainAttrs_list PySem.F.slot_list_append PySem.F.type_list_append mt_append (pv 4) (pa_cons (pe_tup (pa_cons (pv 6) (pa_cons (pv 7) pa_nil))) pa_nil)))))) pss_nil)))
      (pss_one (ps_ret (pe_cal C2 hr (by rfl) (pa_cons (pv 0) (pa_cons (pv 4) pa_nil))))))))), ?_⟩
    refine ⟨.ref p, rfl, .int (n : Int), rfl, (n : Int), rfl, RgOk.of_le (by decide) (by omega) (by decide) (by omega), fun a0 ha0 => ?_⟩
    have e0 : rgV 0 (n : Int) = ((List.range n).map fun (i : Nat) => (i : Int)).map V.int := by
      unfold rgV
      rw [show ((n : Int) - 0).toNat = n by omega, List.map_map]
      refine List.map_congr_left fun i _ => ?_
      show V.int ((0 : Int) + (i : Int)) = V.int (i : Int)
      rw [Int.zero_add]
    have ga0 := fresh_back hP.ex ha0
    have hP0 := hP.new (o := .lst (rgV 0 (n : Int))) ha0
    refine ⟨_, p, q, a0, _, rfl, hP0, upd_same, by rw [e0]; simp; omega, fun H1 l ys hP1 hl0 nlp hl hpm => ?_⟩
    rw [e0] at hpm
    obtain ⟨os, hos, rfl⟩ := perm_ints hpm
    have gl := fresh_back hP0.ex hl0
    have hol : os.length = n := by rw [hos.length_eq]; simp
    have hrg : ∀ x ∈ os, 0 ≤ x ∧ x < (n : Int) := fun x hx => by
      obtain ⟨i, hi, rfl⟩ := List.mem_map.mp (hos.mem_iff.mp hx)
      have := List.mem_range.mp hi
      omega
    have hnd : os.Nodup := hos.nodup_iff.mpr (by
      rw [List.nodup_iff_pairwise_ne, List.pairwise_map]
      exact List.Pairwise.imp (fun h => by omega) List.pairwise_lt_range)
    have eG0 : Ex G (upd G a0 (.lst (rgV 0 (n : Int)))) := Ex.new ga0
    have hP2 := hP1.hold hl nlp gl
    have eG1 : Ex (upd G a0 (.lst (rgV 0 (n : Int)))) (upd (upd G a0 (.lst (rgV 0 (n : Int)))) l (.lst (os.map V.int))) := Ex.new gl
    have hGl : (upd (upd G a0 (.lst (rgV 0 (n : Int)))) l (.lst (os.map V.int))) l = some (.lst (os.map V.int)) := upd_same
    have eG := eG0.trans eG1
    generalize upd (upd G a0 (.lst (rgV 0 (n : Int)))) l (.lst (os.map V.int)) = G1 at *
    clear eG0 eG1 hP1 hP0
    refine g_name ?_
    refine ⟨.ref p, rfl, ⟨_, p, q, _, rfl, hP2.hd, by decide, by decide, fun H2 kd hP30 hk0 hk1 => ?_⟩⟩
    have hP3 := hP2.back hP30
    have hO2 := hP30.off
    refine g_name ?_
    refine ⟨by show 0 ≤ sizeLine; decide, fun D hD => ?_⟩
    have gD := fresh_back hP3.ex hD
    have nD := hP3.np hD
    have hW0 : LsW n G1 (upd H2 D (.lst [])) p q D [] [] := ⟨hP3.ext (Ex.new hD), upd_same, gD, nD, .nil, fun w hw => by cases hw⟩
    refine g_name ?_
    dsimp only
    generalize upd H2 D (.lst []) = H3 at *
    refine q_cut (M := fun σ' H' => ∃ (G' : Hp) (us : List V) (prs : List Wy) (o5 : Option V), σ' = [some (.ref p), some (.int (n : Int)), some (.ref l), some (.int kd), some (.ref D), o5, none, none] ∧ Ex G1 G' ∧ LsW n G' H' p q D us prs ∧ prs.length ≤ 7) ?_ ?_
    · change tFor _ _ _ _ [some (.ref p), some (.int (n : Int)), some (.ref l), some (.int kd), some (.ref D), none, none, none] H3
      refine s_forR1 (ea_cons (ev_op (ev_var rfl) ev_c rv_I0) ea_nil) (n := (n : Int) - 1) (by omega) (fun i σ' H' => ∃ (G' : Hp) (us : List V) (prs : List Wy) (o5 : Option V), σ' = [some (.ref p), some (.int (n : Int)), some (.ref l), some (.int kd), some (.ref D), o5, none, none] ∧ Ex G1 G' ∧ LsW n G' H' p q D us prs ∧ prs.length ≤ i) (fun H4 e4 => ⟨G1, [], [], none, rfl, Ex.refl _, hW0.ext e4, Nat.zero_le _⟩) ?_ (fun σ' H' ⟨G', us, prs, o5, h1, h2, h3, h4⟩ => ⟨G', us, prs, o5, h1, h2, h3, by omega⟩)
      rintro i σ' H4 hi ⟨G', us, prs, o5, rfl, eG', hW, hl4⟩
      change tIfS _ _ _ _ [some (.ref p), some (.int (n : Int)), some (.ref l), some (.int kd), some (.ref D), some (.int (i : Int)), none, none] H4
      refine s_when (b := !decide (V.int kd = V.int 1)) (et_test (ev_op (ev_var rfl) ev_c (rv_ne rfl))) (fun _ H5 e5 => ?_) (fun _ H5 e5 => ⟨G', us, prs, _, rfl, eG', hW.ext e5, by omega⟩)
      have hW5 := hW.ext e5
      have hL : H5 l = some (.lst (os.map V.int)) := hW5.pm.ex _ _ (eG' _ _ hGl)
      have hi1 : i < os.length := by omega
      have hi2 : i + 1 < os.length := by omega
      have at1 := at_ints hi1
      have at2 := at_ints hi2
      rw [show ((i + 1 : Nat) : Int) = (i : Int) + 1 by omega] at at2
      have r1 := hrg os[i] (List.getElem_mem hi1)
      have r2 := hrg os[i + 1] (List.getElem_mem hi2)
      have rn : os[i] ≠ os[i + 1] := (List.pairwise_iff_getElem.mp hnd) i (i + 1) hi1 hi2 (by omega)
      generalize os[i] = x1 at *
      generalize os[i + 1] = x2 at *
      have hul := hW5.dq.length
      rw [List.length_map] at hul
      refine ⟨.ref D, rfl, .inl ⟨rfl, _, sq_of hW5.at_⟩, .ref l, rfl, .int (i : Int), rfl, l, _, (i : Int), .int x1, rfl, rfl, sq_of hL, at1, .ref l, rfl, .int (i : Int), rfl, (i : Int), 1, rfl, rfl, l, _, (i : Int) + 1, .int x2, rfl, rfl, sq_of hL, at2, by show 2 ≤ sizeLine; decide, fun t ht => ?_⟩
      obtain ⟨eg, hW6⟩ := hW5.put ht (w := [x1, x2]) (prOk_of r1.1 r1.2 r2.1 r2.2 rn)
      exact ⟨D, us, .ref t, rfl, rfl, by rw [upd_ne (ne_of_none hW5.at_ ht)]; exact hW5.at_, by rw [sizeLine_eq]; omega, _, _, _, _, rfl, eG'.trans eg, hW6, by simp; omega⟩
    rintro σ' H4 ⟨G', us, prs, o5, rfl, eG', hW, hl4⟩
    refine q_cut (M := fun σ' H' => ∃ (G' : Hp) (us : List V) (prs : List Wy) (o5 o6 o7 : Option V), σ' = [some (.ref p), some (.int (n : Int)), some (.ref l), some (.int kd), some (.ref D), o5, o6, o7] ∧ Ex G1 G' ∧ LsW n G' H' p q D us prs ∧ prs.length ≤ 22) ?_ ?_
    · refine ⟨.ref p, rfl, .int (n : Int), rfl, 2, (n : Int), rfl, rfl, .inl ⟨by decide, by decide⟩, ⟨_, p, q, _, rfl, hW.pm.hd, by omega, by omega, fun H5 j hP50 hj0 hj1 => ?_⟩⟩
      have hP5 := hW.pm.back hP50
      have hO5 := hP50.off
      have hW5 := hW.off hP5 hO5
      refine ⟨j, rfl, by omega, by omega, for_range (lo := 0) (n := j.toNat) (fun i σ' H' => ∃ (G' : Hp) (us : List V) (prs : List Wy) (o5 o6 o7 : Option V), σ' = [some (.ref p), some (.int (n : Int)), some (.ref l), some (.int kd), some (.ref D), o5, o6, o7] ∧ Ex G1 G' ∧ LsW n G' H' p q D us prs ∧ prs.length ≤ 7 + i) ⟨G', us, prs, _, _, _, rfl, eG', hW5, by omega⟩ ?_ (fun σ' H' ⟨G', us, prs, o5, o6, o7, h1, h2, h3, h4⟩ => ⟨G', us, prs, o5, o6, o7, h1, h2, h3, by omega⟩)⟩
      rintro i σ' H6 hi ⟨G6, us6, prs6, o5, o6, o7, rfl, eG6, hW6, hl6⟩
      refine g_name ?_
      dsimp only
      have stay : ∀ H7, Ex H6 H7 → ∃ (G' : Hp) (us : List V) (prs : List Wy) (p5 p6 p7 : Option V), [some (.ref p), some (.int (n : Int)), some (.ref l), some (.int kd), some (.ref D), some (.int (0 + (i : Int))), o6, o7] = [some (.ref p), some (.int (n : Int)), some (.ref l), some (.int kd), some (.ref D), p5, p6, p7] ∧ Ex G1 G' ∧ LsW n G' H7 p q D us prs ∧ prs.length ≤ 7 + (i + 1) := fun H7 e7 => ⟨G6, us6, prs6, _, _, _, rfl, eG6, hW6.ext e7, by omega⟩
      change tIfS _ _ _ _ [some (.ref p), some (.int (n : Int)), some (.ref l), some (.int kd), some (.ref D), some (.int (0 + (i : Int))), o6, o7] H6
      refine s_when (b := decide ((n : Int) > 1) && !decide (V.int kd = V.int 0)) (et_and (et_test (ev_op (ev_var rfl) ev_c rv_I0)) fun _ => et_test (ev_op (ev_var rfl) ev_c (rv_ne rfl))) (fun hb H7 e7 => ?_) (fun _ H7 e7 => stay H7 e7)
      have hn2 : (n : Int) > 1 := of_decide_eq_true (Bool.and_eq_true_iff.mp hb).1
      have hW7 := hW6.ext e7
      refine ⟨.ref p, rfl, .int (n : Int), rfl, ⟨_, p, q, _, rfl, hW7.pm.hd, by omega, by omega, fun H8 a hP80 ha0 ha1 => ?_⟩⟩
      have hP8 := hW7.pm.back hP80
      have hO8 := hP80.off
      have hW8 := hW7.off hP8 hO8
      refine g_name ?_
      dsimp only
      refine ⟨.int a, rfl, a, 1, rfl, rfl, .ref p, rfl, .int (n : Int), rfl, (n : Int), 1, rfl, rfl, ⟨_, p, q, _, rfl, hW8.pm.hd, by omega, by omega, fun H9 d hP90 hd0 hd1 => ?_⟩⟩
      have hP9 := hW8.pm.back hP90
      have hO9 := hP90.off
      have hW9 := hW8.off hP9 hO9
      refine ⟨_, d, rfl, rfl, .inl ⟨_, rfl, .int (n : Int), rfl, _, (n : Int), rfl, rfl, (show (0 : Int) < (n : Int) by omega), ?_⟩⟩
      have mb := modP (a + 1 + d) (n : Int) (by omega)
      have nb := next_ne ha0 ha1 hd0 hd1
      refine g_name ?_
      dsimp only
      generalize (a + 1 + d) % (n : Int) = b at mb nb ⊢
      have hul := hW9.dq.length
      rw [List.length_map] at hul
      refine ⟨.ref D, rfl, .inl ⟨rfl, _, sq_of hW9.at_⟩, .int a, rfl, .int b, rfl, by show 2 ≤ sizeLine; decide, fun t ht => ?_⟩
      obtain ⟨eg, hW10⟩ := hW9.put ht (w := [a, b]) (prOk_of ha0 ha1 mb.1 mb.2 (Ne.symm nb))
      exact ⟨D, us6, .ref t, rfl, rfl, by rw [upd_ne (ne_of_none hW9.at_ ht)]; exact hW9.at_, by rw [sizeLine_eq]; omega, _, _, _, _, _, _, rfl, eG6.trans eg, hW10, by simp; omega⟩
    rintro σ' H5 ⟨G5, us5, prs5, o5, o6, o7, rfl, eG5, hW5, hl5⟩
    have hul := hW5.dq.length
    rw [List.length_map] at hul
    have hP5 := hW5.pm.hold hW5.at_ hW5.np hW5.gD
    have eD : Ex G5 (upd G5 D (.lst us5)) := Ex.new hW5.gD
    refine ⟨.ref p, rfl, .ref D, rfl, _, p, q, D, us5, rfl, hP5, upd_same, by omega, fun H6 l2 ys2 hP6 hl20 nl2 hl2 hpm2 => ?_⟩
    have gl2 := fresh_back hP5.ex hl20
    obtain ⟨es, hes, hdq⟩ := DqA.perm hpm2 (hW5.dq.mono eD)
    obtain ⟨ws, hws, rfl⟩ := perm_wds hes
    have e2 : Ex (upd G5 D (.lst us5)) (upd (upd G5 D (.lst us5)) l2 (.lst ys2)) := Ex.new gl2
    exact k _ H6 l2 ys2 ws ((eG.trans eG5).trans (eD.trans e2)) (hP6.hold hl2 nl2 gl2) upd_same (hdq.mono e2) (fun w hw => hW5.ok w (hws.mem_iff.mp hw)) (by rw [hws.length_eq]; exact hl5)
/-! _law_pairs -/
def spPairs : Sp := fun vs H Q _ => ∃ (l : Addr) (us : List V) (prs : List Wy), vs = [.ref l] ∧ H l = some (.lst us) ∧ DqA H us (prs.map wd) ∧ (∀ w ∈ prs, PrOk 8 w) ∧ prs.length ≤ 22 ∧
  ∀ H' l' us', Ex H H' → H l' = none → H' l' = some (.lst us') → DqA H' us' ((joinW prs).map wd) → Q (.ref l') H'
abbrev sPairs : Stmt := top 11
abbrev nPairs : List Str := ["_law_links_here", "_law_link"]
theorem scPairs : FnScope nPairs ["_law_links_here"] (defScope sPairs) := ⟨rfl, rfl, rfl, by decide +kernel, rfl, by decide +kernel, by decide +kernel⟩
theorem upTo_all (n : Nat) : upTo (fun _ => true) n = List.range n := by
  unfold upTo
  exact List.filter_eq_self.mpr fun _ _ => rfl
theorem range_sw (prs : List Wy) : (List.range prs.length).map (fun i => swW (prs.getD i [])) = prs.map swW := by
  apply List.ext_getElem
  · simp
  · intro i h1 h2
    have h3 : i < prs.length := by simpa using h1
    simp [List.getD_eq_getElem?_getD, List.getElem?_eq_getElem h3]
theorem ok_pairs (B : Bl mg) (hs : mg "sorted" = none) (F : FnP K "_law_pairs" sPairs f fd) : FnOk P w K mg base CX0 1 f fd ["_law_links_here"] spPairs := by
  refine F.ok scPairs (fun vs H Q E h => ?_) (fun cdv A outer s H vs Q E hr h => ?_)
  · obtain ⟨l, us, prs, rfl, _⟩ := h
    rfl
  · obtain ⟨l, us, prs, rfl, hl, hus, hok, hpl, k⟩ := h
    have hu : (A.deeper (envOfC "_law_pairs" (defScope sPairs) s.heap.objs.size f cdv)).units + 64 < cLine := by have := hr.un; omega
    refine ⟨_, pss_one (ps_ret (pe_callB (cr_sortedT rfl) (by rfl) hs boot_sorted (pa_cons (pe_callTy (cr_setOfT rfl hu) (by rfl) B.set PyProof.Rows.boot_set (pa_cons (pe_op op_cat (pv 0)
      (pe_lc (own := [("_law_link", 1)]) (g := gName 1) (tt := tYes) (te := tTup (tCons (tOp (rIxT K) (tVar 1) (tC (.int 1))) (tCons (tOp (rIxT K) (tVar 1) (tC (.int 0))) tNil))) rfl scPairs.nd
        (pi_list (pv 0)) (blkOk_by (N := nPairs) (sc := defScope sPairs) (by decide +kernel)) (fun _ _ _ _ _ => pg_name (i := 1) scPairs.nd rfl (Or.inl rfl))
        (fun _ _ _ _ _ => pts_nil)
        (fun _ _ _ _ _ => pe_tup (pa_cons (pe_ix ix_tup (pv 1) pe_int (fun _ _ => rfl)) (pa_cons (pe_ix ix_tup (pv 1) pe_int (fun _ _ => rfl)) pa_nil))))) pa_nil)) pa_nil))), ?_⟩
    have hul := hus.length
    rw [List.length_map] at hul
    have hbd := PrOk.bd (n := 8) (by omega) (both_ok hok)
    have two : ∀ {i : Nat} {x : V}, us[i]? = some x → ∃ (a : Addr) (w : Wy), x = .ref a ∧ prs.getD i [] = w ∧ H a = some (.tup (w.map V.int)) ∧ atI (w.map V.int) 1 = some (.int (w.getD 1 0)) ∧ atI (w.map V.int) 0 = some (.int (w.getD 0 0)) := by
      intro i x hx
      obtain ⟨w, h1, h2⟩ := DqA.wds_inv hus hx
      obtain ⟨a, rfl, ha⟩ := wd_ref h2
      obtain ⟨u, v, rfl, _⟩ := hok w (List.mem_of_getElem? h1)
      exact ⟨a, _, rfl, by rw [List.getD_eq_getElem?_getD, h1]; rfl, ha, atI_nat (j := 1) rfl, atI_nat (j := 0) rfl⟩
    refine ret_cb (cb1 ?_)
    refine ⟨.ref l, rfl, ?_⟩
    refine ⟨.ref l, rfl, l, rfl, ⟨us, sq_of hl⟩, fun D hD => ?_⟩
    refine grow_lc (walk_list (K := K) (a := l) (xs := us)) (Yx := fun i x => us[i]? = some x) (tupY_good fun i => (swW (prs.getD i [])).map V.int) (fun _ => true) hD (by omega)
      (fun H' e => sq_of (e _ _ hl)) (fun x => rfl) (fun i x H' e hi hx => et_yes) (fun i x H' e hi hx _ => ?_) (fun us2 H2 e2 hd g => ?_)
    · obtain ⟨a, w, rfl, ew, ha, at1, at0⟩ := two hx
      have i1 : Ev (tOp (rIxT K) (tVar 1) (tC (.int 1))) ((wipe (start nPairs [V.ref l]) [1]).set 1 (some (.ref a))) H' (.int (w.getD 1 0)) := ev_op (ev_var rfl) ev_c (rv_ixT (st_of (e _ _ ha)) at1)
      have i0 : Ev (tOp (rIxT K) (tVar 1) (tC (.int 0))) ((wipe (start nPairs [V.ref l]) [1]).set 1 (some (.ref a))) H' (.int (w.getD 0 0)) := ev_op (ev_var rfl) ev_c (rv_ixT (st_of (e _ _ ha)) at0)
      intro H3 e3 Q3 q
      refine (ea_cons i1 (ea_cons i0 ea_nil)) H3 e3 _ fun H4 e4 => ⟨by show 2 ≤ sizeLine; decide, fun p hp => q _ _ (e4.trans (Ex.new hp)) ⟨p, rfl, ?_⟩⟩
      show upd H4 p _ p = some (.tup ((swW (prs.getD i [])).map V.int))
      rw [ew]
      exact upd_same
    · obtain ⟨ks2, k1, k2, k3⟩ := grown_ks g
      subst k1
      rw [upTo_all, hul, range_sw] at k2
      obtain ⟨ks1, j1, j2, j3⟩ := wds_ks (hus.mono e2)
      have l1 : ks1.length = prs.length := by rw [← j2, List.length_map]
      have l2 : ks2.length = prs.length := by
        have := congrArg List.length k2
        simpa using this
      refine ⟨l, D, us, _, rfl, rfl, e2 _ _ hl, hd, by rw [List.length_map, sizeLine_eq]; omega, fun t ht => ?_⟩
      have et := Ex.new (o := .lst (us ++ ks2.map fun p => V.ref p.1)) ht
      have htt : (upd H2 t (.lst (us ++ ks2.map fun p => V.ref p.1))) t = some (.lst ((ks1 ++ ks2).map fun p => V.ref p.1)) := by
        rw [upd_same, List.map_append, ← j1]
      generalize upd H2 t (.lst (us ++ ks2.map fun p => V.ref p.1)) = H3 at *
      have hm3 : ∀ p ∈ ks1 ++ ks2, H3 p.1 = some (.tup (p.2.map V.int)) := fun p hp => by
        rcases List.mem_append.mp hp with z | z
        · exact et _ _ (j3 p z)
        · exact et _ _ (k3 p z)
      have hmem : ∀ p, p ∈ (ks1 ++ ks2).map (·.2) ↔ p ∈ prs ++ prs.map swW := by
        intro p
        rw [List.map_append, j2, k2]
      refine ⟨t, ks1 ++ ks2, rfl, sq_of htt, fun p hp => st_of (hm3 p hp), by rw [List.length_append]; omega, fun a L ha h1 h2 => ?_⟩
      have ea := Ex.new (o := SetTO P w a L) ha
      refine ⟨a, L, 2, 64, rfl, upd_same, fun p hp => st_of (ea _ _ (hm3 p (h1 p hp))), by decide, fun p hp => ?_, fun L' p pm nd l64 pw hp => ?_⟩
      · obtain ⟨u, v', hu', hv', ep⟩ := hbd p.2 ((hmem _).mp (List.mem_map.mpr ⟨p, h1 p hp, rfl⟩))
        rw [ep]
        refine ⟨rfl, fun m hm => ?_⟩
        rcases List.mem_cons.mp hm with z | z
        · omega
        · rcases List.mem_cons.mp z with z | z
          · omega
          · cases z
      · have eM : L'.map (·.2) = joinW prs := by
          refine asc_unique hbd (fun q => ?_) nd (List.pairwise_map.mpr pw)
          rw [← hmem]
          constructor
          · intro hq
            obtain ⟨r, hr', rfl⟩ := List.mem_map.mp hq
            exact List.mem_map.mpr ⟨r, h1 r (pm.mem_iff.mp hr'), rfl⟩
          · intro hq
            obtain ⟨r, hr', rfl⟩ := List.mem_map.mp hq
            obtain ⟨r2, hr2, e⟩ := List.mem_map.mp (h2 r hr')
            exact List.mem_map.mpr ⟨r2, pm.mem_iff.mpr hr2, e⟩
        have ep := Ex.new (o := .lst (L'.map fun q => V.ref q.1)) hp
        refine k _ p _ ((e2.trans et).trans (ea.trans ep)) (fresh_back ((e2.trans et).trans ea) hp) upd_same ?_
        rw [← eM]
        exact ks_wds fun q hq => ep _ _ (ea _ _ (hm3 q (h1 q (pm.mem_iff.mp hq))))
end
end Wk

set_option Elab.async false
set_option linter.all false
set_option maxRecDepth 100000
set_option maxHeartbeats 2000000
namespace Wk
open PySem PySem.Spec PyProof.Rows L2 Evl
/-! deeds -/
inductive Deed
  | pas (a b : Nat)
  | los (a b : Nat)
  | rst (r : Nat)
  | wri (r c : Nat)
def Deed.vs : Deed → List V
  | .pas a b => [.str "pass", .int (a : Int), .int (b : Int)]
  | .los a b => [.str "lose", .int (a : Int), .int (b : Int)]
  | .rst r => [.str "restart", .int (r : Int)]
  | .wri r c => [.str "write", .int (r : Int), .int (c : Int)]
def Deed.ds : Deed → List PyData
  | .pas a b => [.str "pass", .int (a : Int), .int (b : Int)]
  | .los a b => [.str "lose", .int (a : Int), .int (b : Int)]
  | .rst r => [.str "restart", .int (r : Int)]
  | .wri r c => [.str "write", .int (r : Int), .int (c : Int)]
def Deed.d (x : Deed) : PyData := .tuple x.ds
def Deed.ok (n : Nat) (js : List Wy) (rs : Bool) : Deed → Prop
  | .pas a b => [(a : Int), (b : Int)] ∈ js
  | .los a b => [(a : Int), (b : Int)] ∈ js
  | .rst r => r < n ∧ rs = true
  | .wri r c => r < n ∧ c < 100
theorem Deed.dqa (H : Hp) : ∀ x : Deed, DqA H x.vs x.ds
  | .pas a b => .cons (.str _) (.cons (.int _) (.cons (.int _) .nil))
  | .los a b => .cons (.str _) (.cons (.int _) (.cons (.int _) .nil))
  | .rst r => .cons (.str _) (.cons (.int _) .nil)
  | .wri r c => .cons (.str _) (.cons (.int _) (.cons (.int _) .nil))
theorem Deed.dq {H : Hp} {t : Addr} {x : Deed} (h : H t = some (.tup x.vs)) : Dq H (.ref t) x.d := .tup h (x.dqa H)
theorem Deed.inv {H : Hp} {v : V} {x : Deed} (h : Dq H v x.d) : ∃ t, v = .ref t ∧ H t = some (.tup x.vs) := by
  unfold Deed.d at h
  cases h with
  | @tup a xs _ h1 h2 =>
    refine ⟨a, rfl, ?_⟩
    rw [h1]
    cases x with
    | pas a b => obtain _ | ⟨⟨⟩, _ | ⟨⟨⟩, _ | ⟨⟨⟩, _ | _⟩⟩⟩ := h2; rfl
    | los a b => obtain _ | ⟨⟨⟩, _ | ⟨⟨⟩, _ | ⟨⟨⟩, _ | _⟩⟩⟩ := h2; rfl
    | rst r => obtain _ | ⟨⟨⟩, _ | ⟨⟨⟩, _ | _⟩⟩ := h2; rfl
    | wri r c => obtain _ | ⟨⟨⟩, _ | ⟨⟨⟩, _ | ⟨⟨⟩, _ | _⟩⟩⟩ := h2; rfl
section
variable {P : Program} {w : World} {K : PySem.W.Frag} {mg : Str → Option Value} {base : Heap} {f : Addr} {fd : FuncData}
/-! _law_deed -/
def spDeed : Sp := fun vs H Q _ => ∃ (G : Hp) (p q l : Addr) (n : Nat) (us : List V) (js : List Wy) (rs : Bool), vs = [.ref p, .int (n : Int), .ref l, .bl rs] ∧ Pm G H p q ∧ 1 ≤ n ∧ n ≤ 8 ∧ G l = some (.lst us) ∧ DqA G us (js.map wd) ∧ (∀ w ∈ js, PrOk n w) ∧ js.length ≤ 64 ∧
  ∀ H' t (x : Deed), H t = none → Pm (upd G t (.tup x.vs)) H' p q → x.ok n js rs → Q (.ref t) H'
abbrev sDeed : Stmt := top 13
abbrev nDeed : List Str := ["_law_pool_here", "_law_size", "_law_pairs_here", "_law_restarts", "_law_kind", "_law_pair", "_law_content"]
theorem scDeed : FnScope nDeed ["_law_pool_here", "_law_size", "_law_pairs_here", "_law_restarts"] (defScope sDeed) := ⟨rfl, rfl, rfl, by decide +kernel, rfl, by decide +kernel, by decide +kernel⟩
theorem new_back {G H H1 : Hp} {p q t : Addr} (h : Pm G H p q) (o : Of1 p H H1) (h1 : Pm G H1 p q) (ht : H1 t = none) : H t = none := by
  cases e : H t with
  | none => rfl
  | some u =>
    have np := h1.np ht
    rw [o _ _ np e] at ht
    cases ht
theorem ok_deed (B : Bl mg) (C : Cal P w K mg base "_law_draw" ["_law_pool_here", "_law_limit"] 2 spDraw) (F : FnP K "_law_deed" sDeed f fd) : FnOk P w K mg base CX0 3 f fd ["_law_pool_here", "_law_size", "_law_pairs_here", "_law_restarts"] spDeed := by
  refine F.ok scDeed (fun vs H Q E h => ?_) (fun cdv A outer s H vs Q E hr h => ?_)
  · obtain ⟨G, p, q, l, n, us, js, rs, rfl, _⟩ := h
    rfl
  · obtain ⟨G, p, q, l, n, us, js, rs, rfl, hP, hn1, hn8, hl, hus, hok, hjl, k⟩ := h
    refine ⟨_, pss_cons (ps_set (i := 4) scDeed.nd rfl (Or.inl rfl) (pe_cal C hr (by rfl) (pa_cons (pv 0) (pa_cons pe_int pa_nil))))
      (pss_cons (ps_if (PW.pt (pw_and (pt_cmpR op_lt (pv 4) pe_int (nomark _)) (pw_and1 (pt_cmpR op_gt (pe_callB call_len_seq (by rfl) B.len PySem.boot_len (pa_cons (pv 2) pa_nil)) pe_int (nomark _)))))
          (pss_cons (ps_set (i := 5) scDeed.nd rfl (Or.inl rfl) (pe_ix ix_list (pv 2) (pe_cal C hr (by rfl) (pa_cons (pv 0) (pa_cons (pe_callB call_len_seq (by rfl) B.len PySem.boot_len (pa_cons (pv 2) pa_nil)) pa_nil))) (fun _ _ => rfl)))
          (pss_one (ps_ret (pe_tup (pa_cons pe_str (pa_cons (pe_ix ix_tup (pv 5) pe_int (fun _ _ => rfl)) (pa_cons (pe_ix ix_tup (pv 5) pe_int (fun _ _ => rfl)) pa_nil))))))) pss_nil)
      (pss_cons (ps_if (PW.pt (pw_and (pt_cmpR op_eq (pv 4) pe_int (nomark _)) (pw_and1 (pt_cmpR op_gt (pe_callB call_len_seq (by rfl) B.len PySem.boot_len (pa_cons (pv 2) pa_nil)) pe_int (nomark _)))))
          (pss_cons (ps_set (i := 5) scDeed.nd rfl (Or.inl rfl) (pe_ix ix_list (pv 2) (pe_cal C hr (by rfl) (pa_cons (pv 0) (pa_cons (pe_callB call_len_seq (by rfl) B.len PySem.boot_len (pa_cons (pv 2) pa_nil)) pa_nil))) (fun _ _ => rfl)))
          (pss_one (ps_ret (pe_tup (pa_cons pe_str (pa_cons (pe_ix ix_tup (pv 5) pe_int (fun _ _ => rfl)) (pa_cons (pe_ix ix_tup (pv 5) pe_int (fun _ _ => rfl)) pa_nil))))))) pss_nil)
      (pss_cons (ps_if (PW.pt (pw_and (pt_cmpR op_eq (pv 4) pe_int (nomark _)) (pw_and1 (pt_val (pv 3)))))
          (pss_one (ps_ret (pe_tup (pa_cons pe_str (pa_cons (pe_cal C hr (by rfl) (pa_cons (pv 0) (pa_cons (pv 1) pa_nil))) pa_nil))))) pss_nil)
      (pss_cons (ps_set (i := 6) scDeed.nd rfl (Or.inl rfl) (pe_cal C hr (by rfl) (pa_cons (pv 0) (pa_cons pe_int pa_nil))))
      (pss_cons (ps_if (pt_cmpR op_eq (pv 4) pe_int (nomark _)) (pss_one (ps_set (i := 6) scDeed.nd rfl (Or.inl rfl) (pe_op op_mod (pe_callTy call_int1 (by rfl) B.int PyProof.Rows.boot_int (pa_cons (pv 6) pa_nil)) pe_int))) pss_nil)
      (pss_one (ps_ret (pe_tup (pa_cons pe_str (pa_cons (pe_cal C hr (by rfl) (pa_cons (pv 0) (pa_cons (pv 1) pa_nil))) (pa_cons (pv 6) pa_nil)))))))))))
, ?_⟩
    have hul := hus.length
    rw [List.length_map] at hul
    refine ⟨.ref p, rfl, ⟨_, p, q, _, rfl, hP.hd, by decide, by decide, fun H1 kd hP10 hk0 hk1 => ?_⟩⟩
    have hP1 := hP.back hP10
    have hO1 := hP10.off
    refine g_name ?_
    dsimp only
    -- a drawn pair
    have draw : ∀ (H2 : Hp), Pm G H2 p q → Of1 p H H2 → 0 < us.length → ∀ (Qd : VK), (∀ (H3 : Hp) (b : Addr) (x y : Nat), Pm G H3 p q → Of1 p H H3 → H3 b = some (.tup [.int (x : Int), .int (y : Int)]) → [(x : Int), (y : Int)] ∈ js → Qd (.ref b) H3) →
        tOp (rIxL K) (tVar 2) (tCall spDraw [] E0 (tCons (tVar 0) (tCons (tCB (rLenS K) (tCons (tVar 2) tNil)) tNil))) [some (.ref p), some (.int (n : Int)), some (.ref l), some (.bl rs), some (.int kd), none, none] H2 Qd := fun H2 hP2 hO2 h0 Qd kq => by
      have hl2 := hP2.ex _ _ hl
      refine ⟨.ref l, rfl, .ref p, rfl, .ref l, rfl, l, _, rfl, .inl (sq_of hl2), ⟨_, p, q, _, rfl, hP2.hd, by omega, by omega, fun H3 j hP30 hj0 hj1 => ?_⟩⟩
      have hP3 := hP2.back hP30
      have hO3 := hP30.off
      obtain ⟨m, rfl⟩ : ∃ m : Nat, j = (m : Int) := ⟨j.toNat, by omega⟩
      have hm : m < us.length := by omega
      have hum : us[m]? = some us[m] := List.getElem?_eq_getElem hm
      obtain ⟨w, h1, h2⟩ := DqA.wds_inv hus hum
      obtain ⟨b, eb, hb⟩ := wd_ref h2
      have hwm := List.mem_of_getElem? h1
      obtain ⟨x, y, rfl, _⟩ := hok w hwm
      refine ⟨l, _, (m : Int), .ref b, rfl, rfl, sq_of (hP3.ex _ _ hl), atI_nat (by rw [hum, eb]), kq H3 b x y hP3 (hO2.trans hO3) (hP3.ex _ _ hb) hwm⟩
    have lens : ∀ {H2 : Hp}, Pm G H2 p q → EvT (tTest (tOp (rI0 fun i j => .bl (decide (i > j))) (tCB (rLenS K) (tCons (tVar 2) tNil)) (tC (.int 0)))) [some (.ref p), some (.int (n : Int)), some (.ref l), some (.bl rs), some (.int kd), none, none] H2 (decide ((us.length : Int) > 0)) := fun hP2 => et_test (ev_op (ev_len (ev_var rfl) (sq_of (hP2.ex _ _ hl))) ev_c rv_I0)
    refine q_when (b := decide (kd < 6) && decide ((us.length : Int) > 0)) (et_and (et_test (ev_op (ev_var rfl) ev_c rv_I0)) fun _ => lens hP1) (fun hb H2 e2 => ?_) (fun _ H2 e2 => ?_)
    · have h0 := of_decide_eq_true (Bool.and_eq_true_iff.mp hb).2
      refine draw H2 (hP1.ext e2) (hO1.trans (Of1.ex e2)) (by omega) _ fun H3 b x y hP3 hO3 hb3 hm => ?_
      refine g_name ?_
      dsimp only
      refine ⟨.ref b, rfl, b, _, 0, .int (x : Int), rfl, rfl, st_of hb3, rfl, .ref b, rfl, b, _, 1, .int (y : Int), rfl, rfl, st_of hb3, rfl, by show 3 ≤ sizeLine; decide, fun t ht => ?_⟩
      exact k _ t (.pas x y) (new_back hP hO3 hP3 ht) (hP3.new ht) hm
    have hP2 := hP1.ext e2
    have hO2 := hO1.trans (Of1.ex e2)
    refine q_when (b := decide (V.int kd = V.int 6) && decide ((us.length : Int) > 0)) (et_and (et_test (ev_op (ev_var rfl) ev_c (rv_eq rfl))) fun _ => lens hP2) (fun hb H3 e3 => ?_) (fun _ H3 e3 => ?_)
    · have h0 := of_decide_eq_true (Bool.and_eq_true_iff.mp hb).2
      refine draw H3 (hP2.ext e3) (hO2.trans (Of1.ex e3)) (by omega) _ fun H4 b x y hP4 hO4 hb4 hm => ?_
      refine g_name ?_
      dsimp only
      refine ⟨.ref b, rfl, b, _, 0, .int (x : Int), rfl, rfl, st_of hb4, rfl, .ref b, rfl, b, _, 1, .int (y : Int), rfl, rfl, st_of hb4, rfl, by show 3 ≤ sizeLine; decide, fun t ht => ?_⟩
      exact k _ t (.los x y) (new_back hP hO4 hP4 ht) (hP4.new ht) hm
    have hP3 := hP2.ext e3
    have hO3 := hO2.trans (Of1.ex e3)
    refine q_when (b := decide (V.int kd = V.int 7) && rs) (et_and (et_test (ev_op (ev_var rfl) ev_c (rv_eq rfl))) fun _ => et_B (ev_var rfl)) (fun hb H4 e4 => ?_) (fun _ H4 e4 => ?_)
    · have hrs := (Bool.and_eq_true_iff.mp hb).2
      have hP4 := hP3.ext e4
      refine ⟨.ref p, rfl, .int (n : Int), rfl, ⟨_, p, q, _, rfl, hP4.hd, by omega, by omega, fun H5 r hP50 hr0 hr1 => ?_⟩⟩
      have hP5 := hP4.back hP50
      have hO5 := hP50.off
      obtain ⟨x, rfl⟩ : ∃ m : Nat, r = (m : Int) := ⟨r.toNat, by omega⟩
      refine ⟨by show 2 ≤ sizeLine; decide, fun t ht => ?_⟩
      exact k _ t (.rst x) (new_back hP ((hO3.trans (Of1.ex e4)).trans hO5) hP5 ht) (hP5.new ht) ⟨by omega, hrs⟩
    have hP4 := hP3.ext e4
    have hO4 := hO3.trans (Of1.ex e4)
    refine ⟨.ref p, rfl, ⟨_, p, q, _, rfl, hP4.hd, by decide, by decide, fun H5 c hP50 hc0 hc1 => ?_⟩⟩
    have hP5 := hP4.back hP50
    have hO5 := hP50.off
    refine g_name ?_
    dsimp only
    have fin : ∀ (c : Int) (H6 : Hp), 0 ≤ c → c < 100 → Ex H5 H6 → tRet (tTup (tCons (tC (.str "write")) (tCons (tCall spDraw [] E0 (tCons (tVar 0) (tCons (tVar 1) tNil))) (tCons (tVar 6) tNil)))) { nx := fun _ H' => Q .non H', rt := Q } [some (.ref p), some (.int (n : Int)), some (.ref l), some (.bl rs), some (.int kd), none, some (.int c)] H6 := fun c H6 h0 h1 e6 => by
      have hP6 := hP5.ext e6
      refine ⟨.ref p, rfl, .int (n : Int), rfl, ⟨_, p, q, _, rfl, hP6.hd, by omega, by omega, fun H7 r hP70 hr0 hr1 => ?_⟩⟩
      have hP7 := hP6.back hP70
      have hO7 := hP70.off
      obtain ⟨x, rfl⟩ : ∃ m : Nat, r = (m : Int) := ⟨r.toNat, by omega⟩
      obtain ⟨y, rfl⟩ : ∃ m : Nat, c = (m : Int) := ⟨c.toNat, by omega⟩
      refine ⟨.int (y : Int), rfl, by show 3 ≤ sizeLine; decide, fun t ht => ?_⟩
      exact k _ t (.wri x y) (new_back hP (((hO4.trans hO5).trans (Of1.ex e6)).trans hO7) hP7 ht) (hP7.new ht) ⟨by omega, by omega⟩
    change tSeq _ _ _ [some (.ref p), some (.int (n : Int)), some (.ref l), some (.bl rs), some (.int kd), none, some (.int c)] H5
    refine q_if (b := decide (V.int kd = V.int 8)) (et_test (ev_op (ev_var rfl) ev_c (rv_eq rfl))) (fun _ H6 e6 => ?_) (fun _ H6 e6 => fin c H6 hc0 hc1 e6)
    have m := modP c 3 (by decide)
    refine ⟨.int c, rfl, .inl ⟨c, rfl, c, 3, rfl, rfl, (show (0 : Int) < 3 by decide), ?_⟩⟩
    exact fin (c % 3) H6 m.1 (by omega) e6
end
end Wk

set_option Elab.async false
set_option linter.all false
set_option maxRecDepth 100000
set_option maxHeartbeats 2000000
namespace Wk
open PySem PySem.Spec PyProof.Rows L2 Evl
/-! chains -/
def Deed.word : Deed → Str
  | .pas _ _ => "pass"
  | .los _ _ => "lose"
  | .rst _ => "restart"
  | .wri _ _ => "write"
def Deed.one : Deed → Nat
  | .pas a _ => a
  | .los a _ => a
  | .rst r => r
  | .wri r _ => r
theorem Deed.at0 (x : Deed) : atI x.vs 0 = some (.str x.word) := by cases x <;> exact atI_nat (j := 0) rfl
theorem Deed.at1 (x : Deed) : atI x.vs 1 = some (.int (x.one : Int)) := by cases x <;> exact atI_nat (j := 1) rfl
def isWri : Deed → Bool
  | .wri _ _ => true
  | _ => false
def isPas : Deed → Bool
  | .pas _ _ => true
  | _ => false
theorem word_wri (x : Deed) : decide (V.str x.word = V.str "write") = isWri x := by
  cases x with
  | pas a b => exact show decide (V.str "pass" = V.str "write") = false by decide +kernel
  | los a b => exact show decide (V.str "lose" = V.str "write") = false by decide +kernel
  | rst r => exact show decide (V.str "restart" = V.str "write") = false by decide +kernel
  | wri r c => exact show decide (V.str "write" = V.str "write") = true by decide +kernel
theorem word_pas (x : Deed) : decide (V.str x.word = V.str "pass") = isPas x := by
  cases x with
  | pas a b => exact show decide (V.str "pass" = V.str "pass") = true by decide +kernel
  | los a b => exact show decide (V.str "lose" = V.str "pass") = false by decide +kernel
  | rst r => exact show decide (V.str "restart" = V.str "pass") = false by decide +kernel
  | wri r c => exact show decide (V.str "write" = V.str "pass") = false by decide +kernel
/-- going on by passes: where it leads -/
def fol (ds : List Deed) : Int → List Int → Option Int
  | h, [] => some h
  | h, i :: r => match ds[i.toNat]? with
    | some (.pas a b) => if (a : Int) = h then fol ds (b : Int) r else none
    | _ => none
theorem fol_snoc {ds : List Deed} {k : Nat} {a b : Nat} (hk : ds[k]? = some (.pas a b)) : ∀ {r : List Int} {h : Int}, fol ds h r = some (a : Int) → fol ds h (r ++ [(k : Int)]) = some (b : Int)
  | [], h, e => by
    have e' : h = (a : Int) := by simpa [fol] using e
    subst e'
    simp [fol, hk]
  | i :: r, h, e => by
    unfold fol at e
    show fol ds h (i :: (r ++ [(k : Int)])) = _
    unfold fol
    split at e
    · rename_i x y hx
      split at e
      · rename_i hxh
        rw [if_pos hxh]
        exact fol_snoc hk e
      · cases e
    · cases e
/-- a chain as built: where it began, where it leads -/
structure ChB (ds : List Deed) (cs : List Int) (i : Nat) (r : List Int) (x y : Nat) (e : Int) : Prop where
  eq : cs = (i : Int) :: r
  at_ : ds[i]? = some (.wri x y)
  asc : cs.Pairwise (· < ·)
  rg : ∀ z ∈ cs, 0 ≤ z ∧ z < ds.length
  fo : fol ds (x : Int) r = some e
theorem if_and {a : Bool} {t u : TT} {tu tw : TS} {D : Ends} {σ : L2.St} {H : Hp} (h1 : EvT t σ H a) (hF : a = false → ∀ H1, Ex H H1 → tw D σ H1) (hT : a = true → ∀ H1, Ex H H1 → tIfS u tu tw D σ H1) : tIfS (tAnd t u) tu tw D σ H :=
  h1 H (Ex.refl _) _ fun H1 e1 => by
    cases a with
    | true => exact hT rfl H1 e1
    | false => exact hF rfl H1 e1
section
variable {P : Program} {w : World} {K : PySem.W.Frag} {mg : Str → Option Value} {base : Heap} {f : Addr} {fd : FuncData}
/-! _law_built -/
def spBuilt : Sp := fun vs H Q _ => ∃ (G : Hp) (p q l : Addr) (us : List V) (ds : List Deed), vs = [.ref p, .ref l] ∧ Pm G H p q ∧ G l = some (.lst us) ∧ DqA G us (ds.map Deed.d) ∧ ds.length ≤ 60 ∧
  ∀ H' (c : Addr) (cs : List Int), Pm G H' p q → H c = none → c ≠ p → H' c = some (.lst (cs.map V.int)) → (cs = [] ∨ ∃ i r x y e, ChB ds cs i r x y e) → Q (.ref c) H'
abbrev sBuilt : Stmt := top 14
abbrev nBuilt : List Str := ["_law_pool_here", "_law_deeds", "_law_writes", "_law_k", "_law_chain", "_law_here"]
theorem scBuilt : FnScope nBuilt ["_law_pool_here", "_law_deeds"] (defScope sBuilt) := ⟨rfl, rfl, rfl, by decide +kernel, rfl, by decide +kernel, by decide +kernel⟩
theorem deeds_at {G : Hp} {us : List V} {ds : List Deed} (h : DqA G us (ds.map Deed.d)) {i : Nat} (hi : i < ds.length) : ∃ t, us[i]? = some (.ref t) ∧ G t = some (.tup ds[i].vs) := by
  obtain ⟨v, h1, h2⟩ := h.at (i := i) (d := ds[i].d) (by rw [List.getElem?_map, List.getElem?_eq_getElem hi]; rfl)
  obtain ⟨t, rfl, ht⟩ := Deed.inv h2
  exact ⟨t, h1, ht⟩
theorem given_ints (n : Nat) (f : Nat → Bool) : given n f (fun i => .int (i : Int)) = (((List.range n).filter f).map fun (i : Nat) => (i : Int)).map V.int := by
  unfold given
  rw [List.map_map]
  rfl
theorem ok_built (B : Bl mg) (C : Cal P w K mg base "_law_draw" ["_law_pool_here", "_law_limit"] 2 spDraw) (F : FnP K "_law_built" sBuilt f fd) : FnOk P w K mg base CX0 3 f fd ["_law_pool_here", "_law_deeds"] spBuilt := by
  refine F.ok scBuilt (fun vs H Q E h => ?_) (fun cdv A outer s H vs Q E hr h => ?_)
  · obtain ⟨G, p, q, l, us, ds, rfl, _⟩ := h
    rfl
  · obtain ⟨G, p, q, l, us, ds, rfl, hP, hl, hus, hd60, k⟩ := h
    refine ⟨_, pss_cons (ps_setLc (i := 2) (own := [("_law_k", 3)]) (g := gName 3) (tt := tTest (tOp rEq (tOp (rIxT K) (tOp (rIxL K) (tVar 1) (tVar 3)) (tC (.int 0))) (tC (.str "write")))) (te := tVar 3) rfl scBuilt.nd rfl rfl (sw_true rfl rfl rfl (by decide +kernel)) (pi_range1 (by rfl) B.range (pa_cons (pe_callB call_len_seq (by rfl) B.len PySem.boot_len (pa_cons (pv 1) pa_nil)) pa_nil)) (blkOk_by (N := nBuilt) (sc := defScope sBuilt) (by decide +kernel))
          (fun _ _ _ _ _ => pg_name (i := 3) scBuilt.nd rfl (Or.inl rfl)) (fun _ _ _ _ _ => pts_one (pt_cmpR op_eq (pe_ix ix_tup (pe_ix (ix_listK (K := K) rfl) (pv 1) (pv 3) (fun _ _ => rfl)) pe_int (fun _ _ => rfl)) pe_str (nomark _))) (fun _ _ _ _ _ => pv 3))
      (pss_cons (ps_if (pt_cmpR op_eq (pe_callB call_len_seq (by rfl) B.len PySem.boot_len (pa_cons (pv 2) pa_nil)) pe_int (nomark _)) (pss_one (ps_ret (pe_lst pa_nil))) pss_nil)
      (pss_cons (ps_set (i := 4) scBuilt.nd rfl (Or.inl rfl) (pe_lst (pa_cons (pe_ix ix_list (pv 2) (pe_cal C hr (by rfl) (pa_cons (pv 0) (pa_cons (pe_callB call_len_seq (by rfl) B.len PySem.boot_len (pa_cons (pv 2) pa_nil)) pa_nil))) (fun _ _ => rfl)) pa_nil)))
      (pss_cons (ps_set (i := 5) scBuilt.nd rfl (Or.inl rfl) (pe_ix ix_tup (pe_ix ix_list (pv 1) (pe_ix ix_list (pv 4) pe_int (fun _ _ => rfl)) (fun _ _ => rfl)) pe_int (fun _ _ => rfl)))
      (pss_cons (ps_for (passes_of rfl) rfl (pi_range2 (by rfl) B.range (pa_cons (pe_op op_add (pe_ix ix_list (pv 4) pe_int (fun _ _ => rfl)) pe_int) (pa_cons (pe_callB call_len_seq (by rfl) B.len PySem.boot_len (pa_cons (pv 1) pa_nil)) pa_nil))) (pg_name (i := 3) scBuilt.nd rfl (Or.inl rfl))
        (pss_one (ps_if (PW.pt (pw_and (pt_cmpR op_eq (pe_ix ix_tup (pe_ix ix_list (pv 1) (pv 3) (fun _ _ => rfl)) pe_int (fun _ _ => rfl)) pe_str (nomark _)) (pw_and (pt_cmpR op_eq (pe_ix ix_tup (pe_ix ix_list (pv 1) (pv 3) (fun _ _ => rfl)) pe_int (fun _ _ => rfl)) (pv 5) (nomark _))
            (pw_and1 (pt_cmpR op_eq (pe_cal C hr (by rfl) (pa_cons (pv 0) (pa_cons pe_int pa_nil))) pe_int (nomark _))))))
          (pss_cons (ps_expr (pe_bm PySem.F.plainAttrs_list PySem.F.slot_list_append PySem.F.type_list_append mt_append (pv 4) (pa_cons (pv 3) pa_nil)))
          (pss_one (ps_set (i := 5) scBuilt.nd rfl (Or.inl rfl) (pe_ix ix_tup (pe_ix ix_list (pv 1) (pv 3) (fun _ _ => rfl)) pe_int (fun _ _ => rfl))))) pss_nil)))
      (pss_one (ps_ret (pv 4))))))), ?_⟩
    have hul := hus.length
    rw [List.length_map] at hul
    -- a deed's word
    have dat : ∀ {H1 : Hp} {i : Nat}, Ex G H1 → (hi : i < ds.length) → ∃ t, atI us (i : Int) = some (.ref t) ∧ H1 t = some (.tup ds[i].vs) := fun {H1 i} e hi => by
      obtain ⟨t, h1, h2⟩ := deeds_at hus hi
      exact ⟨t, atI_nat h1, e _ _ h2⟩
    have evd : ∀ {H1 : Hp} {σ : L2.St} {te : TE} {i : Nat} {j : Int} {v : V}, Ex G H1 → (hi : i < ds.length) → σ[1]? = some (some (.ref l)) → Ev te σ H1 (.int (i : Int)) → atI ds[i].vs j = some v → Ev (tOp (rIxT K) (tOp (rIxL K) (tVar 1) te) (tC (.int j))) σ H1 v := fun {H1 σ te i j v} e hi h1 h3 hv => by
      obtain ⟨t, ht1, ht2⟩ := dat e hi
      exact ev_op (ev_op (ev_var h1) h3 (rv_ixL (sq_of (e _ _ hl)) ht1)) ev_c (rv_ixT (st_of ht2) hv)
    have lenE : ∀ {H1 : Hp} {σ : L2.St}, Ex G H1 → σ[1]? = some (some (.ref l)) → EvA (tCons (tCB (rLenS K) (tCons (tVar 1) tNil)) tNil) σ H1 [.int (us.length : Int)] := fun e h1 => ea_cons (ev_len (ev_var h1) (sq_of (e _ _ hl))) ea_nil
    have hL := el_lcR1 (σ := start nBuilt [.ref p, .ref l]) (H := H) (j := 3) (vs := [3]) (te := tVar 3) (t := tTest (tOp rEq (tOp (rIxT K) (tOp (rIxL K) (tVar 1) (tVar 3)) (tC (.int 0))) (tC (.str "write")))) (n := (us.length : Int)) (fun i => ((ds[i]?).map isWri).getD false) (fun i => .int (i : Int)) (lenE hP.ex rfl) (by omega) (fun x => rfl)
      (fun i H1 e1 hi => by
        have hi' : i < ds.length := by omega
        rw [List.getElem?_eq_getElem hi']
        refine et_is (et_test (ev_op (evd (hP.ex.trans e1) hi' rfl (ev_var rfl) ds[i].at0) ev_c (rv_eq rfl))) (word_wri _))
      (fun i H1 e1 hi _ => ev_var rfl)
    rw [given_ints, Int.toNat_natCast] at hL
    refine q_asgL hL fun b H1 hb e1 hbl => ?_
    generalize hws : (((List.range us.length).filter fun i => ((ds[i]?).map isWri).getD false).map fun (i : Nat) => (i : Int)) = ws at *
    have hwm : ∀ x ∈ ws, ∃ (i y z : Nat), x = (i : Int) ∧ ds[i]? = some (.wri y z) := fun x hx => by
      rw [← hws] at hx
      obtain ⟨i, hi, rfl⟩ := List.mem_map.mp hx
      obtain ⟨_, hf⟩ := List.mem_filter.mp hi
      cases hd : ds[i]? with
      | none => rw [hd] at hf; cases hf
      | some d =>
        rw [hd] at hf
        cases d <;> first | (cases hf; done) | exact ⟨i, _, _, rfl, hd⟩
    have hwl : ws.length ≤ 60 := by
      rw [← hws, List.length_map]
      have := List.length_filter_le (fun i => ((ds[i]?).map isWri).getD false) (List.range us.length)
      rw [List.length_range] at this
      omega
    have hP1 := hP.ext e1
    change tSeq _ _ _ [some (.ref p), some (.ref l), some (.ref b), none, none, none] H1
    refine q_when (b := decide (V.int (ws.length : Int) = V.int 0)) (et_test (ev_op (by
        have z := ev_len (K := K) (ta := tVar 2) (σ := [some (.ref p), some (.ref l), some (.ref b), none, none, none]) (H := H1) (ev_var rfl) (sq_of hbl)
        rw [List.length_map] at z
        exact z) ev_c (rv_eq rfl))) (fun _ H2 e2 => ?_) (fun h0 H2 e2 => ?_)
    · refine ⟨by show 0 ≤ sizeLine; decide, fun c hc => ?_⟩
      exact k _ c [] ((hP1.ext e2).ext (Ex.new hc)) (fresh_back (e1.trans e2) hc) ((hP1.ext e2).np hc) upd_same (.inl rfl)
    have h0' : ws.length ≠ 0 := fun z => by
      rw [z] at h0
      exact absurd h0 (by decide)
    have hP2 := hP1.ext e2
    have hb2 := e2 _ _ hbl
    have nbp := hP.np hb
    refine ⟨.ref b, rfl, .ref p, rfl, .ref b, rfl, b, _, rfl, .inl (sq_of hb2), ⟨_, p, q, (ws.length : Int), ?_, hP2.hd, by omega, by omega, fun H3 j hP30 hj0 hj1 => ?_⟩⟩
    · rw [List.length_map]
      rfl
    have hP3 := hP2.back hP30
    have hO3 := hP30.off
    obtain ⟨m, rfl⟩ : ∃ m : Nat, j = (m : Int) := ⟨j.toNat, by omega⟩
    have hm : m < ws.length := by omega
    have atw := at_ints hm
    obtain ⟨i, y, z, ei, hdi⟩ := hwm ws[m] (List.getElem_mem hm)
    rw [ei] at atw
    refine ⟨b, _, (m : Int), .int (i : Int), rfl, rfl, sq_of (hO3 _ _ nbp hb2), atw, by show 1 ≤ sizeLine; decide, fun c hc => ?_⟩
    have hcH : H c = none := by
      have := new_back hP2 hO3 hP3 hc
      exact fresh_back (e1.trans e2) this
    have gc := fresh_back hP3.ex hc
    have ncp := hP3.np hc
    have hP4 := hP3.ext (Ex.new (o := .lst [V.int (i : Int)]) hc)
    have hc4 : (upd H3 c (.lst [V.int (i : Int)])) c = some (.lst ([(i : Int)].map V.int)) := upd_same
    generalize upd H3 c (.lst [V.int (i : Int)]) = H4 at *
    refine g_name ?_
    dsimp only
    have hil := (List.getElem?_eq_some_iff.mp hdi).1
    have hdi' : ds[i] = .wri y z := (List.getElem?_eq_some_iff.mp hdi).2
    change tSeq _ _ _ [some (.ref p), some (.ref l), some (.ref b), none, some (.ref c), none] H4
    refine q_asg (v := .int (y : Int)) (evd hP4.ex hil rfl (ev_op (ev_var rfl) ev_c (rv_ixL (sq_of hc4) (atI_nat (j := 0) rfl))) (by rw [hdi']; exact atI_nat (j := 1) rfl)) fun H5 e5 => ?_
    have hP5 := hP4.ext e5
    have hc5 := e5 _ _ hc4
    change tSeq _ _ _ [some (.ref p), some (.ref l), some (.ref b), none, some (.ref c), some (.int (y : Int))] H5
    refine q_forR2 (ea_cons (ev_op (ev_op (ev_var rfl) ev_c (rv_ixL (sq_of hc5) (atI_nat (j := 0) rfl))) ev_c rv_I0) (ea_cons (ev_len (ev_var rfl) (sq_of (hP5.ex _ _ hl))) ea_nil)) (lo := (i : Int) + 1) (n := (us.length : Int)) (by omega)
      (fun t σ' H' => ∃ (cs r : List Int) (e : Nat) (o : Option V), σ' = [some (.ref p), some (.ref l), some (.ref b), o, some (.ref c), some (.int (e : Int))] ∧ Pm G H' p q ∧ H' c = some (.lst (cs.map V.int)) ∧ ChB ds cs i r y z (e : Int) ∧ (∀ x ∈ cs, x < (i : Int) + 1 + (t : Int)) ∧ cs.length ≤ 1 + t)
      (fun H6 e6 => ⟨[(i : Int)], [], y, none, rfl, hP5.ext e6, e6 _ _ hc5, ⟨rfl, hdi, List.pairwise_singleton _ _, fun x hx => by rw [List.mem_singleton.mp hx]; omega, rfl⟩, fun x hx => by rw [List.mem_singleton.mp hx]; omega, by simp⟩) ?_ ?_
    · rintro t σ' H6 ht ⟨cs, r, e, o, rfl, hP6, hc6, hB, hlt, hcl⟩
      change tIfS _ _ _ _ [some (.ref p), some (.ref l), some (.ref b), some (.int ((i : Int) + 1 + (t : Int))), some (.ref c), some (.int (e : Int))] H6
      have hkl : i + 1 + t < ds.length := by omega
      have ek : (i : Int) + 1 + (t : Int) = ((i + 1 + t : Nat) : Int) := by omega
      have stay : ∀ H7, Pm G H7 p q → H7 c = some (.lst (cs.map V.int)) → ∃ (cs r : List Int) (e' : Nat) (o : Option V), [some (.ref p), some (.ref l), some (.ref b), some (V.int ((i : Int) + 1 + (t : Int))), some (.ref c), some (.int (e : Int))] = [some (.ref p), some (.ref l), some (.ref b), o, some (.ref c), some (.int (e' : Int))] ∧ Pm G H7 p q ∧ H7 c = some (.lst (cs.map V.int)) ∧ ChB ds cs i r y z (e' : Int) ∧ (∀ x ∈ cs, x < (i : Int) + 1 + ((t + 1 : Nat) : Int)) ∧ cs.length ≤ 1 + (t + 1) := fun H7 h7 hc7 =>
        ⟨cs, r, e, _, rfl, h7, hc7, hB, fun x hx => by have := hlt x hx; omega, by omega⟩
      rw [ek] at stay ⊢
      refine if_and (a := isPas ds[i + 1 + t]) (et_is (et_test (ev_op (evd hP6.ex hkl rfl (ev_var rfl) ds[i + 1 + t].at0) ev_c (rv_eq rfl))) (word_pas _)) (fun _ H7 e7 => stay H7 (hP6.ext e7) (e7 _ _ hc6)) (fun hp7 H7 e7 => ?_)
      refine if_and (a := decide (V.int (ds[i + 1 + t].one : Int) = V.int (e : Int))) (et_test (ev_op (evd (hP6.ext e7).ex hkl rfl (ev_var rfl) ds[i + 1 + t].at1) (ev_var rfl) (rv_eq rfl))) (fun _ H8 e8 => stay H8 (hP6.ext (e7.trans e8)) ((e7.trans e8) _ _ hc6)) (fun hb8 H8 e8 => ?_)
      have hP8 := hP6.ext (e7.trans e8)
      refine ⟨.ref p, rfl, ⟨_, p, q, _, rfl, hP8.hd, by decide, by decide, fun H9 j9 hP90 hj90 hj91 => ⟨rfl, _, rfl, ?_⟩⟩⟩
      have hP9 := hP8.back hP90
      have hO9 := hP90.off
      have hc9 := hO9 _ _ ncp ((e7.trans e8) _ _ hc6)
      refine ite2 (fun _ => ?_) (fun _ => stay H9 hP9 hc9)
      refine ⟨.ref c, rfl, .inl ⟨rfl, _, sq_of hc9⟩, .int ((i + 1 + t : Nat) : Int), rfl, c, _, _, rfl, rfl, hc9, by rw [List.length_map, sizeLine_eq]; omega, ?_⟩
      have hP10 := hP9.mut (o := .lst (cs.map V.int ++ [V.int ((i + 1 + t : Nat) : Int)])) gc ncp
      have hc10 : (upd H9 c (.lst (cs.map V.int ++ [V.int ((i + 1 + t : Nat) : Int)]))) c = some (.lst ((cs ++ [((i + 1 + t : Nat) : Int)]).map V.int)) := by rw [upd_same, List.map_append]; rfl
      generalize upd H9 c (.lst (cs.map V.int ++ [V.int ((i + 1 + t : Nat) : Int)])) = H10 at *
      obtain ⟨x1, x2, hx12⟩ : ∃ x1 x2, ds[i + 1 + t] = .pas x1 x2 := by
        cases hd : ds[i + 1 + t] <;> rw [hd] at hp7 <;> first | (cases hp7; done) | exact ⟨_, _, rfl⟩
      have hone : x1 = e := by
        rw [hx12] at hb8
        have := of_decide_eq_true hb8
        injection this with this
        have : (x1 : Int) = (e : Int) := this
        omega
      subst hone
      have hdk : ds[i + 1 + t]? = some (.pas x1 x2) := by rw [List.getElem?_eq_getElem hkl, hx12]
      refine s_asg (v := .int (x2 : Int)) (evd hP10.ex hkl rfl (ev_var rfl) (by rw [hx12]; exact atI_nat (j := 2) rfl)) fun H11 e11 => ?_
      refine ⟨cs ++ [((i + 1 + t : Nat) : Int)], r ++ [((i + 1 + t : Nat) : Int)], x2, _, rfl, hP10.ext e11, e11 _ _ hc10, ⟨by rw [hB.eq]; rfl, hB.at_, ?_, ?_, fol_snoc hdk hB.fo⟩, fun x hx => ?_, by simp; omega⟩
      · rw [List.pairwise_append]
        refine ⟨hB.asc, List.pairwise_singleton _ _, fun a ha b' hb' => ?_⟩
        rw [List.mem_singleton.mp hb']
        have := hlt a ha
        omega
      · intro a ha
        rcases List.mem_append.mp ha with c1 | c1
        · exact hB.rg a c1
        · rw [List.mem_singleton.mp c1]
          omega
      · rcases List.mem_append.mp hx with c1 | c1
        · have := hlt x c1
          omega
        · rw [List.mem_singleton.mp c1]
          omega
    · rintro σ' H6 ⟨cs, r, e, o, rfl, hP6, hc6, hB, _, _⟩
      exact ⟨.ref c, rfl, k H6 c cs hP6 hcH ncp hc6 (.inr ⟨i, r, y, z, e, hB⟩)⟩
end
end Wk

set_option Elab.async false
set_option linter.all false
set_option maxRecDepth 100000
set_option maxHeartbeats 4000000
namespace Wk
open PySem PySem.Spec PyProof.Rows L2 Evl
/-! sorted of a tuple of ints -/
section
variable {prog : Program} {w : World} {A : Around} {E : Value → Shared → Prop} {s : Shared}
theorem collect_tupS {l : Addr} {vs : List Value} {Q : List Value → Shared → Prop} (hl : s.heap.IsTuple l vs.toArray)
    (h : Q vs { s with heap := (s.heap.push (seqObj "list" #[] 0)).update s.heap.objs.size (Obj.mapSeq (· ++ vs.toArray)) }) (hsz : vs.length ≤ sizeLine) :
    wpAny (model prog w) A (collect (.ref l)) Q E s := by
  obtain ⟨o, ho, hc, n, hd⟩ := id hl
  unfold collect
  refine wpAny_bind (wpAny_runValue (codeAny_builtin entry_proto_collect' ?_))
  show wpAny _ _ (do again (.builtin "list.__iadd__" ⟨[← newList [], .ref l], []⟩)) _ _ s
  refine wpAny_bind (wpAny_newList (wpAny_pure ⟨Code.quiet_builtin _ (by decide +kernel), codeAny_builtin entry_list_iadd' ?_⟩))
  show wpAny _ _ (Builtin.List.listExtendWith (.ref s.heap.objs.size) (.ref l) (.ref s.heap.objs.size)) _ _ { s with heap := s.heap.push (seqObj "list" #[] 0) }
  unfold Builtin.List.listExtendWith
  have ho' : (s.heap.push (seqObj "list" #[] 0)).get? l = some o := Heap.get?_push_of_some _ ho
  refine wpAny_bind (wpAny_typeOf (T := "tuple") ⟨o, ho', hc⟩ ?_)
  have ht : (Value.type "tuple" == Value.type "tuple") = true := by rfl
  rw [if_pos (by rw [ht]; simp)]
  refine wpAny_bind (listItems_at ho' hd ?_)
  refine wpAny_bind (listItems_at (xs := #[]) (n := 0) (Heap.get?_push_size _ rfl) rfl ?_)
  rw [if_neg (by simp)]
  refine wpAny_bind (listUpdate_at (xs := #[]) (n := 0) (Heap.get?_push_size _ rfl) rfl ?_ (Nat.zero_le _) (by show (#[] ++ vs.toArray).size ≤ sizeLine + 1; simp only [Array.size_append, List.size_toArray, List.length_nil]; omega))
  refine wpAny_pure ?_
  show wpAny (model prog w) A (do
      let o ← load s.heap.objs.size
      match o.data with
      | .seq xs _ => pure xs.toList
      | _ => unsupported "internal:collect") Q E { s with heap := (s.heap.push (seqObj "list" #[] 0)).update s.heap.objs.size (Obj.mapSeq (· ++ vs.toArray)) }
  refine wpAny_bind (wpAny_load (get?_update_seq (Heap.get?_push_size _ rfl) _) ?_)
  show wpAny _ _ (pure ((#[] : Array Value) ++ vs.toArray).toList) Q E _
  rw [show ((#[] : Array Value) ++ vs.toArray).toList = vs by simp]
  exact wpAny_pure h
theorem sorted_intsT {l : Addr} {vs : List Value} {ns : List Int} {Q : Value → Shared → Prop} (hl : s.heap.IsTuple l vs.toArray) (hI : IntsAre vs ns) (h64 : vs.length < 64)
    (h : ∀ (out : Array Value) (ns' : List Int), IntsAre out.toList ns' → ns'.Perm ns → ns'.Pairwise (· ≤ ·) → Q (.ref (s.heap.objs.size + 1)) { s with heap := sortedAll s.heap vs out }) :
    wpAny (model prog w) A (call (.builtin "sorted") [.ref l]) Q E s := by
  refine Calls.call_function_entry kind_sorted plain_sorted entry_sorted (args_sorted1 _) ?_
  unfold Builtin.«sorted»
  refine wpAny_bind (m := checkCount "sorted" 1 1 _) (wpAny_pure ?_)
  refine wpAny_bind (collect_tupS hl ?_ (by rw [sizeLine_eq]; omega))
  refine wpAny_bind (wpAny_newList ?_)
  have hsz : ((s.heap.push (seqObj "list" #[] 0)).update s.heap.objs.size (Obj.mapSeq (· ++ vs.toArray))).objs.size = s.heap.objs.size + 1 := by
    rw [Heap.size_update, size_push']
  have hoL : (((s.heap.push (seqObj "list" #[] 0)).update s.heap.objs.size (Obj.mapSeq (· ++ vs.toArray))).push (seqObj "list" vs.toArray 0)).get? (s.heap.objs.size + 1) = some (seqObj "list" vs.toArray 0) := by
    rw [← hsz]; exact Heap.get?_push_size _ rfl
  show wpAny _ _ _ _ _ { s with heap := ((s.heap.push (seqObj "list" #[] 0)).update s.heap.objs.size (Obj.mapSeq (· ++ vs.toArray))).push (seqObj "list" vs.toArray 0) }
  rw [hsz]
  refine wpAny_bind (wpAny_holding (wpAny_call_entry slot_list_sort ⟨_, hoL, rfl⟩ entry_list_sort (list_sort_tree hoL hI h64 fun out ns' a1 a2 a3 => ⟨_, rfl, ?_⟩) (args_list_sort _)))
  exact wpAny_pure ⟨_, rfl, h out ns' a1 a2 a3⟩
end
def rSortedTu (K : PySem.W.Frag) : List V → Hp → VK → Prop := fun vs H Q => ∃ (a : Addr) (ns : List Int), vs = [V.ref a] ∧ SqT K H a (ns.map V.int) ∧ ns.length < 64 ∧ ∀ (ns' : List Int) (p : Addr), ns'.Perm ns → ns'.Pairwise (· ≤ ·) → H p = none → Q (.ref p) (upd H p (.lst (ns'.map V.int)))
theorem cr_sortedTu {X : Cx} {K : PySem.W.Frag} (hK : X.K = K) : CallR X (.builtin "sorted") (rSortedTu K) := by
  subst hK
  intro pins s σ H vs us Q I r h
  obtain ⟨a, ns, rfl, hs, h64, q⟩ := h
  obtain ⟨its, rv, hl, _⟩ := I.tuple hs
  rw [Vals.ref1 r]
  have hi := rv.ints
  refine sorted_intsT hl hi (by rw [hi.length]; exact h64) fun out ns' h1 h2 h3 => ?_
  obtain ⟨ep, he'⟩ := PyProof.Rows.sortedAll_at s.heap its out
  have hlen : (ns'.map V.int).length ≤ sizeLine := by rw [List.length_map, h2.length_eq, sizeLine_eq]; omega
  exact ⟨.ref _, upd H (s.heap.objs.size + 1) (.lst (ns'.map V.int)), I.laid (t' := s.toks) (fun _ _ => PyProof.Rows.sortedAll_old) (Nat.le_succ _) ⟨hlen, out.toList, ep, vals_of_ints h1, he'⟩, rfl, q ns' _ h2 h3 (I.hok.fresh (Nat.le_succ _))⟩
/-! what a chain is -/
def chI (ds : List Deed) (r b : Int) : List Int → Bool
  | [] => false
  | i :: t => (decide ((i :: t).Pairwise (· ≤ ·)) && (match ds[i.toNat]? with | some x => isWri x && decide ((x.one : Int) = r) | none => false)) && decide (fol ds r t = some b)
def chB (ds : List Deed) (r b : Int) (d : PyData) : Bool := isTu d && ((itemsT d).all (isR (ds.length : Int)) && chI ds r b (wi d))
theorem ints_of {n : Int} : ∀ {ds : List PyData}, ds.all (isR n) = true → ds = (ds.map valI).map PyData.int
  | [], _ => rfl
  | d :: ds, h => by
    have h' : isR n d = true ∧ ds.all (isR n) = true := by simpa using h
    have h1 : isI d = true := (Bool.and_eq_true_iff.mp h'.1).1
    show d :: ds = .int (valI d) :: (ds.map valI).map PyData.int
    rw [← ints_of h'.2, ← isI_eq h1]
theorem tu_inv {H : Hp} {v : V} {d : PyData} (hd : Dq H v d) (h : isTu d = true) : ∃ (a : Addr) (xs : List V) (ds : List PyData), v = .ref a ∧ d = .tuple ds ∧ H a = some (.tup xs) ∧ DqA H xs ds := by
  cases hd <;> first | (cases h; done) | skip
  rename_i a xs ds h1 h2
  exact ⟨a, xs, ds, rfl, rfl, h1, h2⟩
def headD (x : Deed) : List PyData := [.str x.word, .int (x.one : Int)]
theorem Deed.take2 (x : Deed) : cutV x.vs none (some 2) = [.str x.word, .int (x.one : Int)] := by
  have h2 : 2 ≤ x.vs.length := by cases x <;> simp [Deed.vs]
  rw [show (2 : Int) = ((2 : Nat) : Int) from rfl, cut_to _ _ h2]
  cases x <;> rfl
theorem beq_word {x : Deed} {w : Str} {c : Bool} (h : decide (V.str x.word = V.str w) = c) : (x.word == w) = c := by
  rw [← h]
  by_cases e : x.word = w
  · rw [e]; simp
  · have : (x.word == w) = false := by simpa using e
    rw [this]
    exact (decide_eq_false fun z => e (by injection z)).symm
theorem eqv_head {x : Deed} {w : Str} {c : Bool} (r : Int) (h : decide (V.str x.word = V.str w) = c) : PyData.eqv (.tuple [.str x.word, .int (x.one : Int)]) (.tuple [.str w, .int r]) = (c && decide ((x.one : Int) = r)) := by
  show ((x.word == w) && (((x.one : Int) == r) && true)) = _
  rw [beq_word h, Bool.and_true]
  rfl
theorem shaped2 {a : Str} (i : Int) (ha : PyData.strOk a = true) : SeqAt.shaped (.tuple [.str a, .int i]) = true := by
  unfold SeqAt.shaped
  simp [PyData.canLay0, PyData.canLayAll0, PyData.depth, PyData.depthAll, ha]
theorem lay2 {a : Str} (i : Int) (ha : PyData.strOk a = true) : (PyData.tuple [.str a, .int i]).canLay0 = true := SeqAt.canLay_of_shaped (shaped2 i ha)
theorem Deed.word_ok (x : Deed) : PyData.strOk x.word = true := by
  cases x with
  | pas a b => exact show PyData.strOk ("pass" : Str) = true by decide +kernel
  | los a b => exact show PyData.strOk ("lose" : Str) = true by decide +kernel
  | rst r => exact show PyData.strOk ("restart" : Str) = true by decide +kernel
  | wri r c => exact show PyData.strOk ("write" : Str) = true by decide +kernel
theorem not_t {b : Bool} (h : (!b) = true) : b = false := by cases b <;> simp_all
theorem not_f {b : Bool} (h : (!b) = false) : b = true := by cases b <;> simp_all
def Deed.snd : Deed → Int
  | .pas _ b => (b : Int)
  | _ => 0
theorem chI_cons {ds : List Deed} {r b i : Int} {t : List Int} {x : Deed} (hx : ds[i.toNat]? = some x) : chI ds r b (i :: t) = ((decide ((i :: t).Pairwise (· ≤ ·)) && (isWri x && decide ((x.one : Int) = r))) && decide (fol ds r t = some b)) := by
  show ((decide ((i :: t).Pairwise (· ≤ ·)) && (match ds[i.toNat]? with | some x => isWri x && decide ((x.one : Int) = r) | none => false)) && decide (fol ds r t = some b)) = _
  rw [hx]
section
variable {K : PySem.W.Frag} {σ : L2.St} {H : Hp} {ta tb tl : TE}
/-- deed[:2] != (w, r) -/
theorem ev_neHead {x : Deed} {w : Str} {r : Int} {c : Bool} {u : TE} (ha : EvS ta σ H [.str x.word, .int (x.one : Int)]) (hu : Ev u σ H (.int r)) (hw : PyData.strOk w = true) (h : decide (V.str x.word = V.str w) = c) :
    Ev (tOp (rNeD K) ta (tTup (tCons (tC (.str w)) (tCons u tNil)))) σ H (.bl (!(c && decide ((x.one : Int) = r)))) := fun H1 e1 Q q =>
  ha H1 e1 _ fun p H2 e2 hp => (ea_cons ev_c (ea_cons hu ea_nil)) H2 (e1.trans e2) _ fun H3 e3 => ⟨by show 2 ≤ sizeLine; decide, fun p' hp' => by
    have e4 := Ex.new (o := .tup [V.str w, .int r]) hp'
    refine ⟨.tuple [.str x.word, .int (x.one : Int)], .tuple [.str w, .int r], Dq.dp (lay2 _ x.word_ok) (.tup ((e3.trans e4) _ _ hp) (.cons (.str _) (.cons (.int _) .nil))), Dq.dp (lay2 _ hw) (.tup upd_same (.cons (.str _) (.cons (.int _) .nil))), shaped2 _ x.word_ok, shaped2 _ hw, ?_⟩
    rw [eqv_head r h]
    exact q _ ((e2.trans e3).trans e4)⟩
theorem s_forS {xs : List V} {g : TG} {tu : TS} {D : Ends} (h : EvS tl σ H xs) (Pv : Addr → Nat → L2.St → Hp → Prop) (h0 : ∀ p H1, Ex H H1 → H1 p = some (.tup xs) → Pv p 0 σ H1) (hl : ∀ p i σ' H', i ≤ xs.length → Pv p i σ' H' → SqT K H' p xs)
    (hs : ∀ p i x σ' H', xs[i]? = some x → Pv p i σ' H' → g x σ' H' fun σ2 H2 => tu { D with nx := Pv p (i + 1), ct := Pv p (i + 1), bk := D.nx } σ2 H2) (hd : ∀ p σ' H', Pv p xs.length σ' H' → D.nx σ' H') : tFor (iTup K tl) g tu D σ H :=
  h H (Ex.refl H) _ fun p H1 e h1 => ⟨p, rfl, ⟨xs, st_of h1⟩, for_tup (Pv p) (h0 p H1 e h1) (hl p) (hs p) (hd p)⟩
theorem q_forS {xs : List V} {g : TG} {tu tz : TS} {D : Ends} (h : EvS tl σ H xs) (Pv : Addr → Nat → L2.St → Hp → Prop) (h0 : ∀ p H1, Ex H H1 → H1 p = some (.tup xs) → Pv p 0 σ H1) (hl : ∀ p i σ' H', i ≤ xs.length → Pv p i σ' H' → SqT K H' p xs)
    (hs : ∀ p i x σ' H', xs[i]? = some x → Pv p i σ' H' → g x σ' H' fun σ2 H2 => tu { D with nx := Pv p (i + 1), ct := Pv p (i + 1), bk := tz D } σ2 H2) (hd : ∀ p σ' H', Pv p xs.length σ' H' → tz D σ' H') : tSeq (tFor (iTup K tl) g tu) tz D σ H :=
  s_forS (D := { D with nx := tz D }) h Pv h0 hl hs hd
end
theorem sorted_iff {ns ns' : List Int} (h1 : ns'.Perm ns) (h2 : ns'.Pairwise (· ≤ ·)) : ns = ns' ↔ ns.Pairwise (· ≤ ·) := by
  constructor
  · intro e
    rw [e]
    exact h2
  · intro h
    exact List.Perm.eq_of_pairwise (fun _ _ _ _ a b => Int.le_antisymm a b) h h2 h1.symm
/-- the pieces of fol, a turn -/
theorem fol_cons {ds : List Deed} {h i : Int} {r : List Int} {x : Deed} (hx : ds[i.toNat]? = some x) : fol ds h (i :: r) = if (isPas x && decide ((x.one : Int) = h)) = true then fol ds x.snd r else none := by
  show (match ds[i.toNat]? with | some (.pas a b) => if (a : Int) = h then fol ds (b : Int) r else none | _ => none) = _
  rw [hx]
  cases x with
  | pas a b =>
    by_cases c : (a : Int) = h
    · simp [isPas, Deed.one, Deed.snd, c]
    · simp [isPas, Deed.one, Deed.snd, c]
  | los a b => rfl
  | rst r => rfl
  | wri r c => rfl
theorem lay_i {ns : List Int} : SeqAt.shaped (.list (ns.map PyData.int)) = true := by
  unfold SeqAt.shaped
  have h1 := lay_ints ns
  have h2 := depth_ints ns
  simp [PyData.canLay0, PyData.depth, h1, h2]
section
variable {P : Program} {w : World} {K : PySem.W.Frag} {mg : Str → Option Value} {base : Heap} {f : Addr} {fd : FuncData}
/-! is_chain -/
abbrev spChain : Sp := spP fun H vs z => ∃ (nv kv v : V) (l : Addr) (us : List V) (ds : List Deed) (r b : Int) (d : PyData), vs = [nv, kv, .ref l, .int r, .int b, v] ∧ H l = some (.lst us) ∧ DqA H us (ds.map Deed.d) ∧ ds.length ≤ 60 ∧ Dq H v d ∧ (itemsT d).length ≤ 62 ∧ z = .bl (chB ds r b d)
abbrev sChain : Stmt := top 4
abbrev nChain : List Str := ["size", "links", "deeds", "r", "b", "thing", "index", "there"]
theorem scChain : FnScope nChain ["size", "links", "deeds", "r", "b", "thing"] (defScope sChain) := ⟨rfl, rfl, rfl, by decide +kernel, rfl, by decide +kernel, by decide +kernel⟩
theorem ok_chain (B : Bl mg) (hs : mg "sorted" = none) (C : Cal P w K mg base "is_between" ["least", "most", "thing"] 2 spBetween) (F : FnP K "is_chain" sChain f fd) : FnOk P w K mg base CX0 3 f fd ["size", "links", "deeds", "r", "b", "thing"] spChain := by
  refine F.ok scChain (fun vs H Q E h => ?_) (fun cdv A outer s H vs Q E hr h => ?_)
  · obtain ⟨z, ⟨nv, kv, v, l, us, ds, r, b, d, rfl, _⟩, _⟩ := h
    rfl
  · obtain ⟨z, ⟨nv, kv, v, l, us, ds, r, b, d, rfl, hl, hus, hd60, hd, h62, rfl⟩, k⟩ := h
    have hu0 : (A.deeper (envOfC "is_chain" (defScope sChain) s.heap.objs.size f cdv)).units + 64 < cLine := by have := hr.un; omega
    refine ⟨_, pss_cons (ps_if (PW.pt (pw_or (pt_not (pt_val (pe_callB call_isi (by rfl) B.isi boot_isinstance (pa_cons (pv 5) (pa_cons (pe_bltn (v := .ty "tuple") (by rfl) B.tuple PyProof.Rows.boot_tuple rfl) pa_nil)))))
        (pw_or1 (pt_not (pt_val (pe_callB (cr_all rfl) (by rfl) B.all boot_all (pa_cons (pe_lc (own := [("index", 6)]) (g := gName 6) (tt := tYes) (te := tCall spBetween [] E0 (tCons (tC (.int 0)) (tCons (tOp (rI0 fun i j => .int (i - j)) (tCB (rLenS K) (tCons (tVar 2) tNil)) (tC (.int 1))) (tCons (tVar 6) tNil)))) rfl scChain.nd (pi_tup (pv 5)) (blkOk_by (N := nChain) (sc := defScope sChain) (by decide +kernel))
          (fun _ _ _ _ _ => pg_name (i := 6) scChain.nd rfl (Or.inl rfl)) (fun _ _ _ _ _ => pts_nil) (fun _ _ _ _ _ => pe_cal C hr (by rfl) (pa_cons pe_int (pa_cons (pe_op op_sub (pe_callB call_len_seq (by rfl) B.len PySem.boot_len (pa_cons (pv 2) pa_nil)) pe_int) (pa_cons (pv 6) pa_nil))))) pa_nil))))))) (pss_one (ps_ret pe_bl)) pss_nil)
      (pss_cons (ps_if (PW.pt (pw_or (pt_cmpR op_eq (pe_callB call_len_seq (by rfl) B.len PySem.boot_len (pa_cons (pv 5) pa_nil)) pe_int (nomark _))
        (pw_or (pt_cmpR (op_neD hu0) (pe_callTy (call_listK2 (K := K) rfl) (by rfl) B.list PyProof.Rows.boot_list (pa_cons (pv 5) pa_nil)) (pe_callB (cr_sortedTu (K := K) rfl) (by rfl) hs boot_sorted (pa_cons (pv 5) pa_nil)) (nomark _))
          (pw_or1 (pt_cmpR (op_neD hu0) (pe_slice sl_tupA (pe_ix ix_list (pv 2) (pe_ix ix_tup (pv 5) pe_int (fun _ _ => rfl)) (fun _ _ => rfl)) po_none (po_some pe_int)) (pe_tup (pa_cons pe_str (pa_cons (pv 3) pa_nil))) (nomark _)))))) (pss_one (ps_ret pe_bl)) pss_nil)
      (pss_cons (ps_set (i := 7) scChain.nd rfl (Or.inl rfl) (pv 3))
      (pss_cons (ps_for (passes_of rfl) rfl (pi_tup (pe_slice sl_tupA (pv 5) (po_some pe_int) po_none)) (pg_name (i := 6) scChain.nd rfl (Or.inl rfl))
        (pss_cons (ps_if (pt_cmpR (op_neD hu0) (pe_slice sl_tupA (pe_ix ix_list (pv 2) (pv 6) (fun _ _ => rfl)) po_none (po_some pe_int)) (pe_tup (pa_cons pe_str (pa_cons (pv 7) pa_nil))) (nomark _)) (pss_one (ps_ret pe_bl)) pss_nil)
        (pss_one (ps_set (i := 7) scChain.nd rfl (Or.inl rfl) (pe_ix ix_tup (pe_ix ix_list (pv 2) (pv 6) (fun _ _ => rfl)) pe_int (fun _ _ => rfl))))))
      (pss_one (ps_ret (pe_cmpR op_eq (pv 7) (pv 4) (nomark _))))))), ?_⟩
    have hul := hus.length
    rw [List.length_map] at hul
    have v5 : ∀ {H1 : Hp}, Ev (tVar 5) (start nChain [nv, kv, .ref l, .int r, .int b, v]) H1 v := ev_var rfl
    cases htu : isTu d with
    | false =>
      have ez : chB ds r b d = false := by
        unfold chB
        rw [htu]
        rfl
      rw [ez] at k
      exact q_when (b := true || true) (et_or (et_is (et_not (et_B (ev_isi v5 hd (kit_tup d)))) (by rw [htu]; rfl)) fun z => by cases z) (fun _ H1 e1 => s_ret ev_c fun H2 e2 => k H2 (e1.trans e2)) (fun z => by cases z)
    | true =>
      obtain ⟨a, xs, es, rfl, rfl, ha, hxs⟩ := tu_inv hd htu
      have hxl := hxs.length
      have h62 : es.length ≤ 62 := h62
      have qa := ev_allT (K := K) (H := H) (j := 6) (vs := [6]) (σ := start nChain [nv, kv, .ref l, .int r, .int b, .ref a]) (te := tCall spBetween [] E0 (tCons (tC (.int 0)) (tCons (tOp (rI0 fun i j => .int (i - j)) (tCB (rLenS K) (tCons (tVar 2) tNil)) (tC (.int 1))) (tCons (tVar 6) tNil)))) (fun i => ((es[i]?).map (isR (ds.length : Int))).getD false) v5 (st_of ha) (by omega) (fun x => rfl)
        (fun i x H1 e1 hx => by
          obtain ⟨e, he, hv⟩ := hxs.get hx
          rw [he]
          refine ev_call (ea_cons ev_c (ea_cons (ev_op (ev_len (ev_var rfl) (sq_of (e1 _ _ hl))) ev_c rv_I0) (ea_cons (ev_var rfl) ea_nil))) (spP_v fun H2 e2 => ⟨0, (us.length : Int) - 1, x, e, rfl, hv.mono (e1.trans e2), ?_⟩)
          rw [hul]
          rfl)
      rw [hxl, all_get] at qa
      refine q_when (b := false || !es.all (isR (ds.length : Int))) (et_or (et_is (et_not (et_B (ev_isi v5 hd (kit_tup _)))) (by rw [htu]; rfl)) fun _ => et_not (et_B qa)) (fun hb H1 e1 => s_ret ev_c fun H2 e2 => ?_) (fun hb H1 e1 => ?_)
      · have hb' : es.all (isR (ds.length : Int)) = false := by simpa using hb
        have ez : chB ds r b (.tuple es) = false := by
          show (true && (es.all (isR (ds.length : Int)) && _)) = false
          rw [hb']
          rfl
        rw [ez] at k
        exact k H2 (e1.trans e2)
      have hall : es.all (isR (ds.length : Int)) = true := by simpa using hb
      have ees := ints_of hall
      have exs : xs = (es.map valI).map V.int := by rw [ees] at hxs; exact hxs.int_inv
      have hrg : ∀ x ∈ es.map valI, 0 ≤ x ∧ x < (ds.length : Int) := fun x hx => by
        obtain ⟨e, he, rfl⟩ := List.mem_map.mp hx
        have := List.all_eq_true.mp hall e he
        unfold isR at this
        simp only [Bool.and_eq_true, decide_eq_true_eq] at this
        omega
      have hnl : (es.map valI).length = es.length := List.length_map _
      have ez : chB ds r b (.tuple es) = chI ds r b (es.map valI) := by
        show (true && (es.all (isR (ds.length : Int)) && chI ds r b (es.map valI))) = _
        rw [hall]
        rfl
      rw [ez] at k
      generalize es.map valI = ns at *
      subst exs
      have ha1 := e1 _ _ ha
      have hl1 := e1 _ _ hl
      have hus1 := hus.mono e1
      clear ha hl hus hxs hd qa ez hb
      cases ns with
      | nil =>
        refine q_when (b := true || (true || true)) (et_or (et_is (et_test (ev_op (ev_lenT (K := K) (ta := tVar 5) v5 (st_of ha1)) ev_c (rv_eq rfl))) rfl) fun z => by cases z) (fun _ H2 e2 => s_ret ev_c fun H3 e3 => k H3 ((e1.trans e2).trans e3)) (fun z => by cases z)
      | cons i t =>
        have hi := hrg i List.mem_cons_self
        have hin : i.toNat < ds.length := by omega
        obtain ⟨td, hd1, hd2⟩ := deeds_at hus1 hin
        have hdi : ds[i.toNat]? = some ds[i.toNat] := List.getElem?_eq_getElem hin
        have hz : decide (V.int ((((i :: t).map V.int).length : Nat) : Int) = V.int 0) = false := by
          apply decide_eq_false
          intro z
          injection z with z
          simp at z
          omega
        have hcs : ∀ {H2 : Hp}, Ex H1 H2 → Ev (tOp (rNeD K) (tCB (fun xs H Q => ∃ p ys, xs = [.ref p] ∧ (SqL K H p ys ∨ SqT K H p ys) ∧ ∀ l, H l = none → Q (.ref l) (upd H l (.lst ys))) (tCons (tVar 5) tNil)) (tCB (rSortedTu K) (tCons (tVar 5) tNil))) (start nChain [nv, kv, .ref l, .int r, .int b, .ref a]) H2 (.bl (!decide ((i :: t).Pairwise (· ≤ ·)))) := fun {H2} e2 H3 e3 Q3 q3 => by
          have ha3 := (e2.trans e3) _ _ ha1
          refine ⟨.ref a, rfl, a, _, rfl, .inr (st_of ha3), fun c hc => ?_⟩
          have ec := Ex.new (o := .lst ((i :: t).map V.int)) hc
          refine ⟨.ref a, rfl, a, i :: t, rfl, st_of (ec _ _ ha3), by have := hnl; simp at this ⊢; omega, fun ns' p' hp hpw hpn => ?_⟩
          have ep := Ex.new (o := .lst (ns'.map V.int)) hpn
          refine ⟨.list ((i :: t).map PyData.int), .list (ns'.map PyData.int), Dq.dp (SeqAt.canLay_of_shaped lay_i) (.lst (ep _ _ upd_same) (DqA.ints _)), Dq.dp (SeqAt.canLay_of_shaped lay_i) (.lst upd_same (DqA.ints _)), lay_i, lay_i, ?_⟩
          have e4 : PyData.eqv (.list ((i :: t).map PyData.int)) (.list (ns'.map PyData.int)) = decide ((i :: t).Pairwise (· ≤ ·)) := by
            show PyData.eqvAll _ _ = _
            rw [eqv_ints, decide_eq_decide]
            exact sorted_iff hp hpw
          rw [e4]
          exact q3 _ (ec.trans ep)
        refine q_when (b := false || ((!decide ((i :: t).Pairwise (· ≤ ·))) || !(isWri ds[i.toNat] && decide ((ds[i.toNat].one : Int) = r)))) (et_or (et_is (et_test (ev_op (ev_lenT (K := K) (ta := tVar 5) v5 (st_of ha1)) ev_c (rv_eq rfl))) hz) fun _ => et_or (et_test (hcs (Ex.refl _))) fun _ => et_test (ev_neHead (x := ds[i.toNat]) (by
            have q := es_sl (K := K) (te := tOp (rIxL K) (tVar 2) (tOp (rIxT K) (tVar 5) (tC (.int 0)))) (σ := start nChain [nv, kv, .ref l, .int r, .int b, .ref a]) (H := H1) (tl := tNoPart) (th := tPart (tC (.int 2))) (ev_op (ev_var rfl) (ev_op v5 ev_c (rv_ixT (st_of ha1) (v := .int i) (atI_nat (j := 0) rfl))) (rv_ixL (sq_of hl1) (by
                have z := atI_nat hd1
                rw [Int.toNat_of_nonneg hi.1] at z
                exact z))) eo_none (eo_some (i := 2) ev_c) hd2
            rw [Deed.take2] at q
            exact q) (ev_var rfl) (by decide +kernel) (word_wri _))) (fun hb H2 e2 => s_ret ev_c fun H3 e3 => ?_) (fun hb H2 e2 => ?_)
        · have ez : chI ds r b (i :: t) = false := by
            rw [chI_cons hdi]
            have : (decide ((i :: t).Pairwise (· ≤ ·)) && (isWri ds[i.toNat] && decide ((ds[i.toNat].one : Int) = r))) = false := by
              cases hA : decide ((i :: t).Pairwise (· ≤ ·)) with
              | false => rfl
              | true =>
                rw [hA] at hb
                exact not_t hb
            simp only [this, Bool.false_and]
          rw [ez] at k
          exact k H3 ((e1.trans e2).trans e3)
        have hb2 : decide ((i :: t).Pairwise (· ≤ ·)) = true ∧ (isWri ds[i.toNat] && decide ((ds[i.toNat].one : Int) = r)) = true := by
          cases hA : decide ((i :: t).Pairwise (· ≤ ·)) with
          | false => rw [hA] at hb; simp at hb
          | true =>
            rw [hA] at hb
            exact ⟨rfl, not_f hb⟩
        have ez : chI ds r b (i :: t) = decide (fol ds r t = some b) := by
          rw [chI_cons hdi, hb2.1, hb2.2]
          rfl
        rw [ez] at k
        have ha2 := e2 _ _ ha1
        have hl2 := e2 _ _ hl1
        have hus2 := hus1.mono e2
        have e02 := e1.trans e2
        refine q_asg (v := .int r) (ev_var rfl) fun H3 e3 => ?_
        have ha3 := e3 _ _ ha2
        change tSeq _ _ _ [some nv, some kv, some (.ref l), some (.int r), some (.int b), some (.ref a), none, some (.int r)] H3
        have hsl : EvS (tSl (rSlA K) (tVar 5) (tPart (tC (.int 1))) tNoPart) [some nv, some kv, some (.ref l), some (.int r), some (.int b), some (.ref a), none, some (.int r)] H3 (t.map V.int) := by
          have q := es_sl (K := K) (te := tVar 5) (σ := [some nv, some kv, some (.ref l), some (.int r), some (.int b), some (.ref a), none, some (.int r)]) (H := H3) (tl := tPart (tC (.int 1))) (th := tNoPart) (ev_var rfl) (eo_some (i := 1) ev_c) eo_none ha3
          rw [show (1 : Int) = ((1 : Nat) : Int) from rfl, cut_from _ _ (by simp)] at q
          exact q
        refine q_forS (K := K) hsl (fun p j σ' H' => ∃ (h : Int) (o : Option V), σ' = [some nv, some kv, some (.ref l), some (.int r), some (.int b), some (.ref a), o, some (.int h)] ∧ Ex H3 H' ∧ H' p = some (.tup (t.map V.int)) ∧ fol ds r t = fol ds h (t.drop j)) (fun p H4 e4 hp => ⟨r, none, rfl, e4, hp, rfl⟩) (fun p j σ' H' _ ⟨_, _, _, _, hp, _⟩ => st_of hp) ?_ ?_
        · rintro p j x σ' H4 hx ⟨h, o, rfl, e4, hp, hfol⟩
          rw [List.getElem?_map] at hx
          cases hn : t[j]? with
          | none => rw [hn] at hx; cases hx
          | some n =>
            rw [hn] at hx
            have ex : x = .int n := (Option.some.inj hx).symm
            subst ex
            have hnr := hrg n (List.mem_cons_of_mem _ (List.mem_of_getElem? hn))
            have hnn : n.toNat < ds.length := by omega
            have hl4 := (e3.trans e4) _ _ hl2
            have hus4 := hus2.mono (e3.trans e4)
            obtain ⟨tn, hn1, hn2⟩ := deeds_at hus4 hnn
            have hdn : ds[n.toNat]? = some ds[n.toNat] := List.getElem?_eq_getElem hnn
            have atn : atI us n = some (.ref tn) := by
              have z := atI_nat hn1
              rw [Int.toNat_of_nonneg hnr.1] at z
              exact z
            have hdrop : t.drop j = n :: t.drop (j + 1) := by
              obtain ⟨hj, e⟩ := List.getElem?_eq_some_iff.mp hn
              rw [List.drop_eq_getElem_cons hj, e]
            rw [hdrop, fol_cons hdn] at hfol
            refine g_name ?_
            change tSeq _ _ _ [some nv, some kv, some (.ref l), some (.int r), some (.int b), some (.ref a), some (.int n), some (.int h)] H4
            refine q_when (b := !(isPas ds[n.toNat] && decide ((ds[n.toNat].one : Int) = h))) (et_test (ev_neHead (x := ds[n.toNat]) (by
                have q := es_sl (K := K) (te := tOp (rIxL K) (tVar 2) (tVar 6)) (σ := [some nv, some kv, some (.ref l), some (.int r), some (.int b), some (.ref a), some (.int n), some (.int h)]) (H := H4) (tl := tNoPart) (th := tPart (tC (.int 2))) (ev_op (ev_var rfl) (ev_var rfl) (rv_ixL (sq_of hl4) atn)) eo_none (eo_some (i := 2) ev_c) hn2
                rw [Deed.take2] at q
                exact q) (ev_var rfl) (by decide +kernel) (word_pas _))) (fun hb H5 e5 => s_ret ev_c fun H6 e6 => ?_) (fun hb H5 e5 => ?_)
            · have hb' : (isPas ds[n.toNat] && decide ((ds[n.toNat].one : Int) = h)) = false := not_t hb
              rw [hb'] at hfol
              rw [hfol] at k
              exact k H6 (((e02.trans e3).trans e4).trans (e5.trans e6))
            · have hb' : (isPas ds[n.toNat] && decide ((ds[n.toNat].one : Int) = h)) = true := not_f hb
              rw [hb', if_pos rfl] at hfol
              have hp1 := (Bool.and_eq_true_iff.mp hb').1
              obtain ⟨x1, x2, hx12⟩ : ∃ x1 x2, ds[n.toNat] = .pas x1 x2 := by
                cases hdd : ds[n.toNat] <;> rw [hdd] at hp1 <;> first | (cases hp1; done) | exact ⟨_, _, rfl⟩
              rw [hx12] at hn2 hfol
              refine s_asg (v := .int (x2 : Int)) (ev_op (ev_op (ev_var rfl) (ev_var rfl) (rv_ixL (sq_of (e5 _ _ hl4)) atn)) ev_c (rv_ixT (st_of (e5 _ _ hn2)) (atI_nat (j := 2) rfl))) fun H6 e6 => ?_
              exact ⟨(x2 : Int), _, rfl, e4.trans (e5.trans e6), (e5.trans e6) _ _ hp, hfol⟩
        · rintro p σ' H4 ⟨h, o, rfl, e4, hp, hfol⟩
          rw [List.length_map, List.drop_length] at hfol
          refine s_ret (ev_is (ev_op (ev_var rfl) (ev_var rfl) (rv_eq rfl)) ?_) fun H5 e5 => k H5 (((e02.trans e3).trans e4).trans e5)
          rw [hfol]
          show V.bl (decide (V.int h = V.int b)) = V.bl (decide (some h = some b))
          congr 1
          rw [decide_eq_decide]
          simp
end
end Wk

set_option Elab.async false
set_option linter.all false
set_option maxRecDepth 100000
set_option maxHeartbeats 4000000
namespace Wk
open PySem PySem.Spec PyProof.Rows L2 Evl
def PasOk (ds : List Deed) : Prop := ∀ (i : Nat) a b, ds[i]? = some (.pas a b) → a ≠ b
theorem asc_of_steps : ∀ {ns : List Int}, (∀ j (h : j + 1 < ns.length), ns[j] < ns[j + 1]) → ns.Pairwise (· < ·)
  | [], _ => .nil
  | [a], _ => List.pairwise_singleton _ _
  | a :: b :: l, h => by
    have ih := asc_of_steps (ns := b :: l) fun j hj => h (j + 1) (by simp at hj ⊢; omega)
    have h0 : a < b := h 0 (by simp)
    refine List.pairwise_cons.mpr ⟨fun x hx => ?_, ih⟩
    rcases List.mem_cons.mp hx with e | e
    · rw [e]; exact h0
    · have := (List.pairwise_cons.mp ih).1 x e
      omega
theorem strict_go {ds : List Deed} (hd : PasOk ds) : ∀ {t : List Int} {i h b : Int}, ((∃ r c, ds[i.toNat]? = some (.wri r c)) ∨ ∃ x y : Nat, ds[i.toNat]? = some (.pas x y) ∧ h = (y : Int)) → (i :: t).Pairwise (· ≤ ·) → fol ds h t = some b → (i :: t).Pairwise (· < ·)
  | [], i, h, b, _, _, _ => List.pairwise_singleton _ _
  | j :: t, i, h, b, hi, hp, hf => by
    obtain ⟨h1, h2⟩ := List.pairwise_cons.mp hp
    have hij := h1 j List.mem_cons_self
    obtain ⟨a, c, hj, ha, hf'⟩ : ∃ a c : Nat, ds[j.toNat]? = some (.pas a c) ∧ (a : Int) = h ∧ fol ds (c : Int) t = some b := by
      unfold fol at hf
      split at hf
      · rename_i x y hx
        split at hf
        · rename_i hc
          exact ⟨x, y, hx, hc, hf⟩
        · cases hf
      · cases hf
    have ih := strict_go hd (.inr ⟨a, c, hj, rfl⟩) h2 hf'
    have hne : i ≠ j := by
      intro e
      subst e
      rcases hi with ⟨r, c', e⟩ | ⟨x, y, e, ey⟩
      · rw [e] at hj
        cases hj
      · rw [e] at hj
        injection hj with hj
        injection hj with e1 e2
        have := hd _ _ _ e
        omega
    refine List.pairwise_cons.mpr ⟨fun x hx => ?_, ih⟩
    rcases List.mem_cons.mp hx with e | e
    · rw [e]; omega
    · have := (List.pairwise_cons.mp ih).1 x e
      omega
def chS (ds : List Deed) (r b : Int) : List Int → Bool
  | [] => false
  | i :: t => (decide ((i :: t).Pairwise (· < ·)) && (match ds[i.toNat]? with | some x => isWri x && decide ((x.one : Int) = r) | none => false)) && decide (fol ds r t = some b)
theorem chS_cons {ds : List Deed} {r b i : Int} {t : List Int} {x : Deed} (hx : ds[i.toNat]? = some x) : chS ds r b (i :: t) = ((decide ((i :: t).Pairwise (· < ·)) && (isWri x && decide ((x.one : Int) = r))) && decide (fol ds r t = some b)) := by
  show ((decide ((i :: t).Pairwise (· < ·)) && (match ds[i.toNat]? with | some x => isWri x && decide ((x.one : Int) = r) | none => false)) && decide (fol ds r t = some b)) = _
  rw [hx]
theorem chI_S {ds : List Deed} (hd : PasOk ds) (r b : Int) : ∀ ns : List Int, chI ds r b ns = chS ds r b ns
  | [] => rfl
  | i :: t => by
    cases hx : ds[i.toNat]? with
    | none =>
      show ((decide ((i :: t).Pairwise (· ≤ ·)) && (match ds[i.toNat]? with | some x => isWri x && decide ((x.one : Int) = r) | none => false)) && decide (fol ds r t = some b)) = ((decide ((i :: t).Pairwise (· < ·)) && (match ds[i.toNat]? with | some x => isWri x && decide ((x.one : Int) = r) | none => false)) && decide (fol ds r t = some b))
      rw [hx]
      simp only [Bool.and_false, Bool.false_and]
    | some x =>
      rw [chI_cons hx, chS_cons hx]
      by_cases hw : (isWri x && decide ((x.one : Int) = r)) = true
      · by_cases hf : fol ds r t = some b
        · have e : decide ((i :: t).Pairwise (· ≤ ·)) = decide ((i :: t).Pairwise (· < ·)) := by
            rw [decide_eq_decide]
            constructor
            · intro h
              refine strict_go hd (.inl ?_) h hf
              have h1 := (Bool.and_eq_true_iff.mp hw).1
              cases x <;> first | (cases h1; done) | exact ⟨_, _, hx⟩
            · exact fun h => h.imp fun h => by omega
          rw [e]
        · rw [decide_eq_false hf, Bool.and_false, Bool.and_false]
      · have hw' : (isWri x && decide ((x.one : Int) = r)) = false := by
          cases hc : (isWri x && decide ((x.one : Int) = r)) with
          | false => rfl
          | true => exact absurd hc hw
        rw [hw', Bool.and_false, Bool.and_false]
section
variable {P : Program} {w : World} {K : PySem.W.Frag} {mg : Str → Option Value} {base : Heap} {f : Addr} {fd : FuncData}
/-! _law_is_integer -/
abbrev sLInt : Stmt := top 12
theorem scLInt : FnScope ["_law_thing"] ["_law_thing"] (defScope sLInt) := ⟨rfl, rfl, rfl, by decide +kernel, rfl, by decide +kernel, by decide +kernel⟩
theorem ok_lInt (B : Bl mg) (F : FnP K "_law_is_integer" sLInt f fd) : FnOk P w K mg base CX0 1 f fd ["_law_thing"] spIsInt := by
  refine F.ok scLInt (fun vs H Q E h => ?_) (fun cdv A outer s H vs Q E hr h => ?_)
  · obtain ⟨z, ⟨v, d, rfl, _⟩, _⟩ := h
    rfl
  · obtain ⟨z, ⟨v, d, rfl, hd, rfl⟩, k⟩ := h
    refine ⟨_, pss_one (ps_ret (pe_and (pe_callB call_isi (by rfl) B.isi boot_isinstance (pa_cons (pv 0) (pa_cons (pe_bltn (v := .ty "int") (by rfl) B.int PyProof.Rows.boot_int rfl) pa_nil)))
      (pe_one (pe_not (pe_callB call_isi (by rfl) B.isi boot_isinstance (pa_cons (pv 0) (pa_cons (pe_bltn (v := .ty "bool") (by rfl) B.bool PyProof.Rows.boot_bool rfl) pa_nil))))))), ?_⟩
    obtain ⟨b, hb, h1, h2⟩ := kit_int d
    have v0 : Ev (tVar 0) (start ["_law_thing"] [v]) H v := ev_var rfl
    cases b with
    | true =>
      obtain ⟨c, hc, e⟩ := h1 rfl
      rw [← e] at k
      exact s_ret (ev_andV (ev_isi v0 hd hb) fun _ => ev_notV (ev_isi v0 hd hc)) k
    | false =>
      rw [h2 rfl] at k
      exact s_ret (ev_andV (b := false) (ev_isi v0 hd hb) fun z => (by cases z)) k
/-! _law_is_chain -/
abbrev spLChain : Sp := spP fun H vs z => ∃ (v : V) (l : Addr) (us : List V) (ds : List Deed) (r b : Int) (d : PyData), vs = [.ref l, .int r, .int b, v] ∧ H l = some (.lst us) ∧ DqA H us (ds.map Deed.d) ∧ ds.length ≤ 60 ∧ PasOk ds ∧ Dq H v d ∧ (itemsT d).length ≤ 62 ∧ z = .bl (chB ds r b d)
abbrev sLChain : Stmt := top 16
abbrev nLChain : List Str := ["_law_deeds", "_law_r", "_law_b", "_law_thing", "_law_k", "_law_here", "_law_index"]
theorem scLChain : FnScope nLChain ["_law_deeds", "_law_r", "_law_b", "_law_thing"] (defScope sLChain) := ⟨rfl, rfl, rfl, by decide +kernel, rfl, by decide +kernel, by decide +kernel⟩
theorem ok_lChain (B : Bl mg) (C : Cal P w K mg base "_law_is_integer" ["_law_thing"] 1 spIsInt) (F : FnP K "_law_is_chain" sLChain f fd) : FnOk P w K mg base CX0 2 f fd ["_law_deeds", "_law_r", "_law_b", "_law_thing"] spLChain := by
  refine F.ok scLChain (fun vs H Q E h => ?_) (fun cdv A outer s H vs Q E hr h => ?_)
  · obtain ⟨z, ⟨v, l, us, ds, r, b, d, rfl, _⟩, _⟩ := h
    rfl
  · obtain ⟨z, ⟨v, l, us, ds, r, b, d, rfl, hl, hus, hd60, hpo, hd, h62, rfl⟩, k⟩ := h
    refine ⟨_, pss_cons (ps_if (PW.pt (pw_or (pt_not (pt_val (pe_callB call_isi (by rfl) B.isi boot_isinstance (pa_cons (pv 3) (pa_cons (pe_bltn (v := .ty "tuple") (by rfl) B.tuple PyProof.Rows.boot_tuple rfl) pa_nil)))))
        (pw_or1 (pt_cmpR op_eq (pe_callB call_len_seq (by rfl) B.len PySem.boot_len (pa_cons (pv 3) pa_nil)) pe_int (nomark _))))) (pss_one (ps_ret pe_bl)) pss_nil)
      (pss_cons (ps_for (passes_of rfl) rfl (pi_range1 (by rfl) B.range (pa_cons (pe_callB call_len_seq (by rfl) B.len PySem.boot_len (pa_cons (pv 3) pa_nil)) pa_nil)) (pg_name (i := 4) scLChain.nd rfl (Or.inl rfl))
        (pss_cons (ps_if (PW.pt (pw_or (pt_not (pt_val (pe_cal C hr (by rfl) (pa_cons (pe_ix ix_tup (pv 3) (pv 4) (fun _ _ => rfl)) pa_nil)))) (pw_or1 (pt_not (pt_chain op_le op_lt pe_int (pe_ix ix_tup (pv 3) (pv 4) (fun _ _ => rfl)) (pe_callB call_len_seq (by rfl) B.len PySem.boot_len (pa_cons (pv 0) pa_nil))))))) (pss_one (ps_ret pe_bl)) pss_nil)
        (pss_one (ps_if (PW.pt (pw_and (pt_cmpR op_gt (pv 4) pe_int (nomark _)) (pw_and1 (pt_cmpR op_le (pe_ix ix_tup (pv 3) (pv 4) (fun _ _ => rfl)) (pe_ix ix_tup (pv 3) (pe_op op_sub (pv 4) pe_int) (fun _ _ => rfl)) (nomark _))))) (pss_one (ps_ret pe_bl)) pss_nil))))
      (pss_cons (ps_if (PW.pt (pw_or (pt_cmpR op_ne (pe_ix ix_tup (pe_ix ix_list (pv 0) (pe_ix ix_tup (pv 3) pe_int (fun _ _ => rfl)) (fun _ _ => rfl)) pe_int (fun _ _ => rfl)) pe_str (nomark _))
          (pw_or1 (pt_cmpR op_ne (pe_ix ix_tup (pe_ix ix_list (pv 0) (pe_ix ix_tup (pv 3) pe_int (fun _ _ => rfl)) (fun _ _ => rfl)) pe_int (fun _ _ => rfl)) (pv 1) (nomark _))))) (pss_one (ps_ret pe_bl)) pss_nil)
      (pss_cons (ps_set (i := 5) scLChain.nd rfl (Or.inl rfl) (pv 1))
      (pss_cons (ps_for (passes_of rfl) rfl (pi_tup (pe_slice sl_tupA (pv 3) (po_some pe_int) po_none)) (pg_name (i := 6) scLChain.nd rfl (Or.inl rfl))
        (pss_cons (ps_if (PW.pt (pw_or (pt_cmpR op_ne (pe_ix ix_tup (pe_ix ix_list (pv 0) (pv 6) (fun _ _ => rfl)) pe_int (fun _ _ => rfl)) pe_str (nomark _))
          (pw_or1 (pt_cmpR op_ne (pe_ix ix_tup (pe_ix ix_list (pv 0) (pv 6) (fun _ _ => rfl)) pe_int (fun _ _ => rfl)) (pv 5) (nomark _))))) (pss_one (ps_ret pe_bl)) pss_nil)
        (pss_one (ps_set (i := 5) scLChain.nd rfl (Or.inl rfl) (pe_ix ix_tup (pe_ix ix_list (pv 0) (pv 6) (fun _ _ => rfl)) pe_int (fun _ _ => rfl))))))
      (pss_one (ps_ret (pe_cmpR op_eq (pv 5) (pv 2) (nomark _)))))))), ?_⟩
    have hul := hus.length
    rw [List.length_map] at hul
    have v3 : ∀ {H1 : Hp}, Ev (tVar 3) (start nLChain [.ref l, .int r, .int b, v]) H1 v := ev_var rfl
    cases htu : isTu d with
    | false =>
      have ez : chB ds r b d = false := by
        unfold chB
        rw [htu]
        rfl
      rw [ez] at k
      exact q_when (b := true || true) (et_or (et_is (et_not (et_B (ev_isi v3 hd (kit_tup d)))) (by rw [htu]; rfl)) fun z => by cases z) (fun _ H1 e1 => s_ret ev_c fun H2 e2 => k H2 (e1.trans e2)) (fun z => by cases z)
    | true =>
      obtain ⟨a, xs, es, rfl, rfl, ha, hxs⟩ := tu_inv hd htu
      have hxl := hxs.length
      have h62 : es.length ≤ 62 := h62
      have hnE : EvT (tNot (tB (tCB (rIsi K) (tCons (tVar 3) (tCons (tC (.ty "tuple")) tNil))))) (start nLChain [.ref l, .int r, .int b, .ref a]) H false := et_is (et_not (et_B (ev_isi v3 hd (kit_tup _)))) (by rw [htu]; rfl)
      have hlen0 : EvT (tTest (tOp rEq (tCB (rLenS K) (tCons (tVar 3) tNil)) (tC (.int 0)))) (start nLChain [.ref l, .int r, .int b, .ref a]) H (decide (V.int (xs.length : Int) = V.int 0)) := et_test (ev_op (ev_lenT (K := K) (ta := tVar 3) v3 (st_of ha)) ev_c (rv_eq rfl))
      have ezB : chB ds r b (.tuple es) = (es.all (isR (ds.length : Int)) && chS ds r b (es.map valI)) := by
        show (true && (es.all (isR (ds.length : Int)) && chI ds r b (es.map valI))) = _
        rw [chI_S hpo]
        rfl
      rw [ezB] at k
      clear ezB
      refine q_when (b := false || decide (V.int (xs.length : Int) = V.int 0)) (et_or hnE fun _ => hlen0) (fun hb H1 e1 => s_ret ev_c fun H2 e2 => ?_) (fun hb H1 e1 => ?_)
      · have h0 : es.length = 0 := by
          have := of_decide_eq_true (p := V.int (xs.length : Int) = V.int 0) hb
          injection this with this
          have : (xs.length : Int) = 0 := this
          omega
        have : es = [] := List.length_eq_zero_iff.mp h0
        subst this
        exact k H2 (e1.trans e2)
      have hpos : 0 < es.length := by
        cases es with
        | cons _ _ => simp
        | nil =>
          have : xs.length = 0 := by simpa using hxl
          rw [this] at hb
          exact absurd hb (by decide)
      have ha1 := e1 _ _ ha
      have hl1 := e1 _ _ hl
      have hus1 := hus.mono e1
      have hxs1 := hxs.mono e1
      clear hd hnE hlen0
      -- the items are looked at
      have notAll : ∀ (i : Nat) (e : PyData), es[i]? = some e → isR (ds.length : Int) e = false → (es.all (isR (ds.length : Int)) && chS ds r b (es.map valI)) = false := fun i e he hf => by
        have : es.all (isR (ds.length : Int)) = false := by
          cases hc : es.all (isR (ds.length : Int)) with
          | false => rfl
          | true =>
            have := List.all_eq_true.mp hc e (List.mem_of_getElem? he)
            rw [hf] at this
            cases this
        rw [this]
        rfl
      have notAsc : ¬ (es.map valI).Pairwise (· < ·) → (es.all (isR (ds.length : Int)) && chS ds r b (es.map valI)) = false := fun hn => by
        have : chS ds r b (es.map valI) = false := by
          generalize es.map valI = ns at *
          cases ns with
          | nil => rfl
          | cons i t =>
            show ((decide ((i :: t).Pairwise (· < ·)) && _) && _) = false
            rw [decide_eq_false hn]
            rfl
        rw [this, Bool.and_false]
      refine q_forR1 (ea_cons (ev_lenT (K := K) (ta := tVar 3) (ev_var rfl) (st_of ha1)) ea_nil) (n := (xs.length : Int)) (by omega) (fun i σ' H' => ∃ o : Option V, σ' = [some (.ref l), some (.int r), some (.int b), some (.ref a), o, none, none] ∧ Ex H1 H' ∧ (∀ (j : Nat) (e : PyData), j < i → es[j]? = some e → isR (ds.length : Int) e = true) ∧ ∀ (j : Nat), j + 1 < i → (es.map valI).getD j 0 < (es.map valI).getD (j + 1) 0)
        (fun H2 e2 => ⟨none, rfl, e2, fun j e hj => absurd hj (Nat.not_lt_zero _), fun j hj => absurd hj (Nat.not_lt_zero _)⟩) ?_ ?_
      · rintro i σ' H2 hi ⟨o, rfl, e2, h1, h2⟩
        have hie : i < es.length := by omega
        have ha2 := e2 _ _ ha1
        have hl2 := e2 _ _ hl1
        obtain ⟨x, hx1, hx2⟩ := hxs1.at (List.getElem?_eq_getElem hie)
        have hee : es[i]? = some es[i] := List.getElem?_eq_getElem hie
        have gx := atI_nat hx1
        change tSeq _ _ _ [some (.ref l), some (.int r), some (.int b), some (.ref a), some (.int (i : Int)), none, none] H2
        have ix : ∀ {H3 : Hp}, Ex H2 H3 → Ev (tOp (rIxT K) (tVar 3) (tVar 4)) [some (.ref l), some (.int r), some (.int b), some (.ref a), some (.int (i : Int)), none, none] H3 x := fun e3 => ev_op (ev_var rfl) (ev_var rfl) (rv_ixT (st_of (e3 _ _ ha2)) gx)
        refine q_when (b := !isI es[i] || !(decide ((0 : Int) ≤ valI es[i]) && decide (valI es[i] < (us.length : Int)))) (et_or (et_not (et_B (ev_call (ea_cons (ix (Ex.refl _)) ea_nil) (spP_v fun H3 e3 => ⟨x, es[i], rfl, hx2.mono (e2.trans e3), rfl⟩)))) fun hI => et_not (et_test (by
            have hI' : isI es[i] = true := not_f hI
            have hxi : x = .int (valI es[i]) := by
              have z := hx2
              rw [isI_eq hI'] at z
              cases z
              rfl
            exact ev_chain (i := 0) (j := valI es[i]) (k := (us.length : Int)) ev_c (ev_is (ix (Ex.refl _)) hxi) (ev_len (ev_var rfl) (sq_of hl2)) rv_I0 rv_I0))) (fun hb H3 e3 => s_ret ev_c fun H4 e4 => ?_) (fun hb H3 e3 => ?_)
        · have hf : isR (ds.length : Int) es[i] = false := by
            unfold isR
            cases hI : isI es[i] with
            | false => rfl
            | true =>
              rw [hI] at hb
              have hb' : (decide ((0 : Int) ≤ valI es[i]) && decide (valI es[i] < (us.length : Int))) = false := not_t hb
              rw [Bool.true_and, ← hb']
              congr 1
              rw [decide_eq_decide]
              omega
          rw [notAll i _ hee hf] at k
          exact k H4 (((e1.trans e2).trans e3).trans e4)
        have hR : isR (ds.length : Int) es[i] = true := by
          unfold isR
          cases hI : isI es[i] with
          | false => rw [hI] at hb; cases hb
          | true =>
            rw [hI] at hb
            have hb' : (decide ((0 : Int) ≤ valI es[i]) && decide (valI es[i] < (us.length : Int))) = true := not_f hb
            rw [Bool.true_and, ← hb']
            congr 1
            rw [decide_eq_decide]
            omega
        have hIi : isI es[i] = true := (Bool.and_eq_true_iff.mp hR).1
        have hxi : x = .int (valI es[i]) := by
          have z := hx2
          rw [isI_eq hIi] at z
          cases z
          rfl
        have gi : (es.map valI).getD i 0 = valI es[i] := by
          rw [List.getD_eq_getElem?_getD, List.getElem?_map, hee]
          rfl
        have h1' : ∀ (j : Nat) (e : PyData), j < i + 1 → es[j]? = some e → isR (ds.length : Int) e = true := fun j e hj he => by
          rcases Nat.lt_succ_iff_lt_or_eq.mp hj with c | c
          · exact h1 j e c he
          · subst c
            rw [hee] at he
            cases he
            exact hR
        by_cases hi0 : 0 < i
        · have hie' : i - 1 < es.length := by omega
          obtain ⟨x', hx1', hx2'⟩ := hxs1.at (List.getElem?_eq_getElem hie')
          have hee' : es[i - 1]? = some es[i - 1] := List.getElem?_eq_getElem hie'
          have hIi' : isI es[i - 1] = true := (Bool.and_eq_true_iff.mp (h1 (i - 1) _ (by omega) hee')).1
          have hxi' : x' = .int (valI es[i - 1]) := by
            have z := hx2'
            rw [isI_eq hIi'] at z
            cases z
            rfl
          have gi' : (es.map valI).getD (i - 1) 0 = valI es[i - 1] := by
            rw [List.getD_eq_getElem?_getD, List.getElem?_map, hee']
            rfl
          have gx' := atI_nat hx1'
          rw [show ((i - 1 : Nat) : Int) = (i : Int) - 1 by omega] at gx'
          subst hxi hxi'
          refine s_when (b := decide ((i : Int) > 0) && decide (valI es[i] ≤ valI es[i - 1])) (et_and (et_test (ev_op (ev_var rfl) ev_c rv_I0)) fun _ => et_test (ev_op (ix e3) (ev_op (ev_var rfl) (ev_op (ev_var rfl) ev_c rv_I0) (rv_ixT (st_of (e3 _ _ ha2)) gx')) rv_I0)) (fun hb H4 e4 => s_ret ev_c fun H5 e5 => ?_) (fun hb H4 e4 => ?_)
          · have hle := of_decide_eq_true (Bool.and_eq_true_iff.mp hb).2
            rw [notAsc fun hp => ?_] at k
            · exact k H5 ((((e1.trans e2).trans e3).trans e4).trans e5)
            · have := (List.pairwise_iff_getElem.mp hp) (i - 1) i (by rw [List.length_map]; omega) (by rw [List.length_map]; omega) (by omega)
              rw [List.getElem_map, List.getElem_map] at this
              omega
          · refine ⟨_, rfl, (e2.trans e3).trans e4, h1', fun j hj => ?_⟩
            by_cases c : j + 1 < i
            · exact h2 j c
            · have ej : j = i - 1 := by omega
              subst ej
              rw [show i - 1 + 1 = i by omega, gi, gi']
              rw [decide_eq_true (show (i : Int) > 0 by omega), Bool.true_and] at hb
              have := of_decide_eq_false hb
              omega
        · refine s_when (b := decide ((i : Int) > 0) && false) (et_and (et_test (ev_op (ev_var rfl) ev_c rv_I0)) fun z => absurd (of_decide_eq_true z) (by omega)) (fun hb => by simp at hb) (fun hb H4 e4 => ⟨_, rfl, (e2.trans e3).trans e4, h1', fun j hj => by omega⟩)
      · rintro σ' H2 ⟨o, rfl, e2, h1, h2⟩
        have hall : es.all (isR (ds.length : Int)) = true := List.all_eq_true.mpr fun e he => by
          obtain ⟨j, hj, rfl⟩ := List.getElem_of_mem he
          exact h1 j _ (by omega) (List.getElem?_eq_getElem hj)
        have hasc : (es.map valI).Pairwise (· < ·) := asc_of_steps fun j hj => by
          have hj' : j + 1 < xs.length := by rw [List.length_map] at hj; omega
          have z := h2 j hj'
          rw [List.getD_eq_getElem?_getD, List.getD_eq_getElem?_getD, List.getElem?_eq_getElem hj, List.getElem?_eq_getElem (show j < (es.map valI).length by omega)] at z
          exact z
        rw [hall, Bool.true_and] at k
        have ees := ints_of hall
        have exs : xs = (es.map valI).map V.int := by rw [ees] at hxs1; exact hxs1.int_inv
        have hrg : ∀ x ∈ es.map valI, 0 ≤ x ∧ x < (ds.length : Int) := fun x hx => by
          obtain ⟨e, he, rfl⟩ := List.mem_map.mp hx
          have := List.all_eq_true.mp hall e he
          unfold isR at this
          simp only [Bool.and_eq_true, decide_eq_true_eq] at this
          omega
        have hnl : (es.map valI).length = es.length := List.length_map _
        clear h1 h2 notAll notAsc hxs1 hxs ees
        generalize es.map valI = ns at *
        subst exs
        cases ns with
        | nil => simp at hnl; omega
        | cons i t =>
          have hi := hrg i List.mem_cons_self
          have hin : i.toNat < ds.length := by omega
          have ha2 := e2 _ _ ha1
          have hl2 := e2 _ _ hl1
          have hus2 := hus1.mono e2
          obtain ⟨td, hd1, hd2⟩ := deeds_at hus2 hin
          have hdi : ds[i.toNat]? = some ds[i.toNat] := List.getElem?_eq_getElem hin
          have ati : atI us i = some (.ref td) := by
            have z := atI_nat hd1
            rw [Int.toNat_of_nonneg hi.1] at z
            exact z
          rw [chS_cons hdi, decide_eq_true hasc, Bool.true_and] at k
          have e02 := e1.trans e2
          have i0 : ∀ {j : Int} {u : V}, atI ds[i.toNat].vs j = some u → Ev (tOp (rIxT K) (tOp (rIxL K) (tVar 0) (tOp (rIxT K) (tVar 3) (tC (.int 0)))) (tC (.int j))) [some (.ref l), some (.int r), some (.int b), some (.ref a), o, none, none] H2 u := fun hj => ev_op (ev_op (ev_var rfl) (ev_op (ev_var rfl) ev_c (rv_ixT (st_of ha2) (v := .int i) (atI_nat (j := 0) rfl))) (rv_ixL (sq_of hl2) ati)) ev_c (rv_ixT (st_of hd2) hj)
          refine q_when (b := !isWri ds[i.toNat] || !decide (V.int (ds[i.toNat].one : Int) = V.int r)) (et_or (et_is (et_test (ev_op (i0 ds[i.toNat].at0) ev_c (rv_ne rfl))) (by rw [word_wri])) fun _ => et_test (ev_op (i0 ds[i.toNat].at1) (ev_var rfl) (rv_ne rfl))) (fun hb H3 e3 => s_ret ev_c fun H4 e4 => ?_) (fun hb H3 e3 => ?_)
          · have : (isWri ds[i.toNat] && decide ((ds[i.toNat].one : Int) = r)) = false := by
              cases hW : isWri ds[i.toNat] with
              | false => rfl
              | true =>
                rw [hW] at hb
                have := not_t hb
                rw [Bool.true_and, ← this, decide_eq_decide]
                exact ⟨fun e => by rw [e], fun e => by injection e⟩
            rw [this, Bool.false_and] at k
            exact k H4 ((e02.trans e3).trans e4)
          have hw1 : isWri ds[i.toNat] = true := by
            cases hW : isWri ds[i.toNat] with
            | false => rw [hW] at hb; cases hb
            | true => rfl
          have hw2 : (ds[i.toNat].one : Int) = r := by
            rw [hw1] at hb
            have := of_decide_eq_true (not_f hb)
            injection this
          rw [hw1, decide_eq_true hw2, Bool.true_and, Bool.true_and] at k
          refine q_asg (v := .int r) (ev_var rfl) fun H4 e4 => ?_
          have ha4 := (e3.trans e4) _ _ ha2
          change tSeq _ _ _ [some (.ref l), some (.int r), some (.int b), some (.ref a), o, some (.int r), none] H4
          have hsl : EvS (tSl (rSlA K) (tVar 3) (tPart (tC (.int 1))) tNoPart) [some (.ref l), some (.int r), some (.int b), some (.ref a), o, some (.int r), none] H4 (t.map V.int) := by
            have q := es_sl (K := K) (te := tVar 3) (σ := [some (.ref l), some (.int r), some (.int b), some (.ref a), o, some (.int r), none]) (H := H4) (tl := tPart (tC (.int 1))) (th := tNoPart) (ev_var rfl) (eo_some (i := 1) ev_c) eo_none ha4
            rw [show (1 : Int) = ((1 : Nat) : Int) from rfl, cut_from _ _ (by simp)] at q
            exact q
          have e04 := e02.trans (e3.trans e4)
          refine q_forS (K := K) hsl (fun p j σ' H' => ∃ (h : Int) (o' : Option V), σ' = [some (.ref l), some (.int r), some (.int b), some (.ref a), o, some (.int h), o'] ∧ Ex H4 H' ∧ H' p = some (.tup (t.map V.int)) ∧ fol ds r t = fol ds h (t.drop j)) (fun p H5 e5 hp => ⟨r, none, rfl, e5, hp, rfl⟩) (fun p j σ' H' _ ⟨_, _, _, _, hp, _⟩ => st_of hp) ?_ ?_
          · rintro p j x σ' H5 hx ⟨h, o', rfl, e5, hp, hfol⟩
            rw [List.getElem?_map] at hx
            cases hn : t[j]? with
            | none => rw [hn] at hx; cases hx
            | some n =>
              rw [hn] at hx
              have ex : x = .int n := (Option.some.inj hx).symm
              subst ex
              have hnr := hrg n (List.mem_cons_of_mem _ (List.mem_of_getElem? hn))
              have hnn : n.toNat < ds.length := by omega
              have hl5 := ((e3.trans e4).trans e5) _ _ hl2
              have hus5 := hus2.mono ((e3.trans e4).trans e5)
              obtain ⟨tn, hn1, hn2⟩ := deeds_at hus5 hnn
              have hdn : ds[n.toNat]? = some ds[n.toNat] := List.getElem?_eq_getElem hnn
              have atn : atI us n = some (.ref tn) := by
                have z := atI_nat hn1
                rw [Int.toNat_of_nonneg hnr.1] at z
                exact z
              have hdrop : t.drop j = n :: t.drop (j + 1) := by
                obtain ⟨hj, e⟩ := List.getElem?_eq_some_iff.mp hn
                rw [List.drop_eq_getElem_cons hj, e]
              rw [hdrop, fol_cons hdn] at hfol
              refine g_name ?_
              change tSeq _ _ _ [some (.ref l), some (.int r), some (.int b), some (.ref a), o, some (.int h), some (.int n)] H5
              have i5 : ∀ {j : Int} {u : V} {H6 : Hp}, Ex H5 H6 → atI ds[n.toNat].vs j = some u → Ev (tOp (rIxT K) (tOp (rIxL K) (tVar 0) (tVar 6)) (tC (.int j))) [some (.ref l), some (.int r), some (.int b), some (.ref a), o, some (.int h), some (.int n)] H6 u := fun e6 hj => ev_op (ev_op (ev_var rfl) (ev_var rfl) (rv_ixL (sq_of (e6 _ _ hl5)) atn)) ev_c (rv_ixT (st_of (e6 _ _ hn2)) hj)
              refine q_when (b := !isPas ds[n.toNat] || !decide (V.int (ds[n.toNat].one : Int) = V.int h)) (et_or (et_is (et_test (ev_op (i5 (Ex.refl _) ds[n.toNat].at0) ev_c (rv_ne rfl))) (by rw [word_pas])) fun _ => et_test (ev_op (i5 (Ex.refl _) ds[n.toNat].at1) (ev_var rfl) (rv_ne rfl))) (fun hb H6 e6 => s_ret ev_c fun H7 e7 => ?_) (fun hb H6 e6 => ?_)
              · have hb' : (isPas ds[n.toNat] && decide ((ds[n.toNat].one : Int) = h)) = false := by
                  cases hW : isPas ds[n.toNat] with
                  | false => rfl
                  | true =>
                    rw [hW] at hb
                    have := not_t hb
                    rw [Bool.true_and, ← this, decide_eq_decide]
                    exact ⟨fun e => by rw [e], fun e => by injection e⟩
                rw [hb'] at hfol
                rw [hfol] at k
                exact k H7 ((e04.trans e5).trans (e6.trans e7))
              · have hp1 : isPas ds[n.toNat] = true := by
                  cases hW : isPas ds[n.toNat] with
                  | false => rw [hW] at hb; cases hb
                  | true => rfl
                have hp2 : (ds[n.toNat].one : Int) = h := by
                  rw [hp1] at hb
                  have := of_decide_eq_true (not_f hb)
                  injection this
                rw [hp1, decide_eq_true hp2, Bool.true_and, if_pos rfl] at hfol
                obtain ⟨x1, x2, hx12⟩ : ∃ x1 x2, ds[n.toNat] = .pas x1 x2 := by
                  cases hdd : ds[n.toNat] <;> rw [hdd] at hp1 <;> first | (cases hp1; done) | exact ⟨_, _, rfl⟩
                refine s_asg (v := .int (x2 : Int)) (i5 e6 (by rw [hx12]; exact atI_nat (j := 2) rfl)) fun H7 e7 => ?_
                rw [hx12] at hfol
                exact ⟨(x2 : Int), _, rfl, e5.trans (e6.trans e7), (e6.trans e7) _ _ hp, hfol⟩
          · rintro p σ' H5 ⟨h, o', rfl, e5, hp, hfol⟩
            rw [List.length_map, List.drop_length] at hfol
            refine s_ret (ev_is (ev_op (ev_var rfl) (ev_var rfl) (rv_eq rfl)) ?_) fun H6 e6 => k H6 ((e04.trans e5).trans e6)
            rw [hfol]
            show V.bl (decide (V.int h = V.int b)) = V.bl (decide (some h = some b))
            congr 1
            rw [decide_eq_decide]
            simp
end
end Wk

set_option Elab.async false
set_option linter.all false
set_option maxRecDepth 100000
set_option maxHeartbeats 2000000
namespace Wk
open PySem PySem.Spec PyProof.Rows L2 Evl
/-! what stays grows by new things only -/
structure Gr (p q : Addr) (G H G' H' : Hp) : Prop where
  ex : Ex G G'
  nw : ∀ b, G b = none → H b ≠ none → G' b = none
  off : Of1 p H H'
  pl : Pm G' H' p q
theorem Gr.refl {p q : Addr} {G H : Hp} (h : Pm G H p q) : Gr p q G H G H := ⟨Ex.refl _, fun _ h _ => h, Of1.refl _ _, h⟩
theorem Gr.trans {p q : Addr} {G H G1 H1 G2 H2 : Hp} (a : Gr p q G H G1 H1) (b : Gr p q G1 H1 G2 H2) : Gr p q G H G2 H2 := by
  refine ⟨a.ex.trans b.ex, fun c hc hh => ?_, a.off.trans b.off, b.pl⟩
  by_cases cp : c = p
  · rw [cp]; exact b.pl.gp
  refine b.nw c (a.nw c hc hh) ?_
  cases hx : H c with
  | none => exact absurd hx hh
  | some o => rw [a.off c o cp hx]; simp
theorem Gr.new {p q t : Addr} {G H : Hp} {o : HO} (h : Pm G H p q) (ht : H t = none) : Gr p q G H (upd G t o) (upd H t o) := by
  refine ⟨Ex.new (fresh_back h.ex ht), fun b hb hh => ?_, Of1.ex (Ex.new ht), h.new ht⟩
  have nb : b ≠ t := fun z => hh (by rw [z]; exact ht)
  rw [upd_ne nb]
  exact hb
theorem Gr.ext {p q : Addr} {G H H' : Hp} (h : Pm G H p q) (e : Ex H H') : Gr p q G H G H' := ⟨Ex.refl _, fun _ h _ => h, Of1.ex e, h.ext e⟩
theorem Gr.draw {p q : Addr} {G H H' : Hp} (h : Pm G H p q) (h' : Pm (Hd1 H p) H' p q) : Gr p q G H G H' := ⟨Ex.refl _, fun _ h _ => h, h'.off, h.back h'⟩
/-! displays -/
def EvDt (p q : Addr) (te : TE) (σ : L2.St) (d : PyData) : Prop := ∀ G H, Pm G H p q → ∀ Q : VK, (∀ G' H' v, Gr p q G H G' H' → Dq G' v d → Q v H') → te σ H Q
def EvDA (p q : Addr) (ta : TA) (σ : L2.St) (ds : List PyData) : Prop := ∀ G H, Pm G H p q → ∀ Q : List V → Hp → Prop, (∀ G' H' vs, Gr p q G H G' H' → DqA G' vs ds → Q vs H') → ta σ H Q
section
variable {p q : Addr} {σ : L2.St} {te tb : TE} {ta : TA} {d : PyData} {ds es : List PyData}
theorem ed_c {v : V} (h : ∀ G, Dq G v d) : EvDt p q (tC v) σ d := fun G H hP Q k => k G H v (Gr.refl hP) (h G)
theorem ed_int {i : Nat} {x : Int} (h : σ[i]? = some (some (.int x))) : EvDt p q (tVar i) σ (.int x) := fun G H hP Q k => ⟨.int x, h, k G H _ (Gr.refl hP) (.int x)⟩
theorem ed_nil : EvDA p q tNil σ [] := fun G H hP Q k => k G H [] (Gr.refl hP) .nil
theorem ed_cons (h : EvDt p q te σ d) (hr : EvDA p q ta σ ds) : EvDA p q (tCons te ta) σ (d :: ds) := fun G H hP Q k =>
  h G H hP _ fun G1 H1 v g1 hv => hr G1 H1 g1.pl _ fun G2 H2 vs g2 hvs => k G2 H2 (v :: vs) (g1.trans g2) (.cons (hv.mono g2.ex) hvs)
theorem ed_tup (h : EvDA p q ta σ ds) (hl : ds.length ≤ 1000) : EvDt p q (tTup ta) σ (.tuple ds) := fun G H hP Q k =>
  h G H hP _ fun G1 H1 vs g1 hvs => ⟨by have := hvs.length; rw [sizeLine_eq]; omega, fun t ht => k (upd G1 t (.tup vs)) _ (.ref t) (g1.trans (Gr.new g1.pl ht)) (.tup upd_same (hvs.mono (Gr.new (o := .tup vs) g1.pl ht).ex))⟩
theorem ed_lst (h : EvDA p q ta σ ds) (hl : ds.length ≤ 1000) : EvDt p q (tLst ta) σ (.list ds) := fun G H hP Q k =>
  h G H hP _ fun G1 H1 vs g1 hvs => ⟨by have := hvs.length; rw [sizeLine_eq]; omega, fun t ht => k (upd G1 t (.lst vs)) _ (.ref t) (g1.trans (Gr.new g1.pl ht)) (.lst upd_same (hvs.mono (Gr.new (o := .lst vs) g1.pl ht).ex))⟩
theorem ed_dict : EvDt p q tDNewK σ (.dict []) := fun G H hP Q k t ht => k (upd G t (.dK [])) _ (.ref t) (Gr.new hP ht) (.dic upd_same)
/-- things + [..] -/
theorem ed_cat (G0 : Hp) {v : V} {i : Nat} (hv : σ[i]? = some (some v)) (h0 : Dq G0 v (.list ds)) (hb : EvDt p q tb σ (.list es)) (hl : ds.length + es.length ≤ 1000) {H : Hp} (hP : Pm G0 H p q) {Q : VK} (k : ∀ G' H' v, Gr p q G0 H G' H' → Dq G' v (.list (ds ++ es)) → Q v H') : tOp rCat (tVar i) tb σ H Q := by
  refine ⟨v, hv, hb G0 H hP _ fun G1 H1 u g1 hu => ?_⟩
  have h1 := h0.mono g1.ex
  cases h1 with
  | lst a1 a2 =>
    cases hu with
    | lst b1 b2 =>
      rename_i aa xs ab ys
      have l1 := a2.length
      have l2 := b2.length
      refine ⟨aa, ab, xs, ys, rfl, rfl, g1.pl.ex _ _ a1, g1.pl.ex _ _ b1, by rw [sizeLine_eq]; omega, fun t ht => ?_⟩
      have gn := Gr.new (o := .lst (xs ++ ys)) g1.pl ht
      exact k _ _ (.ref t) (g1.trans gn) (.lst upd_same ((a2.append b2).mono gn.ex))
end
theorem q_asgD {p q : Addr} {i : Nat} {te : TE} {tz : TS} {D : Ends} {σ : L2.St} {G H : Hp} {d : PyData} (h : EvDt p q te σ d) (hP : Pm G H p q) (k : ∀ G' H' v, Gr p q G H G' H' → Dq G' v d → tz D (σ.set i (some v)) H') : tSeq (tAsg te (gName i)) tz D σ H := h G H hP _ k
theorem q_catD {p q : Addr} {i j : Nat} {tb : TE} {tz : TS} {D : Ends} {σ : L2.St} {H : Hp} {ds es : List PyData} (G0 : Hp) {v : V} (hv : σ[i]? = some (some v)) (h0 : Dq G0 v (.list ds)) (hb : EvDt p q tb σ (.list es)) (hl : ds.length + es.length ≤ 1000) (hP : Pm G0 H p q) (k : ∀ G' H' v, Gr p q G0 H G' H' → Dq G' v (.list (ds ++ es)) → tz D (σ.set j (some v)) H') : tSeq (tAsg (tOp rCat (tVar i) tb) (gName j)) tz D σ H := ed_cat G0 hv h0 hb hl hP k
end Wk

set_option Elab.async false
set_option linter.all false
set_option maxRecDepth 100000
set_option maxHeartbeats 4000000
namespace Wk
open PySem PySem.Spec PyProof.Rows L2 Evl
/-! spoiled rows -/
abbrev sgS (p l c : Addr) (kd : Int) (m : Nat) (R : Addr) (fr : Int) : L2.St := [some (.ref p), some (.ref l), some (.ref c), some (.int kd), some (.int (m : Int)), some (.ref R), some (.int fr)]
def SpI (G : Hp) (p q l c : Addr) (kd : Int) (m : Nat) (fr : Int) (cs : List Int) (j : Int) : L2.St → Hp → Prop := fun σ' H' => ∃ (G' : Hp) (R : Addr) (vs : List V) (es : List PyData), σ' = sgS p l c kd m R fr ∧ Ex G G' ∧ Pm G' H' p q ∧ G' R = none ∧ R ≠ p ∧ H' R = some (.lst vs) ∧ DqA G' vs es ∧ es.length ≤ 62 ∧ (j ≤ kd → vs = cs.map V.int)
section
variable {G : Hp} {p q l c : Addr} {kd : Int} {m : Nat} {fr : Int} {cs : List Int} {j : Int} {σ : L2.St} {H : Hp} {t : TT} {tu tz : TS} {D : Ends} {b2 : Bool}
theorem SpI.up (h : SpI G p q l c kd m fr cs j σ H) {H1 : Hp} (e : Ex H H1) : SpI G p q l c kd m fr cs (j + 1) σ H1 := by
  obtain ⟨G', R, vs, es, h1, h2, h3, h4, h5, h6, h7, h8, h9⟩ := h
  exact ⟨G', R, vs, es, h1, h2, h3.ext e, h4, h5, e _ _ h6, h7, h8, fun z => h9 (by omega)⟩
theorem stage2 (hI : SpI G p q l c kd m fr cs j σ H) (ht : ∀ R H1, kd = j → H1 R = some (.lst (cs.map V.int)) → EvT t (sgS p l c kd m R fr) H1 b2)
    (hu : ∀ G' R H1, kd = j → b2 = true → Ex G G' → Pm G' H1 p q → G' R = none → R ≠ p → H1 R = some (.lst (cs.map V.int)) → tu { D with nx := SpI G p q l c kd m fr cs (j + 1) } (sgS p l c kd m R fr) H1)
    (hz : ∀ σ' H', SpI G p q l c kd m fr cs (j + 1) σ' H' → tz D σ' H') : tCut (tIfS (tAnd (tTest (tOp rEq (tVar 3) (tC (.int j)))) t) tu tNext) tz D σ H := by
  refine q_cut (M := SpI G p q l c kd m fr cs (j + 1)) ?_ hz
  have hI' := hI
  obtain ⟨G', R, vs, es, rfl, h2, h3, h4, h5, h6, h7, h8, h9⟩ := hI'
  refine s_when (b := decide (V.int kd = V.int j) && b2) (et_and (et_test (ev_op (ev_var rfl) ev_c (rv_eq rfl))) fun hk => ?_) (fun hb H1 e1 => ?_) (fun hb H1 e1 => hI.up e1)
  · have hkj : kd = j := by
      have := of_decide_eq_true hk
      injection this
    rw [h9 (by omega)] at h6
    exact ht R H hkj h6
  · obtain ⟨hk, hb2⟩ := Bool.and_eq_true_iff.mp hb
    have hkj : kd = j := by
      have := of_decide_eq_true hk
      injection this
    rw [h9 (by omega)] at h6
    exact hu G' R H1 hkj hb2 h2 (h3.ext e1) h4 h5 (e1 _ _ h6)
theorem stage1 (hI : SpI G p q l c kd m fr cs j σ H)
    (hu : ∀ G' R H1, kd = j → Ex G G' → Pm G' H1 p q → G' R = none → R ≠ p → H1 R = some (.lst (cs.map V.int)) → tu { D with nx := SpI G p q l c kd m fr cs (j + 1) } (sgS p l c kd m R fr) H1)
    (hz : ∀ σ' H', SpI G p q l c kd m fr cs (j + 1) σ' H' → tz D σ' H') : tCut (tIfS (tTest (tOp rEq (tVar 3) (tC (.int j)))) tu tNext) tz D σ H := by
  refine q_cut (M := SpI G p q l c kd m fr cs (j + 1)) ?_ hz
  have hI' := hI
  obtain ⟨G', R, vs, es, rfl, h2, h3, h4, h5, h6, h7, h8, h9⟩ := hI'
  refine s_when (b := decide (V.int kd = V.int j)) (et_test (ev_op (ev_var rfl) ev_c (rv_eq rfl))) (fun hk H1 e1 => ?_) (fun hb H1 e1 => hI.up e1)
  have hkj : kd = j := by
    have := of_decide_eq_true hk
    injection this
  rw [h9 (by omega)] at h6
  exact hu G' R H1 hkj h2 (h3.ext e1) h4 h5 (e1 _ _ h6)
/-- the row is changed -/
theorem sp_mut {G' : Hp} {R : Addr} {vs : List V} {es : List PyData} {H1 : Hp} (hk : kd = j) (e : Ex G G') (hP : Pm G' H1 p q) (g : G' R = none) (n : R ≠ p) (hd : DqA G' vs es) (hl : es.length ≤ 62) : SpI G p q l c kd m fr cs (j + 1) (sgS p l c kd m R fr) (upd H1 R (.lst vs)) :=
  ⟨G', R, vs, es, rfl, e, hP.mut g n, g, n, upd_same, hd, hl, fun z => by omega⟩
/-- the row is a new one of ints -/
theorem sp_new {G' : Hp} {R : Addr} {ns : List Int} {H1 H2 : Hp} (hk : kd = j) (e : Ex G G') (hP : Pm G' H1 p q) (e1 : Ex H1 H2) (n : H1 R = none) (h2 : H2 R = some (.lst (ns.map V.int))) (hl : ns.length ≤ 62) : SpI G p q l c kd m fr cs (j + 1) (sgS p l c kd m R fr) H2 :=
  ⟨G', R, ns.map V.int, ns.map PyData.int, rfl, e, hP.ext e1, fresh_back hP.ex n, hP.np n, h2, DqA.ints ns, by rw [List.length_map]; exact hl, fun z => by omega⟩
end
theorem el_cat {σ : L2.St} {H : Hp} {ta tb : TE} {xs ys : List V} (ha : EvL ta σ H xs) (hb : EvL tb σ H ys) (hz : xs.length + ys.length ≤ 100000) : EvL (tOp rCat ta tb) σ H (xs ++ ys) := fun H1 e Q q =>
  ha H1 e _ fun p H2 hp0 e2 hp => hb H2 (e.trans e2) _ fun p' H3 hp0' e3 hp' => ⟨p, p', xs, ys, rfl, rfl, e3 _ _ hp, hp', sz_of hz, fun t ht => q t _ (fresh_back (e2.trans e3) ht) ((e2.trans e3).trans (Ex.new ht)) upd_same⟩
theorem log_small {x : Int} (h0 : 0 ≤ x) (h1 : x ≤ 100) : x.natAbs.log2 < 1920 := by
  by_cases z : x.natAbs = 0
  · rw [z]
    decide
  · exact Nat.lt_trans ((Nat.log2_lt z).mpr (show x.natAbs < 2 ^ 7 by omega)) (by decide)
/-- [..][draw] -/
theorem ix_disp {K : PySem.W.Frag} {p q : Addr} {te : TE} {σ : L2.St} {G H : Hp} {ds : List PyData} {n : Int} {Q : VK} (h : EvDt p q te σ (.list ds)) (hP : Pm G H p q) (hσ : σ[0]? = some (some (.ref p))) (hn : n = (ds.length : Int)) (h0 : 0 < n) (h1 : n ≤ 1000)
    (k : ∀ G' H' v d, Ex G G' → Pm G' H' p q → d ∈ ds → Dq G' v d → Q v H') : tOp (rIxL K) te (tCall spDraw [] E0 (tCons (tVar 0) (tCons (tC (.int n)) tNil))) σ H Q := by
  refine h G H hP _ fun G1 H1 v g1 hv => ?_
  cases hv with
  | @lst a xs _ a1 a2 =>
    have hP1 := g1.pl
    refine ⟨.ref p, hσ, ⟨_, p, q, n, rfl, hP1.hd, h0, by omega, fun H2 j hP20 hj0 hj1 => ?_⟩⟩
    have hP2 := hP1.back hP20
    have l1 := a2.length
    obtain ⟨m, rfl⟩ : ∃ m : Nat, j = (m : Int) := ⟨j.toNat, by omega⟩
    have hm : m < ds.length := by omega
    obtain ⟨u, hu1, hu2⟩ := a2.at (List.getElem?_eq_getElem hm)
    exact ⟨a, xs, (m : Int), u, rfl, rfl, sq_of (hP2.ex _ _ a1), atI_nat hu1, k G1 H2 u _ g1.ex hP2 (List.getElem_mem hm) hu2⟩
section
variable {P : Program} {w : World} {K : PySem.W.Frag} {mg : Str → Option Value} {base : Heap} {f : Addr} {fd : FuncData}
def spSpoiled : Sp := fun vs H Q _ => ∃ (G : Hp) (p q l c : Addr) (us : List V) (cs : List Int), vs = [.ref p, .ref l, .ref c] ∧ Pm G H p q ∧ G l = some (.lst us) ∧ us.length ≤ 60 ∧ G c = some (.lst (cs.map V.int)) ∧ cs.length ≤ 60 ∧ (∀ x ∈ cs, 0 ≤ x ∧ x < 60) ∧
  ∀ G' H' v d, Ex G G' → Pm G' H' p q → Dq G' v d → (itemsT d).length ≤ 62 → Q v H'
abbrev sSpoiled : Stmt := top 15
abbrev nSpoiled : List Str := ["_law_pool_here", "_law_deeds", "_law_chain", "_law_kind", "_law_at", "_law_row", "_law_far"]
theorem scSpoiled : FnScope nSpoiled ["_law_pool_here", "_law_deeds", "_law_chain"] (defScope sSpoiled) := ⟨rfl, rfl, rfl, by decide +kernel, rfl, by decide +kernel, by decide +kernel⟩
theorem ok_spoiled (B : Bl mg) (C : Cal P w K mg base "_law_draw" ["_law_pool_here", "_law_limit"] 2 spDraw) (F : FnP K "_law_spoiled" sSpoiled f fd) : FnOk P w K mg base CX0 3 f fd ["_law_pool_here", "_law_deeds", "_law_chain"] spSpoiled := by
  refine F.ok scSpoiled (fun vs H Q E h => ?_) (fun cdv A outer s H vs Q E hr h => ?_)
  · obtain ⟨G, p, q, l, c, us, cs, rfl, _⟩ := h
    rfl
  · obtain ⟨G, p, q, l, c, us, cs, rfl, hP, hl, hul, hc, hcl, hcr, k⟩ := h
    have lenR : ∀ {X : Cx}, X.mg = mg → PE X (.Call (.Name "len" ⟨0, 0, 0, 0⟩) [.Name "_law_row" ⟨0, 0, 0, 0⟩] [] ⟨0, 0, 0, 0⟩) (tCB (rLenS X.K) (tCons (tVar 5) tNil)) → True := fun _ _ => trivial
    refine ⟨_, pss_cons (ps_set (i := 3) scSpoiled.nd rfl (Or.inl rfl) (pe_cal C hr (by rfl) (pa_cons (pv 0) (pa_cons pe_int pa_nil))))
      (pss_cons (ps_set (i := 4) scSpoiled.nd rfl (Or.inl rfl) (pe_cal C hr (by rfl) (pa_cons (pv 0) (pa_cons (pe_op op_add (pe_callB call_len_seq (by rfl) B.len PySem.boot_len (pa_cons (pv 2) pa_nil)) pe_int) pa_nil))))
      (pss_cons (ps_set (i := 5) scSpoiled.nd rfl (Or.inl rfl) (pe_callTy (call_listK2 (K := K) rfl) (by rfl) B.list PyProof.Rows.boot_list (pa_cons (pv 2) pa_nil)))
      (pss_cons (ps_set (i := 6) scSpoiled.nd rfl (Or.inl rfl) (pe_cal C hr (by rfl) (pa_cons (pv 0) (pa_cons (pe_op op_add (pe_callB call_len_seq (by rfl) B.len PySem.boot_len (pa_cons (pv 1) pa_nil)) pe_int) pa_nil))))
      (pss_cut (ps_if (PW.pt (pw_and (pt_cmpR op_eq (pv 3) pe_int (nomark _)) (pw_and1 (pt_cmpR op_lt (pv 4) (pe_callB call_len_seq (by rfl) B.len PySem.boot_len (pa_cons (pv 5) pa_nil)) (nomark _))))) (pss_one (ps_expr (pe_bm PySem.F.plainAttrs_list PySem.F.slot_list_pop PySem.F.type_list_pop mt_popAt (pv 5) (pa_cons (pv 4) pa_nil)))) pss_nil)
      (pss_cut (ps_if (PW.pt (pw_and (pt_cmpR op_eq (pv 3) pe_int (nomark _)) (pw_and1 (pt_cmpR op_lt (pv 4) (pe_callB call_len_seq (by rfl) B.len PySem.boot_len (pa_cons (pv 5) pa_nil)) (nomark _))))) (pss_one (ps_asg (pv 6) (pg_sub (pv 5) (pv 4) set_list))) pss_nil)
      (pss_cut (ps_if (pt_cmpR op_eq (pv 3) pe_int (nomark _)) (pss_one (ps_expr (pe_bm PySem.F.plainAttrs_list PySem.F.slot_list_insert PySem.F.type_list_insert mt_insert (pv 5) (pa_cons (pv 4) (pa_cons (pv 6) pa_nil))))) pss_nil)
      (pss_cut (ps_if (PW.pt (pw_and (pt_cmpR op_eq (pv 3) pe_int (nomark _)) (pw_and1 (pt_cmpR op_lt (pv 4) (pe_callB call_len_seq (by rfl) B.len PySem.boot_len (pa_cons (pv 5) pa_nil)) (nomark _))))) (pss_one (ps_expr (pe_bm PySem.F.plainAttrs_list PySem.F.slot_list_insert PySem.F.type_list_insert mt_insert (pv 5) (pa_cons (pv 4) (pa_cons (pe_ix ix_list (pv 5) (pv 4) (fun _ _ => rfl)) pa_nil))))) pss_nil)
      (pss_cut (ps_if (PW.pt (pw_and (pt_cmpR op_eq (pv 3) pe_int (nomark _)) (pw_and1 (pt_cmpR op_lt (pe_op op_add (pv 4) pe_int) (pe_callB call_len_seq (by rfl) B.len PySem.boot_len (pa_cons (pv 5) pa_nil)) (nomark _)))))
          (pss_one (ps_set (i := 5) scSpoiled.nd rfl (Or.inl rfl) (pe_op op_cat (pe_op op_cat (pe_slice sl_list (pv 5) po_none (po_some (pv 4))) (pe_lst (pa_cons (pe_ix ix_list (pv 5) (pe_op op_add (pv 4) pe_int) (fun _ _ => rfl)) (pa_cons (pe_ix ix_list (pv 5) (pv 4) (fun _ _ => rfl)) pa_nil)))) (pe_slice sl_list (pv 5) (po_some (pe_op op_add (pv 4) pe_int)) po_none)))) pss_nil)
      (pss_cut (ps_if (PW.pt (pw_and (pt_cmpR op_eq (pv 3) pe_int (nomark _)) (pw_and1 (pt_cmpR op_lt (pv 4) (pe_callB call_len_seq (by rfl) B.len PySem.boot_len (pa_cons (pv 5) pa_nil)) (nomark _))))) (pss_one (ps_asg (pe_op op_sub (pe_ix ix_list (pv 5) (pv 4) (fun _ _ => rfl)) (pe_callB call_len_seq (by rfl) B.len PySem.boot_len (pa_cons (pv 1) pa_nil))) (pg_sub (pv 5) (pv 4) set_list))) pss_nil)
      (pss_cut (ps_if (PW.pt (pw_and (pt_cmpR op_eq (pv 3) pe_int (nomark _)) (pw_and1 (pt_cmpR op_lt (pv 4) (pe_callB call_len_seq (by rfl) B.len PySem.boot_len (pa_cons (pv 5) pa_nil)) (nomark _))))) (pss_one (ps_asg (pe_op op_add (pe_ix ix_list (pv 5) (pv 4) (fun _ _ => rfl)) pe_int) (pg_sub (pv 5) (pv 4) set_list))) pss_nil)
      (pss_cut (ps_if (PW.pt (pw_and (pt_cmpR op_eq (pv 3) pe_int (nomark _)) (pw_and (pt_cmpR op_lt (pv 4) (pe_callB call_len_seq (by rfl) B.len PySem.boot_len (pa_cons (pv 5) pa_nil)) (nomark _)) (pw_and1 (pt_cmpR op_lt (pe_ix ix_list (pv 5) (pv 4) (fun _ _ => rfl)) pe_int (nomark _)))))) (pss_one (ps_asg (pe_cmpR op_eq (pe_ix ix_list (pv 5) (pv 4) (fun _ _ => rfl)) pe_int (nomark _)) (pg_sub (pv 5) (pv 4) set_list))) pss_nil)
      (pss_cut (ps_if (pt_cmpR op_eq (pv 3) pe_int (nomark _)) (pss_one (ps_ret (pv 5))) pss_nil)
      (pss_cut (ps_if (PW.pt (pw_and (pt_cmpR op_eq (pv 3) pe_int (nomark _)) (pw_and1 (pt_cmpR op_lt (pv 4) (pe_callB call_len_seq (by rfl) B.len PySem.boot_len (pa_cons (pv 5) pa_nil)) (nomark _)))))
          (pss_one (ps_asg (pe_ix ix_list (pe_lst (pa_cons pe_non (pa_cons (pe_callTy call_str_int (by rfl) B.str PyProof.Rows.boot_str (pa_cons (pe_ix ix_list (pv 5) (pv 4) (fun _ _ => rfl)) pa_nil)) (pa_cons (pe_tup (pa_cons (pe_ix ix_list (pv 5) (pv 4) (fun _ _ => rfl)) pa_nil)) (pa_cons (pe_lst (pa_cons (pe_ix ix_list (pv 5) (pv 4) (fun _ _ => rfl)) pa_nil)) pa_nil))))) (pe_cal C hr (by rfl) (pa_cons (pv 0) (pa_cons pe_int pa_nil))) (fun _ _ => rfl)) (pg_sub (pv 5) (pv 4) set_list))) pss_nil)
      (pss_cut (ps_if (pt_cmpR op_eq (pv 3) pe_int (nomark _)) (pss_one (ps_ret (pe_ix ix_list (pe_lst (pa_cons pe_non (pa_cons (pe_tup pa_nil) (pa_cons pe_str (pa_cons pe_int (pa_cons pe_dnewK (pa_cons pe_bl (pa_cons (pe_tup (pa_cons (pe_tup (pa_cons pe_int pa_nil)) pa_nil)) pa_nil)))))))) (pe_cal C hr (by rfl) (pa_cons (pv 0) (pa_cons pe_int pa_nil))) (fun _ _ => rfl)))) pss_nil)
      (pss_cut (ps_if (pt_cmpR op_eq (pv 3) pe_int (nomark _)) (pss_one (ps_set (i := 5) scSpoiled.nd rfl (Or.inl rfl) (pe_listRg rfl (by rfl) B.list (prg_1 (by rfl) B.range (pe_callB call_len_seq (by rfl) B.len PySem.boot_len (pa_cons (pv 1) pa_nil)))))) pss_nil)
      (pss_cut (ps_if (pt_cmpR op_eq (pv 3) pe_int (nomark _)) (pss_one (ps_set (i := 5) scSpoiled.nd rfl (Or.inl rfl) (pe_slice sl_list (pv 5) (po_some (pv 4)) po_none))) pss_nil)
      (pss_cut (ps_if (pt_cmpR op_eq (pv 3) pe_int (nomark _)) (pss_one (ps_set (i := 5) scSpoiled.nd rfl (Or.inl rfl) (pe_slice sl_list (pv 5) po_none (po_some (pv 4))))) pss_nil)
      (pss_cut (ps_if (pt_cmpR op_eq (pv 3) pe_int (nomark _)) (pss_one (ps_expr (pe_bm PySem.F.plainAttrs_list PySem.F.slot_list_insert PySem.F.type_list_insert mt_insert (pv 5) (pa_cons (pv 4) (pa_cons (pe_op op_sub (pe_op op_pow pe_int pe_int) (pv 6)) pa_nil))))) pss_nil)
      (pss_one (ps_ret (pe_callTy (call_tupleK (K := K) rfl) (by rfl) B.tuple PyProof.Rows.boot_tuple (pa_cons (pv 5) pa_nil)))))))))))))))))))))), ?_⟩
    clear lenR
    refine ⟨.ref p, rfl, ⟨_, p, q, _, rfl, hP.hd, by decide, by decide, fun H1 kd hP10 hk0 hk1 => ?_⟩⟩
    have hP1 := hP.back hP10
    refine g_name ?_
    refine ⟨.ref p, rfl, .ref c, rfl, c, _, rfl, .inl (sq_of (hP1.ex _ _ hc)), ((cs.map V.int).length : Int), 1, rfl, rfl, ⟨_, p, q, _, rfl, hP1.hd, by omega, by rw [List.length_map]; omega, fun H2 at_ hP20 ha0 ha1 => ?_⟩⟩
    have hP2 := hP1.back hP20
    rw [List.length_map] at ha1
    obtain ⟨m, rfl⟩ : ∃ m : Nat, at_ = (m : Int) := ⟨at_.toNat, by omega⟩
    have hmc : m ≤ cs.length := by omega
    refine g_name ?_
    refine ⟨.ref c, rfl, c, _, rfl, .inl (sq_of (hP2.ex _ _ hc)), fun R0 hR0 => ?_⟩
    have gR0 := fresh_back hP2.ex hR0
    have nR0 := hP2.np hR0
    have hP3 := hP2.ext (Ex.new (o := .lst (cs.map V.int)) hR0)
    have hR3 : (upd H2 R0 (.lst (cs.map V.int))) R0 = some (.lst (cs.map V.int)) := upd_same
    generalize upd H2 R0 (.lst (cs.map V.int)) = H3 at *
    refine g_name ?_
    refine ⟨.ref p, rfl, .ref l, rfl, l, _, rfl, .inl (sq_of (hP3.ex _ _ hl)), (us.length : Int), 1, rfl, rfl, ⟨_, p, q, _, rfl, hP3.hd, by omega, by omega, fun H4 fr hP40 hf0 hf1 => ?_⟩⟩
    have hP4 := hP3.back hP40
    have hR4 := hP40.off _ _ nR0 hR3
    refine g_name ?_
    have hI0 : SpI G p q l c kd m fr cs 0 (sgS p l c kd m R0 fr) H4 := ⟨G, R0, _, _, rfl, Ex.refl _, hP4, gR0, nR0, hR4, DqA.ints cs, by rw [List.length_map]; omega, fun _ => rfl⟩
    have ltE : ∀ {j : Int} (R : Addr) (H1 : Hp), kd = j → H1 R = some (.lst (cs.map V.int)) → EvT (tTest (tOp (rI0 fun i j => .bl (decide (i < j))) (tVar 4) (tCB (rLenS K) (tCons (tVar 5) tNil)))) (sgS p l c kd m R fr) H1 (decide ((m : Int) < (cs.length : Int))) := fun R H1 _ hR => et_test (by
      have z := ev_len (K := K) (ta := tVar 5) (σ := sgS p l c kd m R fr) (H := H1) (ev_var rfl) (sq_of hR)
      rw [List.length_map] at z
      exact ev_op (ev_var rfl) z rv_I0)
    have atE : ∀ {R : Addr} {H1 : Hp}, (h : m < cs.length) → H1 R = some (.lst (cs.map V.int)) → Ev (tOp (rIxL K) (tVar 5) (tVar 4)) (sgS p l c kd m R fr) H1 (.int cs[m]) := fun h hR => ev_op (ev_var rfl) (ev_var rfl) (rv_ixL (sq_of hR) (at_ints h))
    have setE : ∀ {G' : Hp} {R : Addr} {H1 : Hp} {j : Int} {te : TE} {v : V} {d : PyData}, kd = j → m < cs.length → Ex G G' → Pm G' H1 p q → G' R = none → R ≠ p → H1 R = some (.lst (cs.map V.int)) → Ev te (sgS p l c kd m R fr) H1 v → Dq G' v d →
        tAsg te (gSub (tVar 5) (tVar 4) rSetL) { nx := SpI G p q l c kd m fr cs (j + 1), rt := Q } (sgS p l c kd m R fr) H1 := fun {G' R H1 j te v d} hk hm e hP g n hR hv hd =>
      s_setL hR hv (ev_var rfl) (ev_var rfl) (by rw [List.length_map]; exact hm) fun H2 e2 => sp_mut hk e (hP.ext e2) g n (DqA.set hd m (DqA.ints cs)) (by rw [List.length_set, List.length_map]; omega)
    have insE : ∀ {G' : Hp} {R : Addr} {H1 : Hp} {j : Int} {te : TE} {x : Int}, kd = j → Ex G G' → Pm G' H1 p q → G' R = none → R ≠ p → H1 R = some (.lst (cs.map V.int)) → Ev te (sgS p l c kd m R fr) H1 (.int x) →
        tDrop (tBM K "list" (fun x vs H Q => ∃ (l : Addr) (xs : List V) (i : Int) (y : V), x = .ref l ∧ vs = [.int i, y] ∧ H l = some (.lst xs) ∧ xs.length < sizeLine ∧ 0 ≤ i ∧ i < 2 ^ 63 ∧ Q .non (upd H l (.lst (xs.take i.toNat ++ [y] ++ xs.drop i.toNat)))) (tVar 5) (tCons (tVar 4) (tCons te tNil))) { nx := SpI G p q l c kd m fr cs (j + 1), rt := Q } (sgS p l c kd m R fr) H1 := fun {G' R H1 j te x} hk e hP g n hR hv => by
      refine ⟨.ref R, rfl, .inl ⟨rfl, _, sq_of hR⟩, .int (m : Int), rfl, hv H1 (Ex.refl _) _ fun H2 e2 => ?_⟩
      refine ⟨R, _, (m : Int), .int x, rfl, rfl, e2 _ _ hR, by rw [List.length_map, sizeLine_eq]; omega, by omega, by omega, ?_⟩
      rw [Int.toNat_natCast, ← List.map_take, ← List.map_drop, show [V.int x] = [x].map V.int from rfl, ← List.map_append, ← List.map_append]
      exact sp_mut hk e (hP.ext e2) g n (DqA.ints _) (by rw [List.length_map]; simp; omega)
    refine stage2 hI0 ltE (fun G' R H5 hk hb e5 hP5 g n hR => ?_) fun σ1 H5 hI1 => ?_
    · have hm : m < cs.length := by have := of_decide_eq_true hb; omega
      refine ⟨.ref R, rfl, .inl ⟨rfl, _, sq_of hR⟩, .int (m : Int), rfl, R, _, (m : Int), m, .int cs[m], rfl, rfl, hR, by omega, by omega, by rw [List.length_map]; exact seqIx hm, by rw [List.getElem?_map, List.getElem?_eq_getElem hm]; rfl, ?_⟩
      rw [eraseIdx_mp]
      refine sp_mut hk e5 hP5 g n (DqA.ints _) ?_
      rw [List.length_map]
      have := List.length_eraseIdx_le cs m
      omega
    refine stage2 hI1 ltE (fun G' R H6 hk hb e6 hP6 g n hR => ?_) fun σ2 H6 hI2 => ?_
    · have hm : m < cs.length := by have := of_decide_eq_true hb; omega
      exact setE hk hm e6 hP6 g n hR (ev_var rfl) (.int fr)
    refine stage1 hI2 (fun G' R H7 hk e7 hP7 g n hR => insE hk e7 hP7 g n hR (ev_var rfl)) fun σ3 H7 hI3 => ?_
    refine stage2 hI3 ltE (fun G' R H8 hk hb e8 hP8 g n hR => ?_) fun σ4 H8 hI4 => ?_
    · have hm : m < cs.length := by have := of_decide_eq_true hb; omega
      exact insE hk e8 hP8 g n hR (atE hm hR)
    refine stage2 (b2 := decide ((m : Int) + 1 < (cs.length : Int))) hI4 (fun R H1 hk hR => et_test (by
      have z := ev_len (K := K) (ta := tVar 5) (σ := sgS p l c kd m R fr) (H := H1) (ev_var rfl) (sq_of hR)
      rw [List.length_map] at z
      exact ev_op (ev_op (ev_var rfl) ev_c rv_I0) z rv_I0)) (fun G' R H9 hk hb e9 hP9 g n hR => ?_) fun σ5 H9 hI5 => ?_
    · have hm : m + 1 < cs.length := by have := of_decide_eq_true hb; omega
      have at1 := at_ints hm
      rw [show ((m + 1 : Nat) : Int) = (m : Int) + 1 by omega] at at1
      have hL : EvL (tOp rCat (tOp rCat (tSl (rSlL K) (tVar 5) tNoPart (tPart (tVar 4))) (tLst (tCons (tOp (rIxL K) (tVar 5) (tOp (rI0 fun i j => .int (i + j)) (tVar 4) (tC (.int 1)))) (tCons (tOp (rIxL K) (tVar 5) (tVar 4)) tNil)))) (tSl (rSlL K) (tVar 5) (tPart (tOp (rI0 fun i j => .int (i + j)) (tVar 4) (tC (.int 2)))) tNoPart)) (sgS p l c kd m R fr) H9 ((cs.take m ++ [cs[m + 1], cs[m]] ++ cs.drop (m + 2)).map V.int) := by
        have s1 := el_sl (K := K) (te := tVar 5) (σ := sgS p l c kd m R fr) (H := H9) (tl := tNoPart) (th := tPart (tVar 4)) (ev_var rfl) eo_none (eo_some (i := (m : Int)) (ev_var rfl)) (sq_of hR)
        rw [cut_to _ _ (by rw [List.length_map]; omega)] at s1
        have s2 := el_sl (K := K) (te := tVar 5) (σ := sgS p l c kd m R fr) (H := H9) (tl := tPart (tOp (rI0 fun i j => .int (i + j)) (tVar 4) (tC (.int 2)))) (th := tNoPart) (ev_var rfl) (eo_some (i := (m : Int) + 2) (ev_op (ev_var rfl) ev_c rv_I0)) eo_none (sq_of hR)
        rw [show (m : Int) + 2 = ((m + 2 : Nat) : Int) by omega, cut_from _ _ (by rw [List.length_map]; omega)] at s2
        rw [List.map_append, List.map_append, List.map_take, List.map_drop]
        refine el_cat (el_cat s1 (el_lst (ea_cons (ev_op (ev_var rfl) (ev_op (ev_var rfl) ev_c rv_I0) (rv_ixL (sq_of hR) at1)) (ea_cons (atE (by omega) hR) ea_nil)) (by show 2 ≤ 100000; decide)) ?_) s2 ?_
        · simp; omega
        · simp; omega
      exact s_asgL hL fun b H10 hb0 e10 h10 => sp_new hk e9 hP9 e10 hb0 h10 (by simp; omega)
    refine stage2 hI5 ltE (fun G' R H10 hk hb e10 hP10 g n hR => ?_) fun σ6 H10 hI6 => ?_
    · have hm : m < cs.length := by have := of_decide_eq_true hb; omega
      exact setE hk hm e10 hP10 g n hR (ev_op (atE hm hR) (ev_len (ev_var rfl) (sq_of (hP10.ex _ _ (e10 _ _ hl)))) rv_I0) (.int _)
    refine stage2 hI6 ltE (fun G' R H11 hk hb e11 hP11 g n hR => ?_) fun σ7 H11 hI7 => ?_
    · have hm : m < cs.length := by have := of_decide_eq_true hb; omega
      exact setE hk hm e11 hP11 g n hR (ev_op (atE hm hR) ev_c rv_I0) (.int _)
    refine stage2 (b2 := decide ((m : Int) < (cs.length : Int)) && decide (cs.getD m 0 < 2)) hI7 (fun R H1 hk hR => et_and (ltE R H1 hk hR) fun hb => et_test (by
      have hm : m < cs.length := by have := of_decide_eq_true hb; omega
      rw [show cs.getD m 0 = cs[m] by rw [List.getD_eq_getElem?_getD, List.getElem?_eq_getElem hm]; rfl]
      exact ev_op (atE hm hR) ev_c rv_I0)) (fun G' R H12 hk hb e12 hP12 g n hR => ?_) fun σ8 H12 hI8 => ?_
    · have hm : m < cs.length := by have := of_decide_eq_true (Bool.and_eq_true_iff.mp hb).1; omega
      exact setE hk hm e12 hP12 g n hR (ev_op (atE hm hR) ev_c (rv_eq rfl)) (.bl _)
    refine stage1 hI8 (fun G' R H13 hk e13 hP13 g n hR => ?_) fun σ9 H13 hI9 => ?_
    · exact ⟨.ref R, rfl, k _ H13 (.ref R) (.list (cs.map PyData.int)) (e13.trans (Ex.new g)) (hP13.hold hR n g) (.lst upd_same (DqA.ints cs)) (by show ([] : List PyData).length ≤ 62; simp)⟩
    refine stage2 hI9 ltE (fun G' R H14 hk hb e14 hP14 g n hR => ?_) fun σ10 H14 hI10 => ?_
    · have hm : m < cs.length := by have := of_decide_eq_true hb; omega
      have hx := hcr cs[m] (List.getElem_mem hm)
      have at0 := at_ints hm
      generalize cs[m] = x at *
      refine ⟨.ref R, rfl, .int (m : Int), rfl, R, _, (m : Int), .int x, rfl, rfl, sq_of hR, at0, x, rfl, log_small hx.1 (by omega), .ref R, rfl, .int (m : Int), rfl, R, _, (m : Int), .int x, rfl, rfl, sq_of hR, at0, by show 1 ≤ sizeLine; decide, fun t1 ht1 => ?_⟩
      have hP15 := hP14.new (o := .tup [V.int x]) ht1
      have g1 : (upd G' t1 (.tup [V.int x])) R = none := by rw [upd_ne (ne_of_none hR ht1)]; exact g
      have hR15 : (upd H14 t1 (.tup [V.int x])) R = some (.lst (cs.map V.int)) := by rw [upd_ne (ne_of_none hR ht1)]; exact hR
      have gt1 : (upd G' t1 (.tup [V.int x])) t1 = some (.tup [V.int x]) := upd_same
      have eG1 : Ex G' (upd G' t1 (.tup [V.int x])) := Ex.new (fresh_back hP14.ex ht1)
      generalize upd G' t1 (.tup [V.int x]) = G1 at *
      generalize upd H14 t1 (.tup [V.int x]) = H15 at *
      refine ⟨.ref R, rfl, .int (m : Int), rfl, R, _, (m : Int), .int x, rfl, rfl, sq_of hR15, at0, by show 1 ≤ sizeLine; decide, fun t2 ht2 => ?_⟩
      have hP16 := hP15.new (o := .lst [V.int x]) ht2
      have g2 : (upd G1 t2 (.lst [V.int x])) R = none := by rw [upd_ne (ne_of_none hR15 ht2)]; exact g1
      have hR16 : (upd H15 t2 (.lst [V.int x])) R = some (.lst (cs.map V.int)) := by rw [upd_ne (ne_of_none hR15 ht2)]; exact hR15
      have gt2 : (upd G1 t2 (.lst [V.int x])) t2 = some (.lst [V.int x]) := upd_same
      have eG2 : Ex G1 (upd G1 t2 (.lst [V.int x])) := Ex.new (fresh_back hP15.ex ht2)
      generalize upd G1 t2 (.lst [V.int x]) = G2 at *
      generalize upd H15 t2 (.lst [V.int x]) = H16 at *
      refine ⟨by show 4 ≤ sizeLine; decide, fun t3 ht3 => ?_⟩
      have e17 := Ex.new (o := .lst [V.non, .str (toString x), .ref t1, .ref t2]) ht3
      have hP17 := hP16.ext e17
      have hR17 := e17 _ _ hR16
      have nt3 := hP16.np ht3
      have ht3' : (upd H16 t3 (.lst [V.non, .str (toString x), .ref t1, .ref t2])) t3 = some (.lst [V.non, .str (toString x), .ref t1, .ref t2]) := upd_same
      generalize upd H16 t3 (.lst [V.non, .str (toString x), .ref t1, .ref t2]) = H17 at *
      refine ⟨.ref p, rfl, ⟨_, p, q, _, rfl, hP17.hd, by decide, by decide, fun H18 j hP180 hj0 hj1 => ?_⟩⟩
      have hP18 := hP17.back hP180
      have hR18 := hP180.off _ _ n hR17
      have ht18 := hP180.off _ _ nt3 ht3'
      have eG := e14.trans (eG1.trans eG2)
      have fin : ∀ (v : V) (d : PyData), Dq G2 v d → atI [V.non, .str (toString x), .ref t1, .ref t2] j = some v → ∃ a xs i y, V.ref t3 = V.ref a ∧ V.int j = V.int i ∧ SqL K H18 a xs ∧ atI xs i = some y ∧ gSub (tVar 5) (tVar 4) rSetL y (sgS p l c kd m R fr) H18 (SpI G p q l c kd m fr cs (9 + 1)) := fun v d hd hat =>
        ⟨t3, _, j, v, rfl, rfl, sq_of ht18, hat, .ref R, rfl, .int (m : Int), rfl, R, _, (m : Int), m, rfl, rfl, hR18, ixN_nat (by rw [List.length_map]; exact hm), sp_mut hk eG hP18 g2 n (DqA.set hd m (DqA.ints cs)) (by rw [List.length_set, List.length_map]; omega)⟩
      have hj : j = 0 ∨ j = 1 ∨ j = 2 ∨ j = 3 := by omega
      rcases hj with rfl | rfl | rfl | rfl
      · exact fin _ _ .non (atI_nat (j := 0) rfl)
      · exact fin _ _ (.str _) (atI_nat (j := 1) rfl)
      · exact fin _ _ (.tup (eG2 _ _ gt1) (.cons (.int x) .nil)) (atI_nat (j := 2) rfl)
      · exact fin _ _ (.lst gt2 (.cons (.int x) .nil)) (atI_nat (j := 3) rfl)
    refine stage1 hI10 (fun G' R H15 hk e15 hP15 g n hR => ?_) fun σ11 H15 hI11 => ?_
    · refine ix_disp (K := K) (q := q) (ds := [.none, .tuple [], .str "0", .int 0, .dict [], .bool true, .tuple [.tuple [.int 0]]]) (ed_lst (ed_cons (ed_c fun _ => .non) (ed_cons (ed_tup ed_nil (by simp)) (ed_cons (ed_c fun _ => .str _) (ed_cons (ed_c fun _ => .int _) (ed_cons ed_dict (ed_cons (ed_c fun _ => .bl _) (ed_cons (ed_tup (ed_cons (ed_tup (ed_cons (ed_c fun _ => .int _) ed_nil) (by simp)) ed_nil) (by simp)) ed_nil))))))) (by simp)) hP15 rfl rfl (by decide) (by decide) fun G2 H16 v d e16 hP16 hd hv => k G2 H16 v d (e15.trans e16) hP16 hv ?_
      simp only [List.mem_cons, List.not_mem_nil, or_false] at hd
      rcases hd with rfl | rfl | rfl | rfl | rfl | rfl | rfl <;> simp [itemsT]
    refine stage1 hI11 (fun G' R H16 hk e16 hP16 g n hR => ?_) fun σ12 H16 hI12 => ?_
    · refine ⟨.ref l, rfl, l, _, rfl, .inl (sq_of (hP16.ex _ _ (e16 _ _ hl))), (us.length : Int), rfl, RgOk.of_le (by decide) (by omega) (by decide) (by omega), fun b hb => ?_⟩
      have e0 : rgV 0 (us.length : Int) = ((List.range us.length).map fun (i : Nat) => (i : Int)).map V.int := by
        unfold rgV
        rw [show ((us.length : Int) - 0).toNat = us.length by omega, List.map_map]
        refine List.map_congr_left fun i _ => ?_
        show V.int ((0 : Int) + (i : Int)) = V.int (i : Int)
        rw [Int.zero_add]
      rw [e0]
      exact sp_new hk e16 hP16 (Ex.new hb) hb upd_same (by simp; omega)
    refine stage1 hI12 (fun G' R H17 hk e17 hP17 g n hR => ?_) fun σ13 H17 hI13 => ?_
    · have s2 := el_sl (K := K) (te := tVar 5) (σ := sgS p l c kd m R fr) (H := H17) (tl := tPart (tVar 4)) (th := tNoPart) (ev_var rfl) (eo_some (i := (m : Int)) (ev_var rfl)) eo_none (sq_of hR)
      rw [cut_from _ _ (by rw [List.length_map]; omega), ← List.map_drop] at s2
      exact s_asgL s2 fun b H18 hb0 e18 h18 => sp_new hk e17 hP17 e18 hb0 h18 (by simp; omega)
    refine stage1 hI13 (fun G' R H18 hk e18 hP18 g n hR => ?_) fun σ14 H18 hI14 => ?_
    · have s1 := el_sl (K := K) (te := tVar 5) (σ := sgS p l c kd m R fr) (H := H18) (tl := tNoPart) (th := tPart (tVar 4)) (ev_var rfl) eo_none (eo_some (i := (m : Int)) (ev_var rfl)) (sq_of hR)
      rw [cut_to _ _ (by rw [List.length_map]; omega), ← List.map_take] at s1
      exact s_asgL s1 fun b H19 hb0 e19 h19 => sp_new hk e18 hP18 e19 hb0 h19 (by simp; omega)
    refine stage1 hI14 (fun G' R H19 hk e19 hP19 g n hR => insE hk e19 hP19 g n hR (ev_op (x := .int ((10 : Int) ^ (20 : Int).toNat)) (fun H3 e3 Q3 q3 => ⟨10, 20, rfl, rfl, ⟨by decide, by decide, by decide⟩, q3 H3 (Ex.refl _)⟩) (ev_var rfl) rv_I0)) fun σ15 H19 hI15 => ?_
    obtain ⟨G', R, vs, es, rfl, e20, hP20, g, n, hR, hd, hl20, _⟩ := hI15
    refine ⟨.ref R, rfl, R, vs, rfl, .inl ⟨sq_of hR, fun t ht => ?_⟩⟩
    exact k _ _ (.ref t) (.tuple es) (e20.trans (Ex.new (fresh_back hP20.ex ht))) (hP20.new ht) (.tup upd_same (hd.mono (Ex.new (fresh_back hP20.ex ht)))) hl20
end
end Wk

set_option Elab.async false
set_option linter.all false
set_option maxRecDepth 100000
set_option maxHeartbeats 4000000
namespace Wk
open PySem PySem.Spec PyProof.Rows L2 Evl
theorem getLast_atI {α : Type} {xs : List α} {x : α} (h : xs.getLast? = some x) : atI xs (-1) = some x := by
  obtain ⟨ys, rfl⟩ : ∃ ys, xs = ys ++ [x] := by
    cases xs with
    | nil => cases h
    | cons y l =>
      refine ⟨(y :: l).dropLast, ?_⟩
      have := List.dropLast_concat_getLast (l := y :: l) (by simp)
      rw [List.getLast?_eq_some_getLast (by simp)] at h
      cases h
      exact this.symm
  exact atI_last ys x
theorem k_bb : kitB "bool" "bool" = some true := by decide +kernel
theorem fol_last {ds : List Deed} : ∀ {r : List Int} {h e : Int} {j : Int}, fol ds h r = some e → r.getLast? = some j → ∃ a b : Nat, ds[j.toNat]? = some (.pas a b) ∧ e = (b : Int)
  | [], _, _, _, _, hl => by simp at hl
  | [i], h, e, j, hf, hl => by
    have hl' : i = j := by simpa using hl
    subst hl'
    unfold fol at hf
    split at hf
    · rename_i a b hx
      split at hf
      · exact ⟨a, b, hx, by simpa [fol] using hf.symm⟩
      · cases hf
    · cases hf
  | i :: i2 :: r, h, e, j, hf, hl => by
    unfold fol at hf
    split at hf
    · split at hf
      · exact fol_last hf (by simpa [List.getLast?_cons_cons] using hl)
      · cases hf
    · cases hf
theorem ChB.yes {ds : List Deed} {cs : List Int} {i : Nat} {r : List Int} {x y : Nat} {e : Int} (h : ChB ds cs i r x y e) : chB ds (x : Int) e (.tuple (cs.map PyData.int)) = true := by
  have h1 : wi (.tuple (cs.map PyData.int)) = cs := wi_wd cs
  have h2 : (itemsT (.tuple (cs.map PyData.int))).all (isR (ds.length : Int)) = true := by
    show (cs.map PyData.int).all _ = true
    rw [List.all_eq_true]
    intro d hd
    obtain ⟨z, hz, rfl⟩ := List.mem_map.mp hd
    have := h.rg z hz
    show (true && (decide (0 ≤ z) && decide (z ≤ (ds.length : Int) - 1))) = true
    rw [decide_eq_true this.1, decide_eq_true (show z ≤ (ds.length : Int) - 1 by omega)]
    rfl
  unfold chB
  rw [h2, h1, h.eq, chI_cons (x := .wri x y) (by rw [Int.toNat_natCast]; exact h.at_), h.fo]
  have h3 : (((i : Int) :: r).Pairwise (· ≤ ·)) := by
    rw [← h.eq]
    exact h.asc.imp fun z => by omega
  rw [decide_eq_true h3]
  show (true && (true && ((true && (true && decide ((x : Int) = (x : Int)))) && decide (some e = some e)))) = true
  simp
theorem deed_eqv (x : Deed) : PyData.eqv x.d x.d = true := by
  cases x <;> simp [Deed.d, Deed.ds, PyData.eqv, PyData.eqvAll]
theorem deeds_eqv : ∀ ds : List Deed, PyData.eqvAll (ds.map Deed.d) (ds.map Deed.d) = true
  | [] => rfl
  | x :: l => by
    show (PyData.eqv x.d x.d && PyData.eqvAll (l.map Deed.d) (l.map Deed.d)) = true
    rw [deed_eqv, deeds_eqv l]
    rfl
theorem deed_lay (x : Deed) : x.d.canLay0 = true := by
  have h := x.word_ok
  cases x <;> simp [Deed.d, Deed.ds, PyData.canLay0, PyData.canLayAll0] <;> exact h
theorem deed_dep (x : Deed) : x.d.depth ≤ 1 := by
  cases x <;> simp [Deed.d, Deed.ds, PyData.depth, PyData.depthAll]
theorem deeds_shaped (ds : List Deed) : SeqAt.shaped (.list (ds.map Deed.d)) = true := by
  unfold SeqAt.shaped
  have h1 : PyData.canLayAll0 (ds.map Deed.d) = true := layAll.mpr fun d hd => by
    obtain ⟨x, _, rfl⟩ := List.mem_map.mp hd
    exact deed_lay x
  have h2 : PyData.depthAll (ds.map Deed.d) ≤ 1 := depAll.mpr fun d hd => by
    obtain ⟨x, _, rfl⟩ := List.mem_map.mp hd
    exact deed_dep x
  have : decide ((PyData.list (ds.map Deed.d)).depth ≤ 64) = true := decide_eq_true (by simp only [PyData.depth]; omega)
  rw [this]
  simp [PyData.canLay0, h1]
theorem wds_hd {H : Hp} {p : Addr} {xs us : List V} {ws : List Wy} (hp : H p = some (.lst xs)) (h : DqA H us (ws.map wd)) : DqA (Hd1 H p) us (ws.map wd) := by
  obtain ⟨ks, k1, k2, k3⟩ := wds_ks h
  rw [k1, ← k2]
  refine ks_wds fun q hq => ?_
  have := k3 q hq
  rw [hd1_at (fun z => by rw [z, hp] at this; cases this)]
  exact this
section
variable {P : Program} {w : World} {K : PySem.W.Frag} {mg : Str → Option Value} {base : Heap} {f : Addr} {fd : FuncData}
/-! law -/
def spLaw (K : PySem.W.Frag) : Sp := fun vs H Q _ => ∃ (a : Addr) (ns : List Int), vs = [.ref a] ∧ SqL K H a (ns.map V.int) ∧ ns.length ≤ 63 ∧ ∀ H', Q (.bl true) H'
abbrev sLaw : Stmt := top 17
abbrev nLaw : List Str := ["_law_script", "_law_pool_here", "_law_size", "_law_links_here", "_law_pairs_here", "_law_deeds", "_law_k", "_law_chain", "_law_r", "_law_b", "_law_thing", "_law_handed", "_law_told"]
theorem scLaw : FnScope nLaw ["_law_script"] (defScope sLaw) := ⟨rfl, rfl, rfl, by decide +kernel, rfl, by decide +kernel, by decide +kernel⟩
structure Cs (P : Program) (w : World) (K : PySem.W.Frag) (mg : Str → Option Value) (base : Heap) : Prop where
  pool : Cal P w K mg base "_law_pool" ["_law_script"] 1 (spPool K)
  draw : Cal P w K mg base "_law_draw" ["_law_pool_here", "_law_limit"] 2 spDraw
  links : Cal P w K mg base "_law_links" ["_law_pool_here", "_law_size"] 4 spLinks
  pairs : Cal P w K mg base "_law_pairs" ["_law_links_here"] 1 spPairs
  deed : Cal P w K mg base "_law_deed" ["_law_pool_here", "_law_size", "_law_pairs_here", "_law_restarts"] 3 spDeed
  built : Cal P w K mg base "_law_built" ["_law_pool_here", "_law_deeds"] 3 spBuilt
  spoiled : Cal P w K mg base "_law_spoiled" ["_law_pool_here", "_law_deeds", "_law_chain"] 3 spSpoiled
  chain : Cal P w K mg base "is_chain" ["size", "links", "deeds", "r", "b", "thing"] 3 spChain
  lchain : Cal P w K mg base "_law_is_chain" ["_law_deeds", "_law_r", "_law_b", "_law_thing"] 2 spLChain
theorem ok_law (B : Bl mg) (S : Cs P w K mg base) (F : FnP K "law" sLaw f fd) : FnOk P w K mg base CX0 5 f fd ["_law_script"] (spLaw K) := by
  refine F.ok scLaw (fun vs H Q E h => ?_) (fun cdv A outer s H vs Q E hr h => ?_)
  · obtain ⟨a, ns, rfl, _⟩ := h
    rfl
  · obtain ⟨a0, ns, rfl, hS, hns, k⟩ := h
    have hu0 : (A.deeper (envOfC "law" (defScope sLaw) s.heap.objs.size f cdv)).units + 64 < cLine := by have := hr.un; omega
    refine ⟨_, pss_cons (ps_set (i := 1) scLaw.nd rfl (Or.inr rfl) (pe_cal S.pool hr (by rfl) (pa_cons (pv 0) pa_nil)))
      (pss_cons (ps_set (i := 2) scLaw.nd rfl (Or.inr rfl) (pe_op op_add pe_int (pe_cal S.draw hr (by rfl) (pa_cons (pv 1) (pa_cons pe_int pa_nil)))))
      (pss_cons (ps_set (i := 3) scLaw.nd rfl (Or.inl rfl) (pe_cal S.links hr (by rfl) (pa_cons (pv 1) (pa_cons (pv 2) pa_nil))))
      (pss_cons (ps_set (i := 4) scLaw.nd rfl (Or.inr rfl) (pe_cal S.pairs hr (by rfl) (pa_cons (pv 3) pa_nil)))
      (pss_cons (ps_setLc (i := 5) (own := [("_law_k", 6)]) (g := gName 6) (tt := tYes) rfl scLaw.nd rfl rfl (sw_true rfl rfl rfl (by decide +kernel)) (pi_range1 (by rfl) B.range (pa_cons (pe_cal S.draw hr (by rfl) (pa_cons (pv 1) (pa_cons pe_int pa_nil))) pa_nil)) (blkOk_by (N := nLaw) (sc := defScope sLaw) (by decide +kernel))
          (fun _ _ _ _ _ => pg_name (i := 6) scLaw.nd rfl (Or.inl rfl)) (fun _ _ _ _ _ => pts_nil) (fun _ _ _ _ _ => pe_cal S.deed hr (by rfl) (pa_cons (pv 1) (pa_cons (pv 2) (pa_cons (pv 4) (pa_cons pe_bl pa_nil))))))
      (pss_cons (ps_set (i := 7) scLaw.nd rfl (Or.inl rfl) (pe_cal S.built hr (by rfl) (pa_cons (pv 1) (pa_cons (pv 5) pa_nil))))
      (pss_cons (ps_set (i := 8) scLaw.nd rfl (Or.inl rfl) (pe_cal S.draw hr (by rfl) (pa_cons (pv 1) (pa_cons (pv 2) pa_nil))))
      (pss_cons (ps_set (i := 9) scLaw.nd rfl (Or.inl rfl) (pe_cal S.draw hr (by rfl) (pa_cons (pv 1) (pa_cons (pv 2) pa_nil))))
      (pss_cut (ps_if (PW.pt (pw_and (pt_cmpR op_gt (pe_callB call_len_seq (by rfl) B.len PySem.boot_len (pa_cons (pv 7) pa_nil)) pe_int (nomark _)) (pw_and1 (pt_cmpR op_gt (pe_cal S.draw hr (by rfl) (pa_cons (pv 1) (pa_cons pe_int pa_nil))) pe_int (nomark _)))))
          (pss_cons (ps_set (i := 8) scLaw.nd rfl (Or.inl rfl) (pe_ix ix_tup (pe_ix ix_list (pv 5) (pe_ix ix_list (pv 7) pe_int (fun _ _ => rfl)) (fun _ _ => rfl)) pe_int (fun _ _ => rfl)))
          (pss_cons (ps_set (i := 9) scLaw.nd rfl (Or.inl rfl) (pe_ix ix_tup (pe_ix ix_list (pv 5) (pe_ix ix_list (pv 7) (pe_un un_neg pe_int) (fun _ _ => rfl)) (fun _ _ => rfl)) (pe_un un_neg pe_int) (fun _ _ => rfl)))
          (pss_cons (ps_if (pt_cmpR op_eq (pe_callB call_len_seq (by rfl) B.len PySem.boot_len (pa_cons (pv 7) pa_nil)) pe_int (nomark _)) (pss_one (ps_set (i := 9) scLaw.nd rfl (Or.inl rfl) (pv 8))) pss_nil)
          (pss_one (ps_if (pt_cmpR op_notBl (pe_cal S.chain hr (by rfl) (pa_cons (pv 2) (pa_cons (pv 3) (pa_cons (pv 5) (pa_cons (pv 8) (pa_cons (pv 9) (pa_cons (pe_callTy (call_tupleK (K := K) rfl) (by rfl) B.tuple PyProof.Rows.boot_tuple (pa_cons (pv 7) pa_nil)) pa_nil))))))) pe_bl (nomark _)) (pss_one (ps_ret pe_bl)) pss_nil))))) pss_nil)
      (pss_cons (ps_for (passes_of rfl) rfl (pi_list (pe_lst (pa_cons (pe_callTy (call_tupleK (K := K) rfl) (by rfl) B.tuple PyProof.Rows.boot_tuple (pa_cons (pv 7) pa_nil)) (pa_cons (pe_cal S.spoiled hr (by rfl) (pa_cons (pv 1) (pa_cons (pv 5) (pa_cons (pv 7) pa_nil)))) (pa_cons (pe_cal S.spoiled hr (by rfl) (pa_cons (pv 1) (pa_cons (pv 5) (pa_cons (pv 7) pa_nil)))) pa_nil))))) (pg_name (i := 10) scLaw.nd rfl (Or.inl rfl))
          (pss_cons (ps_set (i := 11) scLaw.nd rfl (Or.inl rfl) (pe_callTy (call_listK2 (K := K) rfl) (by rfl) B.list PyProof.Rows.boot_list (pa_cons (pv 5) pa_nil)))
          (pss_cons (ps_set (i := 12) scLaw.nd rfl (Or.inl rfl) (pe_cal S.chain hr (by rfl) (pa_cons (pv 2) (pa_cons (pe_callTy (call_listK2 (K := K) rfl) (by rfl) B.list PyProof.Rows.boot_list (pa_cons (pv 3) pa_nil)) (pa_cons (pv 11) (pa_cons (pv 8) (pa_cons (pv 9) (pa_cons (pv 10) pa_nil))))))))
          (pss_one (ps_if (PW.pt (pw_or (pt_not (pt_val (pe_callB call_isi (by rfl) B.isi boot_isinstance (pa_cons (pv 12) (pa_cons (pe_bltn (v := .ty "bool") (by rfl) B.bool PyProof.Rows.boot_bool rfl) pa_nil)))))
              (pw_or (pt_cmpR op_ne (pv 12) (pe_cal S.lchain hr (by rfl) (pa_cons (pv 5) (pa_cons (pv 8) (pa_cons (pv 9) (pa_cons (pv 10) pa_nil))))) (nomark _))
                (pw_or1 (pt_cmpR (op_neD hu0) (pv 11) (pv 5) (nomark _)))))) (pss_one (ps_ret pe_bl)) pss_nil)))))
      (pss_one (ps_ret pe_bl))))))))))), ?_⟩
    refine ⟨.ref a0, rfl, a0, ns, rfl, hS, hns, fun G1 H1 p q _ hP1 => ?_⟩
    refine g_name ?_
    refine ⟨.ref p, rfl, ⟨_, p, q, _, rfl, hP1.hd, by decide, by decide, fun H2 y h2 hy0 hy1 => ⟨1, y, rfl, rfl, ?_⟩⟩⟩
    have hP2 := hP1.back h2
    obtain ⟨n, hn⟩ : ∃ n : Nat, (1 : Int) + y = (n : Int) := ⟨(1 + y).toNat, by omega⟩
    refine g_name ?_
    dsimp only
    rw [hn]
    have hn1 : 1 ≤ n := by omega
    have hn8 : n ≤ 8 := by omega
    refine ⟨.ref p, rfl, .int (n : Int), rfl, G1, p, q, n, rfl, hP2, hn1, hn8, fun G3 H3 lk us0 prs e13 hP3 glk hus0 hprs hpl => ?_⟩
    refine g_name ?_
    have hprs8 : ∀ w ∈ prs, PrOk 8 w := fun w hw => by
      obtain ⟨u, v, e, h1, h2, h3⟩ := hprs w hw
      exact ⟨u, v, e, by omega, by omega, h3⟩
    refine ⟨.ref lk, rfl, lk, us0, prs, rfl, hP3.ex _ _ glk, hus0.mono hP3.ex, hprs8, hpl, fun H4 l us e34 hl0 hl hus => ?_⟩
    refine g_name ?_
    have hP4 := hP3.ext e34
    obtain ⟨_, _, _, hpp, _⟩ := hP4.at_
    have nlp := hP3.np hl0
    have gl : (Hd1 H4 p) l = some (.lst us) := by rw [hd1_at nlp]; exact hl
    have hus4 := wds_hd hpp hus
    have hP5 := hP4.hd
    have glk4 : (Hd1 H4 p) lk = some (.lst us0) := hP4.sub _ _ glk
    generalize Hd1 H4 p = G4 at *
    have hjs := join_ok hn8 hprs
    have hjl := asc_len (prs ++ prs.map swW)
    have hjl : (joinW prs).length ≤ 64 := hjl
    generalize joinW prs = js at *
    clear hus hpp hl hl0 e34 hP4 hP3 glk hus0 hprs hprs8 hpl hP2 h2
    change tSeq _ _ _ [some (.ref a0), some (.ref p), some (.int (n : Int)), some (.ref lk), some (.ref l), none, none, none, none, none, none, none, none] H4
    refine ⟨.ref p, rfl, ⟨_, p, q, _, rfl, hP5.hd, by decide, by decide, fun H5 m h5 hm0 hm1 => ⟨m, rfl, by omega, by omega, fun D hD => ?_⟩⟩⟩
    have hP6 := hP5.back h5
    have gD := fresh_back hP6.ex hD
    have nD := hP6.np hD
    refine lc_range (lo := 0) (n := m.toNat) (fun i H' => ∃ (G' : Hp) (us : List V) (ds : List Deed), Ex G4 G' ∧ Pm G' H' p q ∧ G' D = none ∧ H' D = some (.lst us) ∧ DqA G' us (ds.map Deed.d) ∧ ds.length = i ∧ ∀ x ∈ ds, x.ok n js false) ⟨G4, [], [], Ex.refl _, hP6.ext (Ex.new hD), gD, upd_same, .nil, rfl, fun x hx => by cases hx⟩ ?_ ?_
    · rintro i H7 hi ⟨G7, us7, ds, e47, hP7, gD7, hD7, hus7, hdl, hok⟩
      have hul := hus7.length
      rw [List.length_map] at hul
      have hP7h := hP7.hold hD7 nD gD7
      have eD7 : Ex G7 (upd G7 D (.lst us7)) := Ex.new gD7
      refine ⟨rfl, .ref p, rfl, .int (n : Int), rfl, .ref l, rfl, _, p, q, l, n, us, js, false, rfl, hP7h, hn1, hn8, eD7 _ _ (e47 _ _ gl), (hus4.mono e47).mono eD7, hjs, hjl, fun H8 t x ht hP8h hx => ?_⟩
      have nDt : D ≠ t := ne_of_none hD7 ht
      have gt := fresh_back hP7.ex ht
      have eg : Ex G7 (upd G7 t (.tup x.vs)) := Ex.new gt
      have hD8 : H8 D = some (.lst us7) := hP8h.ex _ _ (by rw [upd_ne nDt]; exact upd_same)
      have hP8 : Pm (upd G7 t (.tup x.vs)) H8 p q := hP8h.less (fun a o ha => by
        by_cases c : a = t
        · rw [c, upd_same] at ha ⊢
          exact ha
        · rw [upd_ne c] at ha ⊢
          exact eD7 _ _ ha) (by
        obtain ⟨cs, h0, h1⟩ := hP7.gq
        exact ⟨cs, eg _ _ h0, h1⟩)
      refine ⟨us7, hD8, by rw [sizeLine_eq]; omega, upd G7 t (.tup x.vs), us7 ++ [.ref t], ds ++ [x], e47.trans eg, hP8.mut (by rw [upd_ne nDt]; exact gD7) nD, by rw [upd_ne nDt]; exact gD7, upd_same, ?_, by simp [hdl], fun z hz => ?_⟩
      · rw [List.map_append]
        exact (hus7.mono eg).append (.cons (Deed.dq upd_same) .nil)
      · rcases List.mem_append.mp hz with c | c
        · exact hok z c
        · rw [List.mem_singleton.mp c]
          exact hx
    rintro H7 ⟨G7, us7, ds, e47, hP7, gD7, hD7, hus7, hdl, hok⟩
    have hul := hus7.length
    rw [List.length_map] at hul
    have hd60 : ds.length ≤ 60 := by omega
    have hpo : PasOk ds := fun i a b hi => by
      obtain ⟨u, v, e, _, _, h3⟩ := hjs _ (hok _ (List.mem_of_getElem? hi))
      injection e with e1 e2
      injection e2 with e2 _
      omega
    have hP8 := hP7.hold hD7 nD gD7
    have eD7 : Ex G7 (upd G7 D (.lst us7)) := Ex.new gD7
    have hGD : (upd G7 D (.lst us7)) D = some (.lst us7) := upd_same
    have hus8 := hus7.mono eD7
    have glk8 := eD7 _ _ (e47 _ _ glk4)
    generalize upd G7 D (.lst us7) = G8 at *
    clear hP7 hD7 gD7 hus7 eD7 e47 hP6 gD hD hus4 gl glk4 hP5 h5 hjs hjl hok hP1
    refine ⟨.ref p, rfl, .ref D, rfl, G8, p, q, D, us7, ds, rfl, hP8, hGD, hus8, hd60, fun H9 c cs hP9 hc0 ncp hc hB => ?_⟩
    refine g_name ?_
    have gc := fresh_back hP8.ex hc0
    have hP10 := hP9.hold hc ncp gc
    have eC : Ex G8 (upd G8 c (.lst (cs.map V.int))) := Ex.new gc
    have hGc : (upd G8 c (.lst (cs.map V.int))) c = some (.lst (cs.map V.int)) := upd_same
    have hGD := eC _ _ hGD
    have hus9 := hus8.mono eC
    have glk9 := eC _ _ glk8
    generalize upd G8 c (.lst (cs.map V.int)) = G9 at *
    clear hP9 hP8 hc hc0 gc eC hus8 glk8
    refine ⟨.ref p, rfl, .int (n : Int), rfl, ⟨_, p, q, _, rfl, hP10.hd, by omega, by omega, fun H10 r h10 _ _ => ?_⟩⟩
    have hP11 := hP10.back h10
    refine g_name ?_
    refine ⟨.ref p, rfl, .int (n : Int), rfl, ⟨_, p, q, _, rfl, hP11.hd, by omega, by omega, fun H11 b h11 _ _ => ?_⟩⟩
    have hP12 := hP11.back h11
    refine g_name ?_
    change tCut _ _ _ [some (.ref a0), some (.ref p), some (.int (n : Int)), some (.ref lk), some (.ref l), some (.ref D), none, some (.ref c), some (.int r), some (.int b), none, none, none] H11
    have hcr : ∀ x ∈ cs, 0 ≤ x ∧ x < 60 := fun x hx => by
      rcases hB with rfl | ⟨i, r', x', y', e, hB⟩
      · cases hx
      · have := hB.rg x hx
        omega
    have hcl : cs.length ≤ 60 := by
      rcases hB with rfl | ⟨i, r', x', y', e, hB⟩
      · simp
      · have h1 : cs.Nodup := hB.asc.imp fun z => by omega
        have h2 := nd_le cs ((List.range 60).map fun (i : Nat) => (i : Int)) h1 fun x hx => by
          have := hcr x hx
          exact List.mem_map.mpr ⟨x.toNat, List.mem_range.mpr (by omega), by omega⟩
        simpa using h2
    refine q_cut (M := fun σ' H' => ∃ (r b : Int), σ' = [some (.ref a0), some (.ref p), some (.int (n : Int)), some (.ref lk), some (.ref l), some (.ref D), none, some (.ref c), some (.int r), some (.int b), none, none, none] ∧ Pm G9 H' p q) ?_ ?_
    · refine if_and (a := decide ((cs.length : Int) > 0)) (et_test (by
        have z := ev_len (K := K) (ta := tVar 7) (σ := [some (.ref a0), some (.ref p), some (.int (n : Int)), some (.ref lk), some (.ref l), some (.ref D), none, some (.ref c), some (.int r), some (.int b), none, none, none]) (H := H11) (ev_var rfl) (sq_of (hP12.ex _ _ hGc))
        rw [List.length_map] at z
        exact ev_op z ev_c rv_I0)) (fun _ H12 e12 => ⟨r, b, rfl, hP12.ext e12⟩) (fun h0 H12 e12 => ?_)
      have hP13 := hP12.ext e12
      refine ⟨.ref p, rfl, ⟨_, p, q, _, rfl, hP13.hd, by decide, by decide, fun H13 y3 h13 _ _ => ⟨y3, 0, rfl, rfl, _, rfl, ?_⟩⟩⟩
      have hP14 := hP13.back h13
      refine ite2 (fun _ => ?_) (fun _ => ⟨r, b, rfl, hP14⟩)
      rcases hB with rfl | ⟨i, r', x, y', e, hB⟩
      · exact absurd (of_decide_eq_true h0) (by simp)
      have hil : i < ds.length := (List.getElem?_eq_some_iff.mp hB.at_).1
      have hdi : ds[i] = .wri x y' := (List.getElem?_eq_some_iff.mp hB.at_).2
      have evd : ∀ {H1 : Hp} {σ : L2.St} {te tj : TE} {i : Nat} {j : Int} {v : V}, Ex G9 H1 → (hi : i < ds.length) → σ[5]? = some (some (.ref D)) → Ev te σ H1 (.int (i : Int)) → Ev tj σ H1 (.int j) → atI ds[i].vs j = some v → Ev (tOp (rIxT K) (tOp (rIxL K) (tVar 5) te) tj) σ H1 v := fun {H1 σ te tj i j v} e hi h1 h3 h4 hv => by
        obtain ⟨t, ht1, ht2⟩ := deeds_at hus9 hi
        exact ev_op (ev_op (ev_var h1) h3 (rv_ixL (sq_of (e _ _ hGD)) (atI_nat ht1))) h4 (rv_ixT (st_of (e _ _ ht2)) hv)
      have hc14 := hP14.ex _ _ hGc
      refine q_asg (v := .int (x : Int)) (evd hP14.ex hil rfl (ev_op (ev_var rfl) ev_c (rv_ixL (sq_of hc14) (by rw [hB.eq]; exact atI_nat (j := 0) rfl))) ev_c (by rw [hdi]; exact atI_nat (j := 1) rfl)) fun H15 e15 => ?_
      have hP15 := hP14.ext e15
      have hc15 := e15 _ _ hc14
      change tSeq _ _ _ [some (.ref a0), some (.ref p), some (.int (n : Int)), some (.ref lk), some (.ref l), some (.ref D), none, some (.ref c), some (.int (x : Int)), some (.int b), none, none, none] H15
      have fin : ∀ (H' : Hp), Pm G9 H' p q → tIfS (tTest (tOp rNotB (tCall spChain [] E0 (tCons (tVar 2) (tCons (tVar 3) (tCons (tVar 5) (tCons (tVar 8) (tCons (tVar 9) (tCons (tCB (fun xs H Q => ∃ p ys, xs = [.ref p] ∧ ((SqL K H p ys ∧ ∀ l, H l = none → Q (.ref l) (upd H l (.tup ys))) ∨ (SqT K H p ys ∧ Q (.ref p) H))) (tCons (tVar 7) tNil)) tNil))))))) (tC (.bl true)))) (tRet (tC (.bl false))) tNext
          { nx := fun σ' H' => ∃ (r b : Int), σ' = [some (.ref a0), some (.ref p), some (.int (n : Int)), some (.ref lk), some (.ref l), some (.ref D), none, some (.ref c), some (.int r), some (.int b), none, none, none] ∧ Pm G9 H' p q, rt := Q } [some (.ref a0), some (.ref p), some (.int (n : Int)), some (.ref lk), some (.ref l), some (.ref D), none, some (.ref c), some (.int (x : Int)), some (.int e), none, none, none] H' := fun H' hP' => by
        have hc' := hP'.ex _ _ hGc
        refine ⟨.int (n : Int), rfl, .ref lk, rfl, .ref D, rfl, .int (x : Int), rfl, .int e, rfl, .ref c, rfl, c, _, rfl, .inl ⟨sq_of hc', fun t ht => ?_⟩⟩
        have et := Ex.new (o := .tup (cs.map V.int)) ht
        refine ⟨.bl (chB ds (x : Int) e (.tuple (cs.map PyData.int))), ⟨.int (n : Int), .ref lk, .ref t, D, us7, ds, (x : Int), e, .tuple (cs.map PyData.int), rfl, et _ _ (hP'.ex _ _ hGD), hus9.mono (hP'.ex.trans et), hd60, .tup upd_same (DqA.ints cs), by show (cs.map PyData.int).length ≤ 62; rw [List.length_map]; omega, rfl⟩, fun H2 e2 => ⟨_, _, rfl, rfl, _, rfl, ?_⟩⟩
        rw [hB.yes]
        dsimp only
        rw [if_neg (by simp)]
        exact ⟨(x : Int), e, rfl, (hP'.ext et).ext e2⟩
      have lenE : ∀ {H' : Hp} {o9 : Option V}, H' c = some (.lst (cs.map V.int)) → EvT (tTest (tOp rEq (tCB (rLenS K) (tCons (tVar 7) tNil)) (tC (.int 1)))) [some (.ref a0), some (.ref p), some (.int (n : Int)), some (.ref lk), some (.ref l), some (.ref D), none, some (.ref c), some (.int (x : Int)), o9, none, none, none] H' (decide (V.int (cs.length : Int) = V.int 1)) := fun {H' o9} hc' => et_test (by
        have z := ev_len (K := K) (ta := tVar 7) (σ := [some (.ref a0), some (.ref p), some (.int (n : Int)), some (.ref lk), some (.ref l), some (.ref D), none, some (.ref c), some (.int (x : Int)), o9, none, none, none]) (H := H') (ev_var rfl) (sq_of hc')
        rw [List.length_map] at z
        exact ev_op z ev_c (rv_eq rfl))
      have lastE : ∀ {H' : Hp} {o9 : Option V} {j : Int}, H' c = some (.lst (cs.map V.int)) → cs.getLast? = some j → Ev (tOp (rIxL K) (tVar 7) (tUn (fun x H Q => ∃ i, x = .int i ∧ Q (.int (-i)) H) (tC (.int 1)))) [some (.ref a0), some (.ref p), some (.int (n : Int)), some (.ref lk), some (.ref l), some (.ref D), none, some (.ref c), some (.int (x : Int)), o9, none, none, none] H' (.int j) := fun hc' hl => ev_op (ev_var rfl) (ev_un ev_c ru_neg) (rv_ixL (sq_of hc') (getLast_atI (by rw [List.getLast?_map, hl]; rfl)))
      cases r' with
      | nil =>
        have hcs := hB.eq
        have he : e = (x : Int) := by
          have := hB.fo
          simp [fol] at this
          omega
        refine q_asg (v := .int (y' : Int)) (evd hP15.ex hil rfl (lastE hc15 (by rw [hcs]; rfl)) (ev_un ev_c ru_neg) (by rw [hdi]; exact getLast_atI rfl)) fun H16 e16 => ?_
        change tSeq _ _ _ [some (.ref a0), some (.ref p), some (.int (n : Int)), some (.ref lk), some (.ref l), some (.ref D), none, some (.ref c), some (.int (x : Int)), some (.int (y' : Int)), none, none, none] H16
        refine q_when (b := true) (et_is (lenE (e16 _ _ hc15)) (by rw [hcs]; rfl)) (fun _ H17 e17 => ?_) (fun z => by cases z)
        refine s_asg (v := .int (x : Int)) (ev_var rfl) fun H18 e18 => ?_
        have z := fin H18 (hP15.ext ((e16.trans e17).trans e18))
        rw [he] at z
        exact z
      | cons i2 r2 =>
        have hcs := hB.eq
        obtain ⟨j, hj⟩ : ∃ j, (i2 :: r2).getLast? = some j := ⟨_, List.getLast?_eq_some_getLast (by simp)⟩
        obtain ⟨a', b', hja, hje⟩ := fol_last hB.fo hj
        have hjm : j ∈ cs := by rw [hcs]; exact List.mem_cons_of_mem _ (List.mem_of_getLast? hj)
        have hjr := hB.rg j hjm
        obtain ⟨jn, rfl⟩ : ∃ m : Nat, j = (m : Int) := ⟨j.toNat, by omega⟩
        rw [Int.toNat_natCast] at hja
        have hjl : jn < ds.length := (List.getElem?_eq_some_iff.mp hja).1
        have hdj : ds[jn] = .pas a' b' := (List.getElem?_eq_some_iff.mp hja).2
        refine q_asg (v := .int (b' : Int)) (evd hP15.ex hjl rfl (lastE hc15 (by rw [hcs, List.getLast?_cons_cons]; exact hj)) (ev_un ev_c ru_neg) (by rw [hdj]; exact getLast_atI rfl)) fun H16 e16 => ?_
        change tSeq _ _ _ [some (.ref a0), some (.ref p), some (.int (n : Int)), some (.ref lk), some (.ref l), some (.ref D), none, some (.ref c), some (.int (x : Int)), some (.int (b' : Int)), none, none, none] H16
        refine q_when (b := false) (et_is (lenE (e16 _ _ hc15)) (by
          rw [hcs]
          apply decide_eq_false
          intro z
          injection z with z
          simp at z
          omega)) (fun z => by cases z) (fun _ H17 e17 => ?_)
        have z := fin H17 (hP15.ext (e16.trans e17))
        rw [hje] at z
        exact z
    rintro σ' H12 ⟨r, b, rfl, hP13⟩
    clear hP10 hP11 hP12 h10 h11 hB
    have hc13 := hP13.ex _ _ hGc
    refine ⟨.ref c, rfl, c, _, rfl, .inl ⟨sq_of hc13, fun t0 ht0 => ?_⟩⟩
    have hP14 := hP13.new (o := .tup (cs.map V.int)) ht0
    have eG := Ex.new (o := .tup (cs.map V.int)) (fresh_back hP13.ex ht0)
    have gt0 : (upd G9 t0 (.tup (cs.map V.int))) t0 = some (.tup (cs.map V.int)) := upd_same
    generalize upd G9 t0 (.tup (cs.map V.int)) = G10 at *
    generalize upd H12 t0 (.tup (cs.map V.int)) = H14 at *
    have hGD := eG _ _ hGD
    have hGc := eG _ _ hGc
    have hus9 := hus9.mono eG
    have glk9 := eG _ _ glk9
    refine ⟨.ref p, rfl, .ref D, rfl, .ref c, rfl, G10, p, q, D, c, us7, cs, rfl, hP14, hGD, by omega, hGc, hcl, hcr, fun G11 H15 v1 d1 e11 hP15 hv1 hl1 => ?_⟩
    refine ⟨.ref p, rfl, .ref D, rfl, .ref c, rfl, G11, p, q, D, c, us7, cs, rfl, hP15, e11 _ _ hGD, by omega, e11 _ _ hGc, hcl, hcr, fun G12 H16 v2 d2 e12 hP16 hv2 hl2 => ?_⟩
    have e112 := e11.trans e12
    have hGD := e112 _ _ hGD
    have hus9 := hus9.mono e112
    have glk9 := e112 _ _ glk9
    have hth : DqA G12 [.ref t0, v1, v2] [.tuple (cs.map PyData.int), d1, d2] := .cons (.tup (e112 _ _ gt0) (DqA.ints cs)) (.cons (hv1.mono e12) (.cons hv2 .nil))
    have hlen : ∀ d ∈ ([.tuple (cs.map PyData.int), d1, d2] : List PyData), (itemsT d).length ≤ 62 := fun d hd => by
      simp only [List.mem_cons, List.not_mem_nil, or_false] at hd
      rcases hd with rfl | rfl | rfl
      · show (cs.map PyData.int).length ≤ 62
        rw [List.length_map]
        omega
      · exact hl1
      · exact hl2
    generalize ([.tuple (cs.map PyData.int), d1, d2] : List PyData) = dds at *
    have eH := hP16.ex
    clear hP13 hP14 hP15 hP16 hv1 hv2 gt0 hl1 hl2
    refine ⟨by show 3 ≤ sizeLine; decide, fun L hL => ⟨L, rfl, ⟨_, sq_of upd_same⟩, for_list (xs := [.ref t0, v1, v2]) (fun i σ' H' => ∃ (o10 o11 o12 : Option V), σ' = [some (.ref a0), some (.ref p), some (.int (n : Int)), some (.ref lk), some (.ref l), some (.ref D), none, some (.ref c), some (.int r), some (.int b), o10, o11, o12] ∧ Ex G12 H' ∧ H' L = some (.lst [.ref t0, v1, v2]))
      ⟨none, none, none, rfl, eH.trans (Ex.new hL), upd_same⟩ (fun i σ' H' _ ⟨_, _, _, _, _, h⟩ => sq_of h) ?_ (fun σ' H' ⟨_, _, _, hσ, _, _⟩ => by
        rw [hσ]
        exact k H')⟩⟩
    rintro i v σ' H17 hx ⟨o10, o11, o12, rfl, e17, hL17⟩
    obtain ⟨d, hd1, hd2⟩ := hth.get hx
    have hd62 := hlen d (List.mem_of_getElem? hd1)
    have hD17 := e17 _ _ hGD
    refine g_name ?_
    refine ⟨.ref D, rfl, D, us7, rfl, .inl (sq_of hD17), fun h hh => ?_⟩
    have eh := Ex.new (o := .lst us7) hh
    have hh18 : (upd H17 h (.lst us7)) h = some (.lst us7) := upd_same
    have e18 := e17.trans eh
    have hL18 := eh _ _ hL17
    generalize upd H17 h (.lst us7) = H18 at *
    refine g_name ?_
    refine ⟨.int (n : Int), rfl, .ref lk, rfl, lk, us0, rfl, .inl (sq_of (e18 _ _ glk9)), fun a ha => ?_⟩
    have ea := Ex.new (o := .lst us0) ha
    refine ⟨.ref h, rfl, .int r, rfl, .int b, rfl, v, rfl, .bl (chB ds r b d), ⟨.int (n : Int), .ref a, v, h, us7, ds, r, b, d, rfl, ea _ _ hh18, hus9.mono (e18.trans ea), hd60, hd2.mono (e18.trans ea), hd62, rfl⟩, fun H19 e19 => ?_⟩
    have e20 := (e18.trans ea).trans e19
    have hh20 := (ea.trans e19) _ _ hh18
    have hL20 := (ea.trans e19) _ _ hL18
    refine g_name ?_
    dsimp only
    change tIfS _ _ _ _ [some (.ref a0), some (.ref p), some (.int (n : Int)), some (.ref lk), some (.ref l), some (.ref D), none, some (.ref c), some (.int r), some (.int b), some v, some (.ref h), some (.bl (chB ds r b d))] H19
    refine s_when (b := false || (false || false)) (et_or (et_is (et_not (et_B (ev_isi (ev_var rfl) (.bl _) k_bb))) rfl) fun _ => et_or (et_is (et_test (ev_op (ev_var rfl) (ev_call (ea_cons (ev_var rfl) (ea_cons (ev_var rfl) (ea_cons (ev_var rfl) (ea_cons (ev_var rfl) ea_nil)))) (spP_v fun H2 e2 => ⟨v, D, us7, ds, r, b, d, rfl, (e20.trans e2) _ _ hGD, hus9.mono (e20.trans e2), hd60, hpo, hd2.mono (e20.trans e2), hd62, rfl⟩)) (rv_ne rfl))) (by simp)) fun _ => et_test (ev_op (ev_var rfl) (ev_var rfl) fun H2 e2 Q2 q2 => ⟨.list (ds.map Deed.d), .list (ds.map Deed.d), Dq.dp (SeqAt.canLay_of_shaped (deeds_shaped ds)) (.lst (e2 _ _ hh20) (hus9.mono (e20.trans e2))), Dq.dp (SeqAt.canLay_of_shaped (deeds_shaped ds)) (.lst ((e20.trans e2) _ _ hGD) (hus9.mono (e20.trans e2))), deeds_shaped ds, deeds_shaped ds, by
        show Q2 (.bl (!PyData.eqvAll (ds.map Deed.d) (ds.map Deed.d))) H2
        rw [deeds_eqv]
        exact q2 H2 (Ex.refl _)⟩)) (fun z => by cases z) (fun _ H2 e2 => ⟨_, _, _, rfl, e20.trans e2, e2 _ _ hL20⟩)
end
end Wk

set_option Elab.async false
set_option linter.all false
set_option maxRecDepth 100000
set_option maxHeartbeats 4000000
namespace Wk
open PySem PySem.Spec PyProof.Rows L2 Evl
/-! the head's facts with more of them -/
abbrev AlX : Type := He.AlD × Bool
def obsX (n : Nat) (fa : List He.Fa) (fn : List He.DefD) (eb : PySem.W.Frag → Bool) (g : Addr → Option Obj) : AlX := (He.obsDG n fa fn g, eb (He.frG g (He.asD g n)))
def hookX (n : Nat) (fa : List He.Fa) (fn : List He.DefD) (eb : PySem.W.Frag → Bool) : PySem.W.Hook where
  α := AlX
  obs := fun s => obsX n fa fn eb s.heap.get?
  val := fun _ => (He.valD fn, true)
  says := fun _ h => ∃ K : PySem.W.Frag, K.In h ∧ He.SaysD fa fn K ∧ eb K = true
  of := fun _ _ e => ⟨_, He.frG_in, congrArg Prod.fst e, congrArg Prod.snd e⟩
  keeps := fun _ _ _ ⟨K, hK, c⟩ k => ⟨K, PySem.W.Frag.In.keeps hK k, c⟩
theorem obsX_eq {n : Nat} {fa : List He.Fa} {fn : List He.DefD} {eb : PySem.W.Frag → Bool} {g : Addr → Option Obj} {s : Shared} (h : ∀ a, g a = s.heap.get? a) : obsX n fa fn eb g = (hookX n fa fn eb).obs s := by
  have e : g = s.heap.get? := funext h
  rw [e]
  rfl
theorem calOf {P : Program} {w : World} {K : PySem.W.Frag} {mg : Str → Option Value} {base : Heap} {x q : Str} {params : Arguments} {body : List Stmt} {scope : Scope} {f : Addr} {fd : FuncData} {ps : List Str} {k : Nat} {sp : Sp} (F : FunD K x q params body scope [] [] f fd) (o : FnOk P w K mg base CX0 k f fd ps sp) (g : mg x = some (.ref f)) (b : Binds K fd ps []) : Cal P w K mg base x ps k sp := ⟨⟨f, fd, o, g, F.kp, b⟩⟩
def dG (x : Str) (i : Nat) : He.DefD := ⟨(x, none), x, x, defArgs (top i), defBody (top i), defScope (top i), [], []⟩
def dM (c m q : Str) (i j : Nat) : He.DefD := ⟨(c, some m), m, q, defArgs (inClass (top i) j), defBody (inClass (top i) j), defScope (inClass (top i) j), [], []⟩
end Wk

set_option Elab.async false
set_option linter.all false
set_option maxRecDepth 100000
set_option maxHeartbeats 0
namespace Wk
open PySem PySem.Spec PyProof.Rows L2 Evl
def fn : List He.DefD := ([dG "is_integer" 1, dG "is_between" 2, dG "is_chain" 4, dG "_law_pool" 6, dG "_law_mixed" 7, dG "_law_draw" 8, dG "_law_shuffled" 9, dG "_law_links" 10, dG "_law_pairs" 11, dG "_law_is_integer" 12, dG "_law_deed" 13, dG "_law_built" 14, dG "_law_spoiled" 15, dG "_law_is_chain" 16, dG "law" 17] : List He.DefD)
def fa : List He.Fa := ([.glo "is_integer", .glo "is_between", .glo "is_chain", .glo "_law_pool", .glo "_law_mixed", .glo "_law_draw", .glo "_law_shuffled", .glo "_law_links", .glo "_law_pairs", .glo "_law_is_integer", .glo "_law_deed", .glo "_law_built", .glo "_law_spoiled", .glo "_law_is_chain", .glo "law", .free "isinstance", .free "len", .free "tuple", .free "list", .free "int", .free "bool", .free "str", .free "all", .free "set", .free "enumerate", .free "range", .free "abs", .free "min", .free "repr", .free "sorted"] : List He.Fa)
def eb (K : PySem.W.Frag) : Bool := true
abbrev R : PySem.W.OpenRow := PySem.W.OpenLaw.row PySem.Challenge.rw_wishreels_k72_chains_judged
abbrev hk : PySem.W.Hook := hookX 4 fa fn eb
def ob (s : PySem.W.SharedT) : AlX := obsX 4 fa fn eb (HandSHeadRun.getT s)
theorem ob_eq (s : PySem.W.SharedT) : ob s = hk.obs s.abs := obsX_eq (HandSHeadRun.getT_eq s)
def loose0 : List Str := ["__name__", "is_integer", "is_between", "is_chain", "_law_pool", "_law_mixed", "_law_draw", "_law_shuffled", "_law_links", "_law_pairs", "_law_is_integer", "_law_deed", "_law_built", "_law_spoiled", "_law_is_chain"]
def loose : List Str := loose0
theorem run (w : World) : HandSHeadRun.RunEq R (PySem.W.view R.prog [17]) hk ob 7000 loose w := by
  intro os
  kernel_rfl
end Wk

set_option Elab.async false
set_option linter.all false
set_option maxRecDepth 100000
set_option maxHeartbeats 4000000
namespace Wk
open PySem PySem.Spec PyProof.Rows L2 Evl
theorem facts {P : Program} {w : World} {K : PySem.W.Frag} {h : Heap} {mg : Str → Option Value} {f : Addr} (X : K.In h) (G : h.Ns mainGlobals mg) (hfa : mg ("law" : Str) = some (.ref f)) (c : He.SaysD fa fn K) (cx : eb K = true) :
    ∃ fd : FuncData, (∀ (t : Shared) (u : Value), BindsTo t fd ⟨[u], []⟩ [("_law_script", u)]) ∧ ∀ base : Heap, K.In base → base.Ns mainGlobals mg → FnOk P w K mg base CX0 5 f fd ["_law_script"] (spLaw K) := by
  obtain ⟨d0, F0⟩ := c.def_ 0 (d := dG "is_integer" 1) rfl
  obtain ⟨d1, F1⟩ := c.def_ 1 (d := dG "is_between" 2) rfl
  obtain ⟨d2, F2⟩ := c.def_ 2 (d := dG "is_chain" 4) rfl
  obtain ⟨d3, F3⟩ := c.def_ 3 (d := dG "_law_pool" 6) rfl
  obtain ⟨d4, F4⟩ := c.def_ 4 (d := dG "_law_mixed" 7) rfl
  obtain ⟨d5, F5⟩ := c.def_ 5 (d := dG "_law_draw" 8) rfl
  obtain ⟨d6, F6⟩ := c.def_ 6 (d := dG "_law_shuffled" 9) rfl
  obtain ⟨d7, F7⟩ := c.def_ 7 (d := dG "_law_links" 10) rfl
  obtain ⟨d8, F8⟩ := c.def_ 8 (d := dG "_law_pairs" 11) rfl
  obtain ⟨d9, F9⟩ := c.def_ 9 (d := dG "_law_is_integer" 12) rfl
  obtain ⟨d10, F10⟩ := c.def_ 10 (d := dG "_law_deed" 13) rfl
  obtain ⟨d11, F11⟩ := c.def_ 11 (d := dG "_law_built" 14) rfl
  obtain ⟨d12, F12⟩ := c.def_ 12 (d := dG "_law_spoiled" 15) rfl
  obtain ⟨d13, F13⟩ := c.def_ 13 (d := dG "_law_is_chain" 16) rfl
  obtain ⟨d14, F14⟩ := c.def_ 14 (d := dG "law" 17) rfl
  have e := hfa.symm.trans (He.glo_ok X G (c.fact 14 (f := .glo "law") rfl))
  cases e
  have bL := FunD.bindsA (ps := ["_law_script"]) F14 fun _ _ _ _ _ _ us hl => match us, hl with | [_], _ => rfl
  have B : Bl mg := ⟨He.free_ok X G (c.fact 15 rfl), He.free_ok X G (c.fact 16 rfl), He.free_ok X G (c.fact 17 rfl), He.free_ok X G (c.fact 18 rfl), He.free_ok X G (c.fact 19 rfl), He.free_ok X G (c.fact 20 rfl), He.free_ok X G (c.fact 21 rfl), He.free_ok X G (c.fact 22 rfl), He.free_ok X G (c.fact 23 rfl), He.free_ok X G (c.fact 24 rfl), He.free_ok X G (c.fact 25 rfl), He.free_ok X G (c.fact 26 rfl), He.free_ok X G (c.fact 27 rfl), He.free_ok X G (c.fact 28 rfl)⟩
  have hso : mg "sorted" = none := He.free_ok X G (c.fact 29 (f := .free "sorted") rfl)
  refine ⟨d14, fun t u => bL t [u] rfl, fun base _ _ => ?_⟩
  have C0 : Cal P w K mg base "is_integer" ["thing"] 1 spIsInt := calOf F0 (ok_isInt B F0) (He.glo_ok X G (c.fact 0 rfl)) (F0.bindsN fun _ _ _ _ _ _ us hl => match us, hl with | [_], _ => rfl)
  have C1 : Cal P w K mg base "is_between" ["least", "most", "thing"] 2 spBetween := calOf F1 (ok_between B C0 F1) (He.glo_ok X G (c.fact 1 rfl)) (F1.bindsN fun _ _ _ _ _ _ us hl => match us, hl with | [_, _, _], _ => rfl)
  have C2 : Cal P w K mg base "is_chain" ["size", "links", "deeds", "r", "b", "thing"] 3 spChain := calOf F2 (ok_chain B hso C1 F2) (He.glo_ok X G (c.fact 2 rfl)) (F2.bindsN fun _ _ _ _ _ _ us hl => match us, hl with | [_, _, _, _, _, _], _ => rfl)
  have D0 : Cal P w K mg base "_law_pool" ["_law_script"] 1 (spPool K) := calOf F3 (ok_pool B F3) (He.glo_ok X G (c.fact 3 rfl)) (F3.bindsN fun _ _ _ _ _ _ us hl => match us, hl with | [_], _ => rfl)
  have D1 : Cal P w K mg base "_law_mixed" ["_law_cell", "_law_many"] 1 spMixed := calOf F4 (ok_mixed B F4) (He.glo_ok X G (c.fact 4 rfl)) (F4.bindsN fun _ _ _ _ _ _ us hl => match us, hl with | [_, _], _ => rfl)
  have D2 : Cal P w K mg base "_law_draw" ["_law_pool_here", "_law_limit"] 2 spDraw := calOf F5 (ok_draw B D1 F5) (He.glo_ok X G (c.fact 5 rfl)) (F5.bindsN fun _ _ _ _ _ _ us hl => match us, hl with | [_, _], _ => rfl)
  have D3 : Cal P w K mg base "_law_shuffled" ["_law_pool_here", "_law_items"] 3 spShuf := calOf F6 (ok_shuf B D2 F6) (He.glo_ok X G (c.fact 6 rfl)) (F6.bindsN fun _ _ _ _ _ _ us hl => match us, hl with | [_, _], _ => rfl)
  have D4 : Cal P w K mg base "_law_links" ["_law_pool_here", "_law_size"] 4 spLinks := calOf F7 (ok_links B D2 D3 F7) (He.glo_ok X G (c.fact 7 rfl)) (F7.bindsN fun _ _ _ _ _ _ us hl => match us, hl with | [_, _], _ => rfl)
  have D5 : Cal P w K mg base "_law_pairs" ["_law_links_here"] 1 spPairs := calOf F8 (ok_pairs B hso F8) (He.glo_ok X G (c.fact 8 rfl)) (F8.bindsN fun _ _ _ _ _ _ us hl => match us, hl with | [_], _ => rfl)
  have D6 : Cal P w K mg base "_law_is_integer" ["_law_thing"] 1 spIsInt := calOf F9 (ok_lInt B F9) (He.glo_ok X G (c.fact 9 rfl)) (F9.bindsN fun _ _ _ _ _ _ us hl => match us, hl with | [_], _ => rfl)
  have D7 : Cal P w K mg base "_law_deed" ["_law_pool_here", "_law_size", "_law_pairs_here", "_law_restarts"] 3 spDeed := calOf F10 (ok_deed B D2 F10) (He.glo_ok X G (c.fact 10 rfl)) (F10.bindsN fun _ _ _ _ _ _ us hl => match us, hl with | [_, _, _, _], _ => rfl)
  have D8 : Cal P w K mg base "_law_built" ["_law_pool_here", "_law_deeds"] 3 spBuilt := calOf F11 (ok_built B D2 F11) (He.glo_ok X G (c.fact 11 rfl)) (F11.bindsN fun _ _ _ _ _ _ us hl => match us, hl with | [_, _], _ => rfl)
  have D9 : Cal P w K mg base "_law_spoiled" ["_law_pool_here", "_law_deeds", "_law_chain"] 3 spSpoiled := calOf F12 (ok_spoiled B D2 F12) (He.glo_ok X G (c.fact 12 rfl)) (F12.bindsN fun _ _ _ _ _ _ us hl => match us, hl with | [_, _, _], _ => rfl)
  have DA : Cal P w K mg base "_law_is_chain" ["_law_deeds", "_law_r", "_law_b", "_law_thing"] 2 spLChain := calOf F13 (ok_lChain B D6 F13) (He.glo_ok X G (c.fact 13 rfl)) (F13.bindsN fun _ _ _ _ _ _ us hl => match us, hl with | [_, _, _, _], _ => rfl)
  exact ok_law B ⟨D0, D2, D4, D5, D7, D8, D9, C2, DA⟩ F14
end Wk
open PySem PySem.W PySem.Calls PyProof.Rows
set_option maxHeartbeats 0
theorem PySem.Challenge.cw_wishreels_k72_chains_judged_holds : PySem.Challenge.rw_wishreels_k72_chains_judged.Holds := by
  w_on; o_law
  refine HandSHeadRun.head_any (r := Wk.R) (q := view Wk.R.prog [17]) (H := Wk.hk) (ob := Wk.ob) (M := 7000) (loose := Wk.loose) (d := HandSHeadRun.topDef Wk.R.prog 17) (kwd := []) Wk.ob_eq
    (by kernel_rfl) (fun s => by kernel_rfl) Wk.run (by kernel_rfl) (by kernel_rfl) (by kernel_rfl) (by rfl) (by first | assumption | decide +kernel) (by decide +kernel) ⟨rfl, rfl, rfl, rfl, rfl, by decide +kernel⟩ ?hw ?hc
  case hw => w_witness2
  case hc =>
    refine L2.walk_ofE (l := PySem.Challenge.rw_wishreels_k72_chains_judged) (n := 63) (k := 5) (x := "_law_script") (CX := L2.CX0) rfl (by decide) (by kernel_rfl) ⟨rfl, by decide, by decide⟩ ?F (fun _ _ _ _ z => z)
    intro w mg fa h Y G hmg0
    obtain ⟨K, kx, c, cx⟩ := Y
    have hmg : mg ("law" : PySem.Str) = some (.ref fa) := by
      have e : (HandSHeadRun.topDef Wk.R.prog 17).name = ("law" : PySem.Str) := by kernel_rfl
      rw [← e]
      exact hmg0
    obtain ⟨fd, hb, hF⟩ := Wk.facts (P := (PySem.Challenge.rw_wishreels_k72_chains_judged).prog) (w := w) kx G hmg c cx
    exact ⟨K, fd, Wk.spLaw K, kx, hb, fun H a ns hl _ hS => ⟨a, ns, rfl, hS, hl, fun _ => rfl⟩, hF⟩

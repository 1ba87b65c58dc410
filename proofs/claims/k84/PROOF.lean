import PyProof.Rows.All
import Wide.All
import OpenK.AllK
import Wide.FinOn
import KE.KStateDown
import HandS.ForMost
import HandS.More
import HandS.WordsExc
import HandS.Defaults
import HandS.Deep
import HandS.IsInst
import HandS.Evl
import HandS.Walk
import HandS.TupSets
import HandS.TupAny
import HandS.Conv
import PyProof.P3In
import HandS.SetFor
import HandS.Strs
import KE.GoesMore
import KE.GoesEnum
import HandS.ExcInit
import HandS.ExcField
import HandS.ExcOwn
import PyProof.NeKinds
import PyProof.EqKinds
import PyProof.FactsAll.subtypes_4
import PyProof.FactsAll.dict_1
import HandS.DictComp
import HandS.Comp
import HandS.TryOnly
import HandS.TryMany
import HandS.ExcIs
import HandS.ExcBuiltin
import HandS.Dict
import HandS.WordsDict
import HandS.WideBits
import HandS.Wide
import HandS.Small
import HandS.Codes
import HandS.SortRule
import HandS.ExcValue
import PyProof.ListStr
import PyProof.P3Eq
import HandS.IntHex
import PyProof.StrBlock2
import HandS.OwnEq
import HandS.Head0
import HandS.Head1
import HandS.Head2
import HandS.HeadEnd
import HandS.HeadHook1
import HandS.HeadHook2
import PySem.Challenge.RW_wishreels_k84_least_address_where_tables
set_option Elab.async false
set_option linter.all false
set_option maxRecDepth 100000
set_option maxHeartbeats 2000000
namespace Wk
open PySem PySem.Spec PyProof.Rows L2 Evl
/-! data that stand in a heap -/
mutual
inductive Dq (G : Hp) : V → PyData → Prop
  | non : Dq G .non .none
  | bl (b : Bool) : Dq G (.bl b) (.bool b)
  | int (i : Int) : Dq G (.int i) (.int i)
  | str (x : Str) : Dq G (.str x) (.str x)
  | lst {a : Addr} {xs : List V} {ds : List PyData} : G a = some (.lst xs) → DqA G xs ds → Dq G (.ref a) (.list ds)
  | tup {a : Addr} {xs : List V} {ds : List PyData} : G a = some (.tup xs) → DqA G xs ds → Dq G (.ref a) (.tuple ds)
  | dic {a : Addr} : G a = some (.dK []) → Dq G (.ref a) (.dict [])
inductive DqA (G : Hp) : List V → List PyData → Prop
  | nil : DqA G [] []
  | cons {v : V} {vs : List V} {d : PyData} {ds : List PyData} : Dq G v d → DqA G vs ds → DqA G (v :: vs) (d :: ds)
end
mutual
theorem Dq.mono {G H : Hp} (e : Ex G H) : ∀ {d : PyData} {v : V}, Dq G v d → Dq H v d
  | .none, _, .non => .non
  | .bool _, _, .bl b => .bl b
  | .int _, _, .int i => .int i
  | .str _, _, .str x => .str x
  | .list _, _, .lst h a => .lst (e _ _ h) (DqA.mono e a)
  | .tuple _, _, .tup h a => .tup (e _ _ h) (DqA.mono e a)
  | .dict _, _, .dic h => .dic (e _ _ h)
theorem DqA.mono {G H : Hp} (e : Ex G H) : ∀ {ds : List PyData} {vs : List V}, DqA G vs ds → DqA H vs ds
  | [], _, .nil => .nil
  | _ :: _, _, .cons h t => .cons (Dq.mono e h) (DqA.mono e t)
end
mutual
theorem Dq.dp {K : PySem.W.Frag} {G : Hp} : ∀ {d : PyData} {v : V}, d.canLay0 = true → Dq G v d → Dp K G v d
  | .none, _, _, .non => .non
  | .bool _, _, _, .bl b => .bl b
  | .int _, _, _, .int i => .int i
  | .str _, _, _, .str x => .str x
  | .list ds, _, c, .lst h a => .lst (sq_of h) (DqA.dp (by simpa [PyData.canLay0] using c) a)
  | .tuple ds, _, c, .tup h a => .tup (st_of h) (DqA.dp (by simpa [PyData.canLay0] using c) a)
  | .dict _, _, c, .dic h => by simp [PyData.canLay0] at c
theorem DqA.dp {K : PySem.W.Frag} {G : Hp} : ∀ {ds : List PyData} {vs : List V}, PyData.canLayAll0 ds = true → DqA G vs ds → DpAll K G vs ds
  | [], _, _, .nil => .nil
  | d :: ds, _, c, .cons h t => by
    have c' : d.canLay0 = true ∧ PyData.canLayAll0 ds = true := by simpa [PyData.canLayAll0] using c
    exact .cons (Dq.dp c'.1 h) (DqA.dp c'.2 t)
end
theorem DqA.length {G : Hp} : ∀ {ds : List PyData} {vs : List V}, DqA G vs ds → vs.length = ds.length
  | [], _, .nil => rfl
  | _ :: _, _, .cons _ t => congrArg Nat.succ t.length
theorem DqA.get {G : Hp} : ∀ {ds : List PyData} {vs : List V} {i : Nat} {v : V}, DqA G vs ds → vs[i]? = some v → ∃ d, ds[i]? = some d ∧ Dq G v d
  | [], _, i, v, .nil, e => by simp at e
  | d :: _, _, 0, v, .cons h t, e => ⟨d, rfl, by simp at e; subst e; exact h⟩
  | _ :: _, _, i + 1, v, .cons h t, e => by
    obtain ⟨d, e1, e2⟩ := t.get (i := i) (by simpa using e)
    exact ⟨d, by simpa using e1, e2⟩
theorem DqA.at {G : Hp} {ds : List PyData} {vs : List V} {i : Nat} {d : PyData} (h : DqA G vs ds) (e : ds[i]? = some d) : ∃ v, vs[i]? = some v ∧ Dq G v d := by
  have hl := h.length
  obtain ⟨hi, _⟩ := List.getElem?_eq_some_iff.mp e
  have hv : vs[i]? = some (vs[i]'(by omega)) := List.getElem?_eq_getElem (by omega)
  obtain ⟨d', e1, e2⟩ := h.get hv
  rw [e] at e1
  cases e1
  exact ⟨_, hv, e2⟩
theorem DqA.append {G : Hp} : ∀ {ds es : List PyData} {vs us : List V}, DqA G vs ds → DqA G us es → DqA G (vs ++ us) (ds ++ es)
  | [], _, _, _, .nil, h => h
  | _ :: _, _, _, _, .cons h t, u => .cons h (t.append u)
theorem DqA.take {G : Hp} : ∀ {ds : List PyData} {vs : List V} (n : Nat), DqA G vs ds → DqA G (vs.take n) (ds.take n)
  | [], _, n, .nil => by simp; exact .nil
  | _ :: _, _, 0, .cons h t => .nil
  | _ :: _, _, n + 1, .cons h t => .cons h (t.take n)
theorem DqA.drop {G : Hp} : ∀ {ds : List PyData} {vs : List V} (n : Nat), DqA G vs ds → DqA G (vs.drop n) (ds.drop n)
  | [], _, n, .nil => by simp; exact .nil
  | _ :: _, _, 0, .cons h t => .cons h t
  | _ :: _, _, n + 1, .cons h t => t.drop n
theorem DqA.ints {G : Hp} : ∀ (ns : List Int), DqA G (ns.map V.int) (ns.map PyData.int)
  | [] => .nil
  | n :: ns => .cons (.int n) (DqA.ints ns)
theorem DqA.int_inv {G : Hp} : ∀ {ns : List Int} {vs : List V}, DqA G vs (ns.map PyData.int) → vs = ns.map V.int
  | [], _, .nil => rfl
  | _ :: _, _, .cons (.int n) t => by
    have := DqA.int_inv t
    subst this
    rfl
/-- the name of a datum's type -/
def tyN : PyData → String
  | .none => "NoneType"
  | .bool _ => "bool"
  | .int _ => "int"
  | .str _ => "str"
  | .list _ => "list"
  | .tuple _ => "tuple"
  | .dict _ => "dict"
theorem Dq.ty {K : PySem.W.Frag} {G : Hp} {d : PyData} {v : V} (h : Dq G v d) : TyX K G v (.type (tyN d)) := by
  cases h with
  | non => exact .base .non
  | bl b => exact .base (.bl b)
  | int i => exact .base (.int i)
  | str x => exact .base (.str x)
  | lst h _ => exact .base (.lst h)
  | tup h _ => exact .base (.tup h)
  | dic h => exact .base (.dK h)
/-- a call's callee: the def that a global name holds -/
structure Cal (P : Program) (w : World) (K : PySem.W.Frag) (mg : Str → Option Value) (base : Heap) (x : Str) (ps : List Str) (k : Nat) (sp : Sp) : Prop where
  ex : ∃ (f : Addr) (fd : FuncData), FnOk P w K mg base CX0 k f fd ps sp ∧ mg x = some (.ref f) ∧ PySem.W.keepIn K (.ref f) = true ∧ Binds K fd ps []
section
variable {X : Cx}
theorem pe_cal {x : Str} {p pos : Pos} {e : Expr} {es : List Expr} {ps : List Str} {k j : Nat} {sp : Sp} {t : TA} (C : Cal X.prog X.w X.K X.mg X.base x ps k sp) (hr : Room j X.A) (hg : Gl X x) (ha : PA X (e :: es) t) (hk : k ≤ j := by decide)
    (hdb : (x == ("__debug__" : Str)) = false := by decide) (he : starEach (e :: es) X.env = (false, eval e X.env) :: starEach es X.env := by rfl) (hpl : (backTo pos (starEach es X.env)).any (·.1) = false := by rfl) :
    PE X (.Call (.Name x p) (e :: es) [] pos) (tCall sp [] E0 t) := by
  obtain ⟨f, fd, F, g, kp, b⟩ := C.ex
  exact pe_call F (hr.mono hk) hg g kp b .nil pass0 ha hdb he hpl
end
section
variable {K : PySem.W.Frag} {σ : L2.St} {H : Hp} {ta tb tc te : TE}
/-- isinstance(x, T), T a built-in type -/
theorem ev_isi {v : V} {d : PyData} {n : String} {b : Bool} (h : Ev ta σ H v) (hd : Dq H v d) (hk : kitB (tyN d) n = some b) : Ev (tCB (rIsi K) (tCons ta (tCons (tC (.ty n)) tNil))) σ H (.bl b) := fun H1 e Q q =>
  h H1 e _ fun H2 e2 => ⟨v, .ty n, .type (tyN d), .type n, b, rfl, .ty n, (hd.mono (e.trans e2)).ty, kit_ty hk, q H2 e2⟩
/-- a <= b <= c of ints -/
theorem ev_chain {i j k : Int} {r r' : R2} {b1 b2 : Bool} (ha : Ev ta σ H (.int i)) (hb : Ev tb σ H (.int j)) (hc : Ev tc σ H (.int k)) (h1 : RV r (.int i) (.int j) H (.bl b1)) (h2 : RV r' (.int j) (.int k) H (.bl b2)) :
    Ev (tChain r r' ta tb tc) σ H (.bl (b1 && b2)) := fun H1 e Q q =>
  ha H1 e _ fun H2 e2 => hb H2 (e.trans e2) _ fun H3 e3 => h1 H3 ((e.trans e2).trans e3) _ fun H4 e4 => ⟨b1, rfl, by
    cases b1 with
    | false => exact q H4 ((e2.trans e3).trans e4)
    | true => exact hc H4 (((e.trans e2).trans e3).trans e4) _ fun H5 e5 => h2 H5 ((((e.trans e2).trans e3).trans e4).trans e5) _ fun H6 e6 => q H6 ((((e2.trans e3).trans e4).trans e5).trans e6)⟩
end
end Wk

set_option Elab.async false
set_option linter.all false
set_option maxRecDepth 100000
set_option maxHeartbeats 4000000
namespace Wk
open PySem PySem.Spec PyProof.Rows L2 Evl
/-! how many are unlike -/
theorem nd_le {α : Type} [DecidableEq α] : ∀ (l D : List α), l.Nodup → (∀ x ∈ l, x ∈ D) → l.length ≤ D.length
  | [], _, _, _ => Nat.zero_le _
  | x :: l, D, hn, hs => by
    have hn' := List.nodup_cons.mp hn
    have hx : x ∈ D := hs x List.mem_cons_self
    have ih := nd_le l (D.erase x) hn'.2 fun y hy => (List.mem_erase_of_ne (fun (e : y = x) => hn'.1 (by rw [← e]; exact hy))).2 (hs y (List.mem_cons_of_mem _ hy))
    have e := List.length_erase_of_mem hx
    have hp : 0 < D.length := List.length_pos_of_mem hx
    simp only [List.length_cons]
    omega
theorem dup_less {α : Type} [DecidableEq α] : ∀ (D : List α), ¬ D.Nodup → ∃ D' : List α, (∀ x ∈ D, x ∈ D') ∧ D'.length < D.length
  | [], h => absurd List.nodup_nil h
  | x :: D, h => by
    by_cases hx : x ∈ D
    · exact ⟨D, fun y hy => (List.mem_cons.mp hy).elim (fun e => by rw [e]; exact hx) id, Nat.lt_succ_self _⟩
    · have hD : ¬ D.Nodup := fun z => h (List.nodup_cons.mpr ⟨hx, z⟩)
      obtain ⟨D', h1, h2⟩ := dup_less D hD
      exact ⟨x :: D', fun y hy => (List.mem_cons.mp hy).elim (fun e => by rw [e]; exact List.mem_cons_self) (fun e => List.mem_cons_of_mem _ (h1 y e)), Nat.succ_lt_succ h2⟩
theorem nd_iff {α : Type} [DecidableEq α] {l D : List α} (hn : l.Nodup) (h : ∀ x, x ∈ l ↔ x ∈ D) : l.length = D.length ↔ D.Nodup := by
  constructor
  · intro e
    apply Classical.byContradiction
    intro hD
    obtain ⟨D', h1, h2⟩ := dup_less D hD
    have := nd_le l D' hn fun x hx => h1 x ((h x).mp hx)
    omega
  · intro hD
    have h1 := nd_le l D hn fun x hx => (h x).mp hx
    have h2 := nd_le D l hD fun x hx => (h x).mpr hx
    omega
section
variable {X : Cx}
/-- len(set(t)), t a tuple of ints -/
def tLenSU (K : PySem.W.Frag) (ta : TE) : TE := fun σ H Q => ta σ H fun x H1 => ∃ (l : Addr) (ns : List Int), x = V.ref l ∧ SqT K H1 l (ns.map V.int) ∧ ns.length < 64 ∧ ∀ n : Nat, (n = ns.length ↔ ns.Nodup) → Q (.int n) H1
theorem pe_lenSU {a : Expr} {ta : TE} {p p2 q pos : Pos} (hc : X.calm = true) (hg : Gl X "len") (hm : X.mg "len" = none) (hg2 : Gl X "set") (hm2 : X.mg "set" = none) (ha : PE X a ta)
    (na : starEach [a] X.env = (false, eval a X.env) :: starEach [] X.env := by rfl) : PE X (.Call (.Name "len" p) [.Call (.Name "set" p2) [a] [] q] [] pos) (tLenSU X.K ta) := by
  refine ⟨fun pins s σ H Q I h => ?_⟩
  refine Call_ (ld_blt I hg hm PySem.boot_len ?_)
  refine PyProof.Rows.callWith_builtin1 (PyProof.Rows.args_cons ?_ rfl) rfl rfl
  refine Call_ (ld_blt I hg2 hm2 PyProof.Rows.boot_set ?_)
  refine PyProof.Rows.callWith_type1 (PyProof.Rows.args_cons (thn (ha.run pins s σ H _ I h) fun v s1 hh => PyProof.Rows.args_nil ?_) na) na rfl
  obtain ⟨x, H1, I1, r1, l, ns, rfl, hq, hlt, q1⟩ := hh
  cases r1
  obtain ⟨its, r, pl, hz⟩ := I1.tuple hq
  refine call_set_tupI (w := X.w) ns (I1.ok.hd hc) pl (by simpa using r.ints) (by unfold scanBound; omega) fun h' tk c hS hc2 hk => ?_
  refine PyProof.Rows.args_nil ?_
  obtain ⟨o, es, ep, t, ho, hex, hd, _, hnd, hiff, _, hf, hn, _⟩ := hS
  have I2 : Inv X pins σ H1 { s1 with heap := h', toks := tk } := I1.kept fun b o e => hk b o e
  refine call_len_set ho hex hd hf (by rw [hn] <;> omega) ⟨.int es.size, H1, I2.tok _, ⟨_, rfl⟩, q1 es.size ?_⟩
  have hl : (es.toList.map keyOf).length = es.size := by simp
  rw [← hl]
  exact nd_iff hnd fun k => by
    have := hiff k
    simp only [decide_eq_true_eq] at this
    exact this.symm
end
/-- the set that set() lays -/
abbrev sO (w : World) : Obj := { cls := .type "set", dict := none, data := .set #[] 0 (.fresh 0 0 (!w.params.followText "set-order")) }
section
variable {P : Program} {w : World} {A : Around} {E : Value → Shared → Prop} {s : Shared}
/-- set(t), t a tuple of tuples of ints -/
theorem set_of_tup2 {l : Addr} {its : Array Value} (ks : List (Addr × List Int)) {Q : Value → Shared → Prop} (nh : A.handled = none) (tl : s.heap.IsTuple l its) (eq : its.toList = ks.map fun p => Value.ref p.1)
    (ki : ∀ p ∈ ks, IsT P w s.heap p.2 p.1) (few : ks.length < 64) (un : A.units + 3 < cLine)
    (fin : ∀ (h' : Heap) (tk : Nat) L es ep t, SetTR P w h' s.heap.objs.size L es ep t → Got ks ks.length L → (∀ b o, s.heap.get? b = some o → h'.get? b = some o) → Q (.ref s.heap.objs.size) { s with heap := h', toks := tk }) :
    wpAny (model P w) A (call (.type "set") [.ref l]) Q E s := by
  have size : its.size = ks.length := by have q := congrArg List.length eq; simpa using q
  obtain ⟨c, rest, mro⟩ := F.called_set.mro
  have made := F.called_set.made; have sub := F.called_set.sub
  refine wpAny_call (codeAny_of_tree (show wpAny _ _ (callAny (.type "set") _) _ _ _ from ?_))
  refine wpAny_pure ⟨Code.quiet_builtin _ (by decide +kernel), codeAny_builtin F.entry_type_call (by
    rw [Around.under_plain (weight_type_call_type "set" [.ref l] []) rfl]
    have nt := F.called_set.notType; have cc := F.called_set.canCreate; have tc := F.typeCall_set_1 (.ref l)
    repeat (any_goals (first | assumption | wp_step))
    refine codeAny_mono (code_set_led1 (.ref l) (E := E) (Q₁ := fun ob s1 => ob = .ref s.heap.objs.size ∧ s1 = { s with heap := s.heap.push (sO w) }) ⟨rfl, rfl⟩) fun r s1 hr => ?_
    cases r with
    | error e => exact hr
    | ok fl =>
      cases fl with
      | ret ob =>
        obtain ⟨rfl, rfl⟩ := hr
        have hS : (s.heap.push (sO w)).get? s.heap.objs.size = some (sO w) := Heap.get?_push_size _ rfl
        have hT : Shared.TypeIs { s with heap := s.heap.push (sO w) } (.ref s.heap.objs.size) "set" := ⟨_, hS, rfl⟩
        have li := F.called_set.init.lookup; have bi := F.called_set.init.bind (.ref s.heap.objs.size)
        repeat (any_goals (first | assumption | wp_step))
        refine codeAny_mono (codeAny_call_builtin (R := wants (fun r s2 => r = .none ∧ ∃ h' tk L es ep t, s2 = { s with heap := h', toks := tk } ∧ SetTR P w h' s.heap.objs.size L es ep t ∧ Got ks ks.length L ∧ (∀ b o, s.heap.get? b = some o → h'.get? b = some o)) E)
          F.called_set.init.plain F.entry_set_init (check_set_init_1 hT ?_)) fun r2 s2 hr2 => ?_
        · obtain ⟨⟨oc, od, dt, sl⟩, ol, cl, n, dl⟩ := tl
          simp only at cl dl; subst cl; subst dl
          have ol1 : (s.heap.push (sO w)).get? l = some { cls := .type "tuple", dict := od, data := .seq its n, slots := sl } := Heap.get?_push_of_some _ ol
          have b1 := F.sub_tuple_set; have b2 := F.sub_tuple_frozenset
          have b3 : (Value.type "tuple" == Value.type "dict") = false := by decide
          have tl1 : (s.heap.push (sO w)).IsTuple l its := ⟨_, ol1, rfl, n, rfl⟩
          unfold Builtin.«set.__init__» noKeywords Builtin.Frozenset.updateFrom
          generalize hPI : pyIter = PI
          wp_walk
          subst hPI
          refine wpAny_pyIter_tuple tl1 (wpAny_bind (wpAny_runValue ?_))
          have lt : l < s.heap.objs.size := Heap.lt_size ol
          have nh3 : A.in1.in1.in1.handled = none := by simp [nh]
          have ne1 : l ≠ (s.heap.push (sO w)).objs.size := by rw [Heap.size_push]; exact Nat.ne_of_lt (Nat.lt_succ_of_lt lt)
          have nin : s.heap.objs.size ∉ [(s.heap.push (sO w)).objs.size, l] := by
            rw [Heap.size_push]
            intro z
            rcases List.mem_cons.mp z with z | z
            · exact absurd z (Nat.ne_of_lt (Nat.lt_succ_self _))
            · exact absurd (List.mem_singleton.mp z) (Nat.ne_of_gt lt)
          have val : ∀ (i : Nat) (v : Value), its[i]? = some v → ∃ p, ks[i]? = some p ∧ v = .ref p.1 := fun i v hv => by
            have q : its.toList[i]? = some v := (Array.getElem?_toList ..).trans hv
            rw [eq, List.getElem?_map] at q
            cases hq : ks[i]? with
            | none => rw [hq] at q; cases q
            | some p => rw [hq] at q; exact ⟨p, rfl, (Option.some.inj q).symm⟩
          have out : ∀ b, s.heap.objs.size ≤ b → s.heap.get? b = none := fun b hb => by
            cases q : s.heap.get? b with
            | none => rfl
            | some o => exact absurd (Nat.lt_of_lt_of_le (Heap.lt_size q) hb) (Nat.lt_irrefl _)
          refine set_update_tups ((Walks.tuple nh3 _ l ne1 its).toS) s.heap.objs.size nin ks size few val s.heap ki (out _ (Nat.le_refl _)) (fun b hb => out b (by rw [List.mem_singleton.mp hb, Heap.size_push]; exact Nat.le_succ _)) un (its.size - 0) 0 _ (by omega) (Nat.zero_le _)
            ⟨⟨_, Heap.get?_push_size _ rfl, rfl, rfl⟩, (tl1.push _)⟩ (fun b o e => Heap.get?_push_of_some _ (Heap.get?_push_of_some _ e)) ⟨[], #[], 0, _, setTR_fresh (Heap.get?_push_of_some _ hS), Got.zero ks⟩ ?_
          intro s' L es ep t hm hS' g' kp
          obtain ⟨h', g2, d', tk', os'⟩ := s'
          have eg : g2 = s.gens := hm.gens
          have ed : d' = s.drawn := hm.drawn
          have eo : os' = s.os := hm.os
          subst eg; subst ed; subst eo
          show wpAny _ _ _ _ _ _
          refine wpAny_pure (show wpAny _ _ (ret Value.none) _ _ _ from ?_)
          rw [size] at g'
          exact wpAny_pure ⟨rfl, h', tk', L, es, ep, t, rfl, hS', g', kp⟩
        · cases r2 with
          | error e => exact hr2
          | ok fl2 =>
            cases fl2 with
            | ret r =>
              obtain ⟨rfl, h', tk, L, es, ep, t, rfl, hS', g', k'⟩ := hr2
              repeat (any_goals (first | assumption | wp_step))
              exact fin _ _ _ _ _ _ hS' g' k'
            | _ => exact hr2.elim
      | _ => exact hr.elim)⟩
end
section
variable {X : Cx}
/-- len(set(t)), t a tuple of tuples of ints -/
def tLenSUU (K : PySem.W.Frag) (ta : TE) : TE := fun σ H Q => ta σ H fun x H1 => ∃ (l : Addr) (ks : List (Addr × List Int)), x = V.ref l ∧ SqT K H1 l (ks.map fun p => V.ref p.1) ∧ (∀ p ∈ ks, SqT K H1 p.1 (p.2.map V.int)) ∧ ks.length < 64 ∧
  ∀ n : Nat, (n = ks.length ↔ (ks.map (·.2)).Nodup) → Q (.int n) H1
theorem pe_lenSUU {a : Expr} {ta : TE} {p p2 q pos : Pos} (hc : X.calm = true) (hu : X.A.units + 64 < cLine) (hg : Gl X "len") (hm : X.mg "len" = none) (hg2 : Gl X "set") (hm2 : X.mg "set" = none) (ha : PE X a ta)
    (na : starEach [a] X.env = (false, eval a X.env) :: starEach [] X.env := by rfl) : PE X (.Call (.Name "len" p) [.Call (.Name "set" p2) [a] [] q] [] pos) (tLenSUU X.K ta) := by
  refine ⟨fun pins s σ H Q I h => Call_ (ld_blt I hg hm PySem.boot_len (PyProof.Rows.callWith_builtin1 (PyProof.Rows.args_cons (Call_ (ld_blt I hg2 hm2 PyProof.Rows.boot_set ?_)) rfl) rfl rfl))⟩
  refine PyProof.Rows.callWith_type1 (PyProof.Rows.args_cons (thn (ha.run pins s σ H _ I h) fun v s1 hh => PyProof.Rows.args_nil ?_) na) na rfl
  obtain ⟨x, H1, I1, r1, l, ks, rfl, hq, hk, few, q1⟩ := hh
  cases r1
  obtain ⟨its, r, pl, hz⟩ := I1.tuple hq
  refine set_of_tup2 (P := X.prog) (w := X.w) ks (I1.ok.hd hc) pl (by simpa using refs_of_vals r) (fun p hp => I1.isT (hk p hp)) few (by omega) fun h' tk L es ep t R g k => PyProof.Rows.args_nil ?_
  have I2 : Inv X pins σ H1 { s1 with heap := h', toks := tk } := I1.kept fun b o e => k b o e
  have hes : es.size = L.length := R.size (s := { s1 with heap := h', toks := tk })
  have hf := R.fits (s := { s1 with heap := h', toks := tk })
  obtain ⟨o, ho, hex, hd⟩ := R.ob
  refine call_len_set (s := { s1 with heap := h', toks := tk }) ho hex hd hf (by have := R.few; omega) ⟨.int es.size, H1, I2.tok _, ⟨_, rfl⟩, q1 es.size ?_⟩
  have e1 : (L.map (·.2)).length = es.size := by simp [hes]
  have e2 : (ks.map (·.2)).length = ks.length := by simp
  rw [← e1, ← e2]
  refine nd_iff R.nd fun k => ⟨fun z => ?_, fun z => ?_⟩
  · obtain ⟨p, hp, rfl⟩ := List.mem_map.mp z
    exact List.mem_map.mpr ⟨p, List.mem_of_mem_take (g.sub p hp), rfl⟩
  · obtain ⟨p, hp, rfl⟩ := List.mem_map.mp z
    exact g.all p (by rw [List.take_length]; exact hp)
end
end Wk

set_option Elab.async false
set_option linter.all false
set_option maxRecDepth 100000
set_option maxHeartbeats 4000000
namespace Wk
open PySem PySem.Spec PyProof.Rows L2 Evl
/-- the walk of a tuple's iterator under an enumerate -/
abbrev itO (l : Addr) : Obj := { cls := .type "tuple_iterator", data := .fields #[.ref l, .int 0 0] }
abbrev enO (it : Addr) : Obj := { cls := .type "enumerate", data := .fields #[.none, .bool false, .ref it, rawInt 0, .none, .none] }
theorem enumNewT (l : Addr) (its : Array Value) (n : Nat) (od : Option Addr) (sl : Array (Option Value)) :
    Meets (Builtin.«enumerate.__new__» ⟨[.type "enumerate", .ref l], []⟩) (fun _ R s => s.heap.get? l = some { cls := .type "tuple", dict := od, data := .seq its n, slots := sl } ∧
      R (.ok (.ret (.ref (s.heap.push (itO l)).objs.size))) { s with heap := (s.heap.push (itO l)).push (enO s.heap.objs.size) }) :=
  .of_wp fun prog w A R s h => by
    obtain ⟨hp, g, d, tk, os⟩ := s; obtain ⟨hl, h⟩ := h
    have su := sub_enumerate
    have tl : Heap.IsTuple (Shared.heap ⟨hp, g, d, tk, os⟩) l its := ⟨_, hl, rfl, n, rfl⟩
    wp_walk using wpAny_loadPart' hl
    refine wpAny_stack_any fun st => wpAny_pure ?_
    split
    · rename_i c _ _ _ _ _
      cases (c == Value.type "enumerate") <;> (wp_walk using wpAny_loadPart' hl, wpAny_pyIter_tuple tl; exact ⟨_, rfl, h⟩)
    · wp_walk using wpAny_loadPart' hl, wpAny_pyIter_tuple tl
      exact ⟨_, rfl, h⟩
section
variable {prog : Program} {w : World} {A : Around} {E : Value → Shared → Prop} {s : Shared}
theorem enumT_call {l : Addr} {its : Array Value} {Q : Value → Shared → Prop} (tl : s.heap.IsTuple l its)
    (h : ∀ h', IsEnum h' (s.heap.objs.size + 1) s.heap.objs.size 0 .none → h'.IsTupleIter s.heap.objs.size l 0 → h'.objs.size = s.heap.objs.size + 2 → (∀ b o, s.heap.get? b = some o → h'.get? b = some o) → Q (.ref (s.heap.objs.size + 1)) { s with heap := h' }) :
    wpAny (model prog w) A (call (.type "enumerate") [.ref l]) Q E s := by
  obtain ⟨⟨c, od, dt, sl⟩, hl, hc, n, hd⟩ := tl
  replace hc : c = .type "tuple" := hc
  replace hd : dt = .seq its n := hd
  subst hc hd
  refine callType_new F.called_enumerate (by decide) (F.typeCall_enumerate_1 _) (F.newCall_enumerate_1 _) (fun ob => F.args_object_init_2 ob _) F.entry_enumerate_new (enumNewT l its n od sl) ⟨hl, ?_⟩
  have hz : (s.heap.push (itO l)).objs.size = s.heap.objs.size + 1 := Heap.size_push ..
  show _ ∧ _
  rw [hz]
  have he : IsEnum ((s.heap.push (itO l)).push (enO s.heap.objs.size)) (s.heap.objs.size + 1) s.heap.objs.size 0 .none := by
    have q := Heap.get?_push_size (s.heap.push (itO l)) (o := enO s.heap.objs.size) rfl
    rw [hz] at q; exact q
  exact ⟨⟨_, he, rfl⟩, h _ he ⟨_, Heap.get?_push_of_some _ (Heap.get?_push_size _ rfl), rfl, rfl⟩ (by rw [Heap.size_push, hz]) fun b o x => Heap.get?_push_of_some _ (Heap.get?_push_of_some _ x)⟩
end
/-- the tuple at a, each item in a new pair with its place -/
def IteT (K : PySem.W.Frag) (a : Addr) : It :=
  ⟨fun i H => ∃ (xs : List V) (x : V), SqT K H a xs ∧ xs[i]? = some x, fun i H v H' => ∃ T x, v = .ref T ∧ H T = none ∧ H' = upd H T (.tup [.int (i : Nat), x]) ∧ ∀ xs, SqT K H a xs → xs[i]? = some x, fun i H => ∃ xs : List V, SqT K H a xs ∧ xs.length = i⟩
theorem turn_enumT {P : Program} {w : World} {K : PySem.W.Frag} {elts : List Expr} {kk : Nat} {tpos : Pos} (a e it : Addr) :
    Turn P w K (.Tuple elts kk tpos) (IteT K a) [e, it] e (fun i h => (∃ old, IsEnum h e it ((i : Nat) : Int) old) ∧ h.IsTupleIter it a i ∧ e ≠ it) where
  mem := List.mem_cons_self
  obj := fun i h st b hb => by
    obtain ⟨⟨old, he⟩, ⟨o, ho, hc, hd⟩, _⟩ := st
    rcases List.mem_cons.mp hb with z | z
    · rw [z]; exact ⟨_, he, fun v q => nomatch q⟩
    · rw [List.mem_singleton.mp z]; exact ⟨o, ho, fun v q => by rw [hd] at q; cases q⟩
  keep := fun i h h' st k => by
    obtain ⟨⟨old, he⟩, ⟨o, ho, r⟩, hne⟩ := st
    exact ⟨⟨old, k e (by simp) _ he⟩, ⟨o, k it (by simp) o ho, r⟩, hne⟩
  item := by
    intro X hP hw hK hc i pins s σ H E I hf st hg
    subst hP hw hK
    obtain ⟨⟨old, he⟩, hit, hne⟩ := st
    obtain ⟨xs, x, hq, hx⟩ := hg
    obtain ⟨its, rv, p, hz⟩ := I.tuple hq
    obtain ⟨u, hu, ru⟩ := rv.get hx
    have el : e < s.heap.objs.size := Heap.lt_size he
    have il : it < s.heap.objs.size := by obtain ⟨_, q, _⟩ := hit; exact Heap.lt_size q
    have nai : a ≠ it := fun z => by
      obtain ⟨o, ho, oc, _⟩ := p
      obtain ⟨o2, ho2, oc2, _⟩ := hit
      rw [z, ho2] at ho
      cases ho
      rw [oc2] at oc
      injection oc with q
      exact absurd q (by decide)
    have nae : e ≠ a := fun z => by
      obtain ⟨o, ho, oc, _⟩ := p
      have he2 := he
      unfold IsEnum at he2
      rw [z, ho] at he2
      cases he2
      injection oc with q
      exact absurd q (by decide)
    have hi : i < its.toArray.size := by
      have q := (List.getElem?_eq_some_iff.mp hu).1
      simpa using q
    refine wpAny_pyNext_enum_itemD (Draws.tuple (by simpa using I.ok.hd hc) it a nai its.toArray) he ⟨hit, p⟩ hi hne (by simp [hne, nae]) fun y h' tk hy ho hst hT hsz hk => ?_
    have ey : y = u := by
      have q : its.toArray[i]? = some y := hy
      rw [List.getElem?_toArray, hu] at q
      exact (Option.some.inj q).symm
    subst ey
    refine ⟨_, rfl, wpAny_letOwnedTupleGo_enum (s := { s with heap := h', toks := tk + 1 }) ho fun h2 he' sb => ?_⟩
    have hT2 : h2.get? s.heap.objs.size = some { cls := .type "tuple", data := .seq #[.int i tk, y] } := (sb.2 _ (Nat.ne_of_gt el)).trans hT
    have nw : ObjOk X.prog X.w (upd H s.heap.objs.size (.tup [.int (i : Nat), x])) h2 s.heap.objs.size (.tup [.int (i : Nat), x]) := ⟨by show 2 ≤ sizeLine; decide, [.int i tk, y], .cons ⟨_, rfl⟩ (.cons ru .nil), ⟨_, hT2, rfl, _, rfl⟩⟩
    have I1 : Inv X pins σ (upd H s.heap.objs.size (.tup [.int (i : Nat), x])) { s with heap := h2, toks := tk + 1 } := I.turnedNew (ch := [e, it]) (fun b ob hb q => by
        have b1 : b ≠ e := fun z => hb (by simp [z])
        have b2 : b ≠ it := fun z => hb (by simp [z])
        exact (sb.2 b b1).trans (hk b ob b1 b2 q)) hf (Nat.le_refl _) nw
    refine ⟨.ref s.heap.objs.size, _, I1, rfl, ⟨_, x, rfl, I.hok.fresh (Nat.le_refl _), rfl, fun ys hy => by rw [I.tuple_inj hy hq]; exact hx⟩, ⟨⟨y, ?_⟩, ?_, hne⟩, fun b hb => ?_⟩
    · rw [show ((i + 1 : Nat) : Int) = (i : Int) + 1 by omega]; exact he'
    · obtain ⟨o, ho2, r2⟩ := hst.1
      exact ⟨o, (sb.2 it (Ne.symm hne)).trans ho2, r2⟩
    · have hb2 : b < s.heap.objs.size := by
        rcases List.mem_cons.mp hb with z | z
        · rw [z]; exact el
        · rw [List.mem_singleton.mp z]; exact il
      rw [upd_ne (Nat.ne_of_lt hb2)]
      exact (hf b hb).1
  done := by
    intro X hP hw hK hc i pins s σ H E I hf st hg
    subst hP hw hK
    obtain ⟨⟨old, he⟩, hit, hne⟩ := st
    obtain ⟨xs, hq, hx⟩ := hg
    obtain ⟨its, rv, p, hz⟩ := I.tuple hq
    obtain ⟨f0, f1, f2, f3, f4, f5⟩ := hf it (by simp)
    have hl := rv.length
    have ei : i = its.toArray.size := by simp; omega
    have nai : a ≠ it := fun z => by
      obtain ⟨o, ho, oc, _⟩ := p
      obtain ⟨o2, ho2, oc2, _⟩ := hit
      rw [z, ho2] at ho
      cases ho
      rw [oc2] at oc
      injection oc with q
      exact absurd q (by decide)
    subst ei
    exact wpAny_pyNext_enum_endD (Draws.tuple (by simpa using I.ok.hd hc) it a nai its.toArray) he ⟨hit, p⟩ fun h' eb => ⟨rfl, I.turned (t' := s.toks) (fun b o hb q => eb b o hb q) f0 f1 f3 f4 f5⟩
  self := fun A i s Q E st h => let ⟨⟨_, he⟩, _⟩ := st; wpAny_pyIter_enum he h

def iEnumT (K : PySem.W.Frag) (ta : TA) : TI := fun σ H R => ta σ H fun vs H1 => ∃ a xs, vs = [.ref a] ∧ SqT K H1 a xs ∧ R (IteT K a) H1
/-- for i, x in enumerate(t), t a tuple -/
theorem pi_enumT {X : Cx} {e : Expr} {ta : TA} {p pos tpos : Pos} {elts : List Expr} {kk : Nat} (hg : Gl X "enumerate") (hm : X.mg "enumerate" = none) (ha : PA X [e] ta) (hs : starEach [e] X.env = [(false, eval e X.env)] := by rfl) :
    PI X (.Tuple elts kk tpos) (.Call (.Name "enumerate" p) [e] [] pos) (iEnumT X.K ta) := by
  refine ⟨fun pins s σ H R I h => Call_ (ld_blt I hg hm boot_enumerate (PyProof.Rows.callWith_type1 (thn (ha.run pos pins s σ H _ I h) fun us s1 hh => ?_) hs rfl))⟩
  obtain ⟨vs, H1, I1, r1, a, xs, rfl, hq, q⟩ := hh
  cases r1 with
  | cons r rr =>
    cases rr
    cases r
    obtain ⟨its, rv, pt, hz⟩ := I1.tuple hq
    refine enumT_call pt fun h' he hit hsz hk => wpAny_pyIter_enum he ?_
    refine ⟨s1.heap.objs.size + 1, [s1.heap.objs.size + 1, s1.heap.objs.size], _, _, H1, rfl, I1.kept (t' := s1.toks) hk, turn_enumT a (s1.heap.objs.size + 1) s1.heap.objs.size, ⟨⟨.none, he⟩, hit, Nat.succ_ne_self _⟩, fun b hb => ?_, q⟩
    have hle : s1.heap.objs.size ≤ b := by
      rcases List.mem_cons.mp hb with z | z
      · rw [z]; exact Nat.le_add_right _ _
      · rw [List.mem_singleton.mp z]; exact Nat.le_refl _
    exact I1.fpOk hle (I1.hok.fresh hle)
theorem walk_enumT {K : PySem.W.Frag} {a : Addr} {xs : List V} : Walk (IteT K a) xs.length (fun H => SqT K H a xs) (YPair (fun i => some (.int (i : Nat))) (fun i => xs[i]?)) := by
  refine ⟨fun i _ hi q => ⟨xs, xs[i], q, by simp [hi]⟩, fun _ q => ⟨xs, q, rfl⟩, fun i H v H' _ q y => ?_⟩
  obtain ⟨T, x, h1, h2, h3, h4⟩ := y
  exact ⟨T, .int (i : Nat), x, h1, h2, h3, rfl, h4 xs q⟩
section
variable {K : PySem.W.Frag} {σ : L2.St} {H : Hp} {t : TT} {te : TE}
/-- [e for x in t], t a tuple -/
theorem el_lcT {a : Addr} {xs : List V} {tl : TE} {j : Nat} {vs : List Nat} (f : Nat → Bool) (v : Nat → V) (h : Ev tl σ H (.ref a)) (hx : SqT K H a xs) (hz : xs.length ≤ 40000) (hw : ∀ x, wipe ((wipe σ vs).set j (some x)) vs = wipe σ vs)
    (ht : ∀ (i : Nat) (x : V) H1, Ex H H1 → xs[i]? = some x → EvT t ((wipe σ vs).set j (some x)) H1 (f i)) (he : ∀ (i : Nat) (x : V) H1, Ex H H1 → xs[i]? = some x → f i = true → Ev te ((wipe σ vs).set j (some x)) H1 (v i)) :
    EvL (tLc (iTup K tl) (gName j) t te vs) σ H (given xs.length f v) := fun H0 e Q q => h H0 e _ fun H1 e1 => ⟨a, rfl, ⟨xs, ex_t (e.trans e1) hx⟩, fun Dl hD =>
  lc_it (walk_tup (K := K) (a := a) (xs := xs)) (Cw H1 f v Dl) ⟨hD, Ex.new hD, upd_same⟩ (fun i H' _ p => ex_t ((e.trans e1).trans p.2.1) hx)
    (fun i x H' H2 hi p y => by
      obtain ⟨rfl, hxi⟩ := y
      exact ⟨hw x, cw_turn p (by omega) (ht i x H1 (e.trans e1) hxi) (fun hf => he i x H1 (e.trans e1) hxi hf)⟩)
    (fun H' p => q Dl H' (fresh_back e1 p.1) (e1.trans p.2.1) p.2.2)⟩
theorem given_all (n : Nat) (v : Nat → V) : given n (fun _ => true) v = (List.range n).map v := by
  unfold given
  rw [List.filter_eq_self.mpr (fun _ _ => rfl)]
theorem et_yes : EvT tYes σ H true := fun H1 _ _ q => q H1 (Ex.refl H1)
/-- all([..]) of flags -/
theorem ev_allL {bs : List Bool} {ta : TE} (h : EvL ta σ H (bs.map V.bl)) : Ev (tCB (rAll K) (tCons ta tNil)) σ H (.bl (bs.all id)) := fun H1 e Q q =>
  h H1 e _ fun p H2 _ e2 hp => ⟨p, bs, rfl, sq_of hp, q H2 e2⟩
/-- all([test(x) for x in t]) -/
theorem ev_allT {a : Addr} {xs : List V} {tl : TE} {j : Nat} {vs : List Nat} (g : Nat → Bool) (h : Ev tl σ H (.ref a)) (hx : SqT K H a xs) (hz : xs.length ≤ 40000) (hw : ∀ x, wipe ((wipe σ vs).set j (some x)) vs = wipe σ vs)
    (he : ∀ (i : Nat) (x : V) H1, Ex H H1 → xs[i]? = some x → Ev te ((wipe σ vs).set j (some x)) H1 (.bl (g i))) :
    Ev (tCB (rAll K) (tCons (tLc (iTup K tl) (gName j) tYes te vs) tNil)) σ H (.bl (((List.range xs.length).map g).all id)) :=
  ev_allL (by
    have q := el_lcT (K := K) (te := te) (fun _ => true) (fun i => .bl (g i)) h hx hz hw (fun _ _ _ _ _ => et_yes) fun i x H1 e hxi _ => he i x H1 e hxi
    rw [given_all] at q
    rw [List.map_map]
    exact q)
end
section
variable {K : PySem.W.Frag} {σ : L2.St} {H : Hp} {ta tb te : TE}
theorem ev_lenT {p : Addr} {xs : List V} (ha : Ev ta σ H (.ref p)) (h : SqT K H p xs) : Ev (tCB (rLenS K) (tCons ta tNil)) σ H (.int (xs.length : Int)) := fun H1 e Q q =>
  ha H1 e _ fun H2 e2 => ⟨p, xs, rfl, Or.inr (ex_t (e.trans e2) h), q H2 e2⟩
theorem all_get {α : Type} (ds : List α) (p : α → Bool) : ((List.range ds.length).map (fun i => ((ds[i]?).map p).getD false)).all id = ds.all p := by
  have e : (List.range ds.length).map (fun i => ((ds[i]?).map p).getD false) = ds.map p := by
    apply List.ext_getElem
    · simp
    · intro i h1 h2
      have hi : i < ds.length := by simpa using h1
      simp [hi]
  rw [e, List.all_map]
  rfl
end
section
variable {K : PySem.W.Frag} {σ : L2.St} {H : Hp} {g : TG} {tu tz : TS} {D : Ends}
/-- for i, x in enumerate(t) -/
theorem s_forEn {a : Addr} {xs : List V} {tl : TE} (h : Ev tl σ H (.ref a)) (hx : SqT K H a xs) (Pv : Nat → L2.St → Hp → Prop) (h0 : ∀ H1, Ex H H1 → Pv 0 σ H1) (hl : ∀ i σ' H', i ≤ xs.length → Pv i σ' H' → SqT K H' a xs)
    (hs : ∀ i y T σ' H', xs[i]? = some y → Pv i σ' H' → H' T = none → g (.ref T) σ' (upd H' T (.tup [.int (i : Nat), y])) fun σ2 H2 => tu { D with nx := Pv (i + 1), ct := Pv (i + 1), bk := D.nx } σ2 H2) (hd : ∀ σ' H', Pv xs.length σ' H' → D.nx σ' H') : tFor (iEnumT K (tCons tl tNil)) g tu D σ H :=
  h H (Ex.refl H) _ fun H1 e => ⟨a, xs, rfl, ex_t e hx, for_it (walk_enumT (K := K) (a := a) (xs := xs)) Pv (h0 H1 e) hl (fun i x σ' H2 H3 hi p y => by
    obtain ⟨T, u, y, rfl, hT, rfl, hu, hy⟩ := y
    cases hu
    exact hs i y T σ' H2 hy p hT) hd⟩
theorem q_forEn {a : Addr} {xs : List V} {tl : TE} (h : Ev tl σ H (.ref a)) (hx : SqT K H a xs) (Pv : Nat → L2.St → Hp → Prop) (h0 : ∀ H1, Ex H H1 → Pv 0 σ H1) (hl : ∀ i σ' H', i ≤ xs.length → Pv i σ' H' → SqT K H' a xs)
    (hs : ∀ i y T σ' H', xs[i]? = some y → Pv i σ' H' → H' T = none → g (.ref T) σ' (upd H' T (.tup [.int (i : Nat), y])) fun σ2 H2 => tu { D with nx := Pv (i + 1), ct := Pv (i + 1), bk := tz D } σ2 H2) (hd : ∀ σ' H', Pv xs.length σ' H' → tz D σ' H') : tSeq (tFor (iEnumT K (tCons tl tNil)) g tu) tz D σ H :=
  s_forEn (D := { D with nx := tz D }) h hx Pv h0 hl hs hd
end
end Wk

set_option Elab.async false
set_option linter.all false
set_option maxRecDepth 100000
set_option maxHeartbeats 2000000
namespace Wk
open PySem PySem.Spec PyProof.Rows L2 Evl
def top (i : Nat) : Stmt := PySem.Challenge.pw_wishreels_k84_least_address_where_tables.main.body.getD i (.Pass ⟨0, 0, 0, 0⟩)
abbrev FnP (K : PySem.W.Frag) (x : Str) (st : Stmt) (f : Addr) (fd : FuncData) : Prop := FunD K x x (defArgs st) (defBody st) (defScope st) [] [] f fd
/-- names that are the built-in ones -/
structure Bl (mg : Str → Option Value) : Prop where
  isi : mg "isinstance" = none
  len : mg "len" = none
  tuple : mg "tuple" = none
  list : mg "list" = none
  int : mg "int" = none
  bool : mg "bool" = none
  str : mg "str" = none
  all : mg "all" = none
  set : mg "set" = none
  enum : mg "enumerate" = none
  range : mg "range" = none
  abs : mg "abs" = none
  min : mg "min" = none
  repr : mg "repr" = none
/-- a pure promise: a plain value, what stood stays -/
def spP (R : Hp → List V → V → Prop) : Sp := fun vs H Q _ => ∃ z, R H vs z ∧ ∀ H', Ex H H' → Q z H'
theorem spP_v {R : Hp → List V → V → Prop} {vs : List V} {H : Hp} {z : V} (h : ∀ H1, Ex H H1 → R H1 vs z) : SpV (spP R) vs H z := fun H1 e Q q E => ⟨z, h H1 e, fun H2 e2 => q H2 e2⟩
def isI : PyData → Bool
  | .int _ => true
  | _ => false
/-- what a datum is worth as an int -/
def valI : PyData → Int
  | .int i => i
  | _ => 0
theorem isI_eq {d : PyData} (h : isI d = true) : d = .int (valI d) := by
  cases d <;> first | rfl | (simp [isI] at h)
theorem kit_int (d : PyData) : ∃ b, kitB (tyN d) "int" = some b ∧ (b = true → ∃ c, kitB (tyN d) "bool" = some c ∧ (b && !c) = isI d) ∧ (b = false → isI d = false) := by
  cases d with
  | none => exact ⟨false, show kitB "NoneType" "int" = some false by decide +kernel, fun h => (by cases h), fun _ => rfl⟩
  | bool b => exact ⟨true, show kitB "bool" "int" = some true by decide +kernel, fun _ => ⟨true, show kitB "bool" "bool" = some true by decide +kernel, rfl⟩, fun h => (by cases h)⟩
  | int i => exact ⟨true, show kitB "int" "int" = some true by decide +kernel, fun _ => ⟨false, show kitB "int" "bool" = some false by decide +kernel, rfl⟩, fun h => (by cases h)⟩
  | str z => exact ⟨false, show kitB "str" "int" = some false by decide +kernel, fun h => (by cases h), fun _ => rfl⟩
  | list ds => exact ⟨false, show kitB "list" "int" = some false by decide +kernel, fun h => (by cases h), fun _ => rfl⟩
  | tuple ds => exact ⟨false, show kitB "tuple" "int" = some false by decide +kernel, fun h => (by cases h), fun _ => rfl⟩
  | dict ds => exact ⟨false, show kitB "dict" "int" = some false by decide +kernel, fun h => (by cases h), fun _ => rfl⟩
def isTu : PyData → Bool
  | .tuple _ => true
  | _ => false
def itemsT : PyData → List PyData
  | .tuple ds => ds
  | _ => []
theorem kit_tup (d : PyData) : kitB (tyN d) "tuple" = some (isTu d) := by
  cases d with
  | none => exact show kitB "NoneType" "tuple" = some false by decide +kernel
  | bool b => exact show kitB "bool" "tuple" = some false by decide +kernel
  | int i => exact show kitB "int" "tuple" = some false by decide +kernel
  | str z => exact show kitB "str" "tuple" = some false by decide +kernel
  | list ds => exact show kitB "list" "tuple" = some false by decide +kernel
  | tuple ds => exact show kitB "tuple" "tuple" = some true by decide +kernel
  | dict ds => exact show kitB "dict" "tuple" = some false by decide +kernel
def isR (n : Int) (d : PyData) : Bool := isI d && (decide (0 ≤ valI d) && decide (valI d ≤ n - 1))
section
variable {P : Program} {w : World} {K : PySem.W.Frag} {mg : Str → Option Value} {base : Heap} {f : Addr} {fd : FuncData}
/-! is_integer, _law_is_int -/
abbrev spIsInt : Sp := spP fun H vs z => ∃ v d, vs = [v] ∧ Dq H v d ∧ z = .bl (isI d)
abbrev sIsInt : Stmt := top 6
theorem scIsInt : FnScope ["thing"] ["thing"] (defScope sIsInt) := ⟨rfl, rfl, rfl, by decide +kernel, rfl, by decide +kernel, by decide +kernel⟩
theorem ok_isInt (B : Bl mg) (F : FnP K "is_integer" sIsInt f fd) : FnOk P w K mg base CX0 1 f fd ["thing"] spIsInt := by
  refine F.ok scIsInt (fun vs H Q E h => ?_) (fun cdv A outer s H vs Q E hr h => ?_)
  · obtain ⟨z, ⟨v, d, rfl, _⟩, _⟩ := h
    rfl
  · obtain ⟨z, ⟨v, d, rfl, hd, rfl⟩, k⟩ := h
    refine ⟨_, pss_one (ps_ret (pe_and (pe_callB call_isi (by rfl) B.isi boot_isinstance (pa_cons (pv 0) (pa_cons (pe_bltn (v := .ty "int") (by rfl) B.int PyProof.Rows.boot_int rfl) pa_nil)))
      (pe_one (pe_not (pe_callB call_isi (by rfl) B.isi boot_isinstance (pa_cons (pv 0) (pa_cons (pe_bltn (v := .ty "bool") (by rfl) B.bool PyProof.Rows.boot_bool rfl) pa_nil))))))), ?_⟩
    obtain ⟨b, hb, h1, h2⟩ := kit_int d
    have v0 : Ev (tVar 0) (start ["thing"] [v]) H v := ev_var rfl
    cases b with
    | true =>
      obtain ⟨c, hc, e⟩ := h1 rfl
      rw [← e] at k
      exact s_ret (ev_andV (ev_isi v0 hd hb) fun _ => ev_notV (ev_isi v0 hd hc)) k
    | false =>
      rw [h2 rfl] at k
      exact s_ret (ev_andV (b := false) (ev_isi v0 hd hb) fun z => (by cases z)) k

/-! is_between, is_router -/
abbrev spBetween : Sp := spP fun H vs z => ∃ (a b : Int) (v : V) (d : PyData), vs = [.int a, .int b, v] ∧ Dq H v d ∧ z = .bl (isI d && (decide (a ≤ valI d) && decide (valI d ≤ b)))
abbrev sBetween : Stmt := top 7
theorem scBetween : FnScope ["least", "most", "thing"] ["least", "most", "thing"] (defScope sBetween) := ⟨rfl, rfl, rfl, by decide +kernel, rfl, by decide +kernel, by decide +kernel⟩
theorem ok_between (B : Bl mg) (C : Cal P w K mg base "is_integer" ["thing"] 1 spIsInt) (F : FnP K "is_between" sBetween f fd) : FnOk P w K mg base CX0 2 f fd ["least", "most", "thing"] spBetween := by
  refine F.ok scBetween (fun vs H Q E h => ?_) (fun cdv A outer s H vs Q E hr h => ?_)
  · obtain ⟨z, ⟨a, b, v, d, rfl, _⟩, _⟩ := h
    rfl
  · obtain ⟨z, ⟨a, b, v, d, rfl, hd, rfl⟩, k⟩ := h
    refine ⟨_, pss_one (ps_ret (pe_and (pe_cal C hr (by rfl) (pa_cons (pv 2) pa_nil)) (pe_one (pe_chain op_le op_le (pv 0) (pv 2) (pv 1))))), ?_⟩
    have v0 : Ev (tVar 0) (start ["least", "most", "thing"] [.int a, .int b, v]) H (.int a) := ev_var rfl
    have v1 : Ev (tVar 1) (start ["least", "most", "thing"] [.int a, .int b, v]) H (.int b) := ev_var rfl
    have v2 : Ev (tVar 2) (start ["least", "most", "thing"] [.int a, .int b, v]) H v := ev_var rfl
    refine s_ret (ev_andV (a := isI d) (ev_call (ea_cons v2 ea_nil) (spP_v fun H1 e => ⟨v, d, rfl, hd.mono e, rfl⟩)) fun hi => ?_) k
    rw [isI_eq hi] at hd
    cases hd
    exact ev_chain v0 v2 v1 rv_I0 rv_I0
abbrev spRouter : Sp := spP fun H vs z => ∃ (n : Int) (v : V) (d : PyData), vs = [.int n, v] ∧ Dq H v d ∧ z = .bl (isR n d)
abbrev sRouter : Stmt := top 10
theorem scRouter : FnScope ["size", "thing"] ["size", "thing"] (defScope sRouter) := ⟨rfl, rfl, rfl, by decide +kernel, rfl, by decide +kernel, by decide +kernel⟩
theorem ok_router (C : Cal P w K mg base "is_between" ["least", "most", "thing"] 2 spBetween) (F : FnP K "is_router" sRouter f fd) : FnOk P w K mg base CX0 3 f fd ["size", "thing"] spRouter := by
  refine F.ok scRouter (fun vs H Q E h => ?_) (fun cdv A outer s H vs Q E hr h => ?_)
  · obtain ⟨z, ⟨n, v, d, rfl, _⟩, _⟩ := h
    rfl
  · obtain ⟨z, ⟨n, v, d, rfl, hd, rfl⟩, k⟩ := h
    refine ⟨_, pss_one (ps_ret (pe_cal C hr (by rfl) (pa_cons pe_int (pa_cons (pe_op op_sub (pv 0) pe_int) (pa_cons (pv 1) pa_nil))))), ?_⟩
    exact s_ret (ev_call (ea_cons ev_c (ea_cons (ev_op (ev_var rfl) ev_c rv_I0) (ea_cons (ev_var rfl) ea_nil))) (spP_v fun H1 e => ⟨0, n - 1, v, d, rfl, hd.mono e, rfl⟩)) k
end
end Wk

set_option Elab.async false
set_option linter.all false
set_option maxRecDepth 100000
set_option maxHeartbeats 4000000
namespace Wk
open PySem PySem.Spec PyProof.Rows L2 Evl
/-! an object made, a method called, where what is raised is wished for at the caller's slots -/
section
variable {X : Cx} {CX : CXT} {k : Nat} {f C : Addr} {fd : FuncData} {ps : List Str} {sp : Sp} {W : L2.St → XK} {x m : Str} {p pos apos : Pos} {e o : Expr} {es : List Expr} {ta : TE} {t : TA}
def tMkAt (C : Addr) (sp : Sp) (W : L2.St → XK) (t : TA) : TE := fun σ H Q => t σ H fun vs H1 => ∀ x dx, H1 x = none → H1 dx = none → dx ≠ x → sp (.ref x :: vs) (upd (upd H1 dx (.own x)) x (.ins C dx [])) (fun v H2 => v = .non ∧ Q (.ref x) H2) (W σ)
theorem pe_mkAt (M : Mk X.K C f) (Fn : FnOk X.prog X.w X.K X.mg X.base CX k f fd ps sp) (hr : Room (k + 1) X.A) (hg : Gl X x) (hm : X.mg x = some (.ref C)) (hb : Binds X.K fd ps []) (hx : ∀ σ, PassesAt CX X σ (W σ)) (ha : PA X (e :: es) t)
    (hdb : (x == ("__debug__" : Str)) = false := by decide) (he : starEach (e :: es) X.env = (false, eval e X.env) :: starEach es X.env := by rfl) (hpl : (backTo pos (starEach es X.env)).any (·.1) = false := by rfl) :
    PE X (.Call (.Name x p) (e :: es) [] pos) (tMkAt C sp W t) := by
  refine ⟨fun pins s σ H Q I h => wpAny_Call_Name_kw (ld_glob I hg hm (PySem.W.callWith_K (h₀ := X.base) I.ok.mod.kin M.kp (thn (ha.run pos pins s σ H _ I h) fun us s1 hh => ?_) he hpl) hdb)⟩
  obtain ⟨vs, H1, I1, r, q⟩ := hh
  refine ⟨I1.kIn, ?_⟩
  have hq := q (s1.heap.objs.size + 1) s1.heap.objs.size (I1.hok.fresh (Nat.le_succ _)) (I1.hok.fresh (Nat.le_refl _)) (Nat.ne_of_lt (Nat.lt_succ_self _))
  have J := Inv.made (C := C) I1
  have rr : Vals (V.ref (s1.heap.objs.size + 1) :: vs) (Value.ref (s1.heap.objs.size + 1) :: us) := .cons rfl r
  have hl : (Value.ref (s1.heap.objs.size + 1) :: us).length = ps.length := rr.length.symm.trans (Fn.len _ _ _ _ hq)
  have bd := hb _ (Value.ref (s1.heap.objs.size + 1) :: us) J.kIn (by rw [List.append_nil]; exact hl)
  rw [List.append_nil] at bd
  refine wpAny_call (make_map (f := f) I1.kIn M.makes M.init (beq_iff_eq.mp M.fn) (codeAny_mono (Fn.run _ X.stack _ _ ⟨_, []⟩ _ _ _ (W σ) (hr.make C us []) (J.env0.make C us []) bd rr hq) fun r s' out => ?_))
  cases r with
  | error er => exact hx σ pins _ _ er s' J out
  | ok fl =>
    cases fl with
    | ret u =>
      obtain ⟨v, H', I3, rv, ev, q3⟩ := J.after out
      subst ev
      exact ⟨rv, ⟨V.ref (s1.heap.objs.size + 1), H', I3, rfl, q3⟩⟩
    | next => exact False.elim out
    | brk => exact False.elim out
    | cont => exact False.elim out
def tMeAt (C : Addr) (m : Str) (sp : Sp) (W : L2.St → XK) (ta : TE) (t : TA) : TE := fun σ H Q => ta σ H fun x H1 => ∃ a dx fs, x = .ref a ∧ H1 a = some (.ins C dx fs) ∧ fs.lookup m = none ∧ t σ H1 fun vs H2 => sp (x :: vs) H2 Q (W σ)
theorem pe_meAt {pl : Sem Bool} (ho : PE X o ta) (c : Cls X.K C) (hm : Meth X.K C m f) (Fn : FnOk X.prog X.w X.K X.mg X.base CX k f fd ps sp) (hr : Room k X.A) (hb : Binds X.K fd ps []) (hx : ∀ σ, PassesAt CX X σ (W σ)) (ha : PA X (e :: es) t)
    (hst : starEach (e :: es) X.env = (false, eval e X.env) :: starEach es X.env := by rfl) (hpl : (backTo pos (starEach es X.env)).any (·.1) = false := by rfl)
    (ht : eval (.Call (.Attribute o m apos) (e :: es) [] pos) X.env = (do
      let ov ← eval o X.env
      standAt apos.atName
      let (f, first) ← holding [ov] (getMethod ov m pl)
      callWith pos f first (backTo pos (starEach (e :: es) X.env)) (backToKw pos (keywordEach [] X.env))) := by rfl) :
    PE X (.Call (.Attribute o m apos) (e :: es) [] pos) (tMeAt C m sp W ta t) := by
  refine ⟨fun pins s σ H Q I h => PySem.W.methodCall_KW (pl := pl) (thn (ho.run pins s σ H _ I h) fun u s1 hh => ?_) ht⟩
  obtain ⟨x, H1, I1, rx, a, dx, fs, ex, ea, l, q⟩ := hh
  subst ex
  obtain rfl : u = Value.ref a := rx
  refine getmeth_ok I1 ea c hm l (PySem.W.callWith_K (first := [.ref a]) (h₀ := X.base) I.ok.mod.kin hm.kp (thn (ha.run pos pins s1 σ H1 _ I1 q) fun us s2 hh => ?_) hst hpl)
  obtain ⟨vs, H2, I2, r, q2⟩ := hh
  exact ⟨I2.kIn, run_fnS (us := .ref a :: us) (vs := .ref a :: vs) Fn hr hb (hx σ) I2 (.cons rfl r) q2⟩
end
/-! an own error with one field -/
/-- __init__ of such an error: self.router = router -/
def spXI (C : Addr) : Sp := fun vs H Q _ => ∃ (a : Addr) (y : V), vs = [.ref a, y] ∧ H a = some (exo a C none) ∧ ∀ dx, H dx = none → dx ≠ a → Q .non (upd (upd H dx (exd dx [("router", y)])) a (exo a C (some dx)))
/-- X(e) is made: where the error's dict is -/
theorem mk_err {C : Addr} {te : TE} {σ : L2.St} {H : Hp} {y : V} {W : XK} (h : Ev te σ H y) (k : ∀ d H', H d = none → Ex H H' → H' d = some (.xd [("router", y)]) → W (.ref C) (some d) H') : tMkO C (spXI C) [] (tCons te tNil) σ H W := by
  refine h H (Ex.refl H) _ fun H1 e => ⟨by show 1 ≤ 1000; decide, fun a ha => ?_⟩
  refine ⟨a, y, rfl, upd_same, fun dx hd hne => ⟨rfl, dx, [("router", y)], upd_same, by rw [upd_ne hne, upd_same], ?_, ?_⟩⟩
  · rw [upd_ne hne] at hd
    exact hd
  · have hd1 : H1 dx = none := by rw [upd_ne hne] at hd; exact hd
    refine k dx _ (fresh_back e hd1) (fun b o hb => ?_) upd_same
    have hb1 := e b o hb
    have nb : b ≠ dx := ne_of_none hb1 hd1
    have na : b ≠ a := ne_of_none hb1 ha
    rw [upd_ne nb, del_ne na, upd_ne na, upd_ne nb, upd_ne na]
    exact hb1
/-! parts of tuples -/
section
variable {K : PySem.W.Frag} {σ : L2.St} {H : Hp} {ta tb te : TE}
/-- what stands in a tuple (an old one or a new one) -/
def EvS (te : TE) (σ : L2.St) (H : Hp) (xs : List V) : Prop := ∀ H1, Ex H H1 → ∀ Q : VK, (∀ p H2, Ex H1 H2 → H2 p = some (.tup xs) → Q (.ref p) H2) → te σ H1 Q
theorem es_sl {a : Addr} {xs : List V} {tl th : TO} {lo hi : Option Int} (h : Ev te σ H (.ref a)) (h1 : EvO tl σ H lo) (h2 : EvO th σ H hi) (hs : H a = some (.tup xs)) : EvS (tSl (rSlA K) te tl th) σ H (cutV xs lo hi) := fun H1 e Q q =>
  h H1 e _ fun H2 e2 => h1 H2 (e.trans e2) _ fun H3 e3 => h2 H3 ((e.trans e2).trans e3) _ fun H4 e4 => by
    have hs4 := (((e.trans e2).trans e3).trans e4) _ _ hs
    refine ⟨a, xs, rfl, st_of hs4, fun hw => ?_, fun hw p hp => q p _ (((e2.trans e3).trans e4).trans (Ex.new hp)) upd_same⟩
    have ec : cutV xs lo hi = xs := by
      unfold cutV
      rw [hw.1, hw.2]
      simp
    rw [ec] at q
    exact q a H4 ((e2.trans e3).trans e4) hs4
theorem es_cat {xs ys : List V} (ha : EvS ta σ H xs) (hb : EvS tb σ H ys) (hz : xs.length + ys.length ≤ 100000) : EvS (tOp (rCatA K) ta tb) σ H (xs ++ ys) := fun H1 e Q q =>
  ha H1 e _ fun p H2 e2 hp => hb H2 (e.trans e2) _ fun p' H3 e3 hp' => by
    have hp3 := e3 _ _ hp
    refine ⟨p, p', xs, ys, rfl, rfl, st_of hp3, st_of hp', sz_of hz, fun hx => ?_, fun _ hy => ?_, fun _ _ r hr => q r _ ((e2.trans e3).trans (Ex.new hr)) upd_same⟩
    · rw [hx] at q
      exact q p' H3 (e2.trans e3) hp'
    · rw [hy, List.append_nil] at q
      exact q p H3 (e2.trans e3) hp3
theorem es_tup {t : TA} {xs : List V} (h : EvA t σ H xs) (hz : xs.length ≤ 100000) : EvS (tTup t) σ H xs := fun H1 e Q q => eu_tup h hz H1 e Q fun p H2 _ e2 hp => q p H2 e2 hp
theorem es_var {a : Addr} {xs : List V} (h : Ev te σ H (.ref a)) (hs : H a = some (.tup xs)) : EvS te σ H xs := fun H1 e Q q => h H1 e _ fun H2 e2 => q a H2 e2 ((e.trans e2) _ _ hs)
theorem es_mono {xs : List V} {H' : Hp} (e : Ex H H') (h : EvS te σ H xs) : EvS te σ H' xs := fun H1 e1 Q q => h H1 (e.trans e1) Q q
end
/-! x in t, t a tuple of data -/
section
variable {X : Cx}
def rInU (K : PySem.W.Frag) : R2 := fun x y H Q => ∃ d ds, Dp K H x d ∧ Dp K H y (.tuple ds) ∧ SeqAt.shaped d = true ∧ PyData.canLayAll0 ds = true ∧ Q (.bl (ds.any fun z => PyData.eqv z d)) H
def rNotInU (K : PySem.W.Frag) : R2 := fun x y H Q => ∃ d ds, Dp K H x d ∧ Dp K H y (.tuple ds) ∧ SeqAt.shaped d = true ∧ PyData.canLayAll0 ds = true ∧ Q (.bl (!ds.any fun z => PyData.eqv z d)) H
theorem op_inU (hu : X.A.units + 66 < cLine) : OpR X (compareOp .In) (rInU X.K) := fun pins s σ H x y v u Q I rx ry h => by
  obtain ⟨d, ds, hd, he, sd, se, q⟩ := h
  obtain ⟨as, r1⟩ := Dp.reads I d x v hd rx
  obtain ⟨bs, r2⟩ := Dp.reads I (.tuple ds) y u he ry
  have hdp := SeqAt.depth_of_shaped sd
  exact SeqAt.in_tuple_reads r2 r1 se (SeqAt.canLay_of_shaped sd) (by have := Nat.min_le_right (PyData.depthAll ds) d.depth; omega) ⟨.bl _, H, I, rfl, q⟩
theorem op_notInU (hu : X.A.units + 66 < cLine) : OpR X (compareOp .NotIn) (rNotInU X.K) := fun pins s σ H x y v u Q I rx ry h => by
  obtain ⟨d, ds, hd, he, sd, se, q⟩ := h
  obtain ⟨as, r1⟩ := Dp.reads I d x v hd rx
  obtain ⟨bs, r2⟩ := Dp.reads I (.tuple ds) y u he ry
  have hdp := SeqAt.depth_of_shaped sd
  exact SeqAt.notIn_tuple_reads r2 r1 se (SeqAt.canLay_of_shaped sd) (by have := Nat.min_le_right (PyData.depthAll ds) d.depth; omega) ⟨.bl _, H, I, rfl, q⟩
end
end Wk

set_option Elab.async false
set_option linter.all false
set_option maxRecDepth 100000
set_option maxHeartbeats 4000000
namespace Wk
open PySem PySem.Spec PyProof.Rows L2 Evl SeqAt
/-! == of a sequence and the empty one: by the lengths alone -/
section
variable {X : Cx}
def rEqEL (K : PySem.W.Frag) : R2 := fun x y H Q => ∃ a b xs, x = .ref a ∧ y = .ref b ∧ SqL K H a xs ∧ SqL K H b [] ∧ Q (.bl xs.isEmpty) H
theorem op_eqEL (hu : X.A.units < cLine) : OpR X (compareOp .Eq) (rEqEL X.K) := fun pins s σ H x y v u Q I rx ry h => by
  obtain ⟨a, b, xs, rfl, rfl, ha, hb, q⟩ := h
  cases rx
  cases ry
  obtain ⟨its, r1, p1, _⟩ := I.list ha
  obtain ⟨its2, r2, p2, _⟩ := I.list hb
  cases r2
  cases r1 with
  | nil => exact eq_listAt (e := fun _ => true) p1.isList p2.isList rfl hu (fun j h1 _ => absurd h1 (by simp)) ⟨.bl true, H, I, rfl, q⟩
  | cons r rr => exact eq_list_lengthsAt p1.isList p2.isList (by simp) hu ⟨.bl false, H, I, rfl, q⟩
def rEqEU (K : PySem.W.Frag) : R2 := fun x y H Q => ∃ a b xs, x = .ref a ∧ y = .ref b ∧ SqT K H a xs ∧ SqT K H b [] ∧ Q (.bl xs.isEmpty) H
theorem op_eqEU (hu : X.A.units < cLine) : OpR X (compareOp .Eq) (rEqEU X.K) := fun pins s σ H x y v u Q I rx ry h => by
  obtain ⟨a, b, xs, rfl, rfl, ha, hb, q⟩ := h
  cases rx
  cases ry
  obtain ⟨its, r1, p1, _⟩ := I.tuple ha
  obtain ⟨its2, r2, p2, _⟩ := I.tuple hb
  cases r2
  refine eq_tupleAt (e := fun _ => true) p1 p2 hu (fun j _ h2 => absurd h2 (by simp)) ⟨.bl xs.isEmpty, H, I, ?_, q⟩
  cases r1 <;> rfl
def rNeEU (K : PySem.W.Frag) : R2 := fun x y H Q => ∃ a b xs, x = .ref a ∧ y = .ref b ∧ SqT K H a xs ∧ SqT K H b [] ∧ Q (.bl (!xs.isEmpty)) H
theorem op_neEU (hu : X.A.units < cLine) : OpR X (compareOp .NotEq) (rNeEU X.K) := fun pins s σ H x y v u Q I rx ry h => by
  obtain ⟨a, b, xs, rfl, rfl, ha, hb, q⟩ := h
  cases rx
  cases ry
  obtain ⟨its, r1, p1, _⟩ := I.tuple ha
  obtain ⟨its2, r2, p2, _⟩ := I.tuple hb
  cases r2
  refine RcNeAt.tuples (e := fun _ => true) p1 p2 hu (fun j _ h2 => absurd h2 (by simp)) X.prog X.w _ _ ⟨.bl (!xs.isEmpty), H, I, ?_, q⟩
  cases r1 <;> rfl
end
/-! a dict and a tuple are unlike -/
theorem dictEqTup (l b : Addr) (o : Obj) (hoc : o.cls = .type "dict") (its : Array Value) (n : Nat) (dd : Option Addr) (sl : Array (Option Value)) :
    Meets (Builtin.«dict.__eq__» ⟨[.ref l, .ref b], []⟩) (fun _ R s => s.heap.get? l = some o ∧ s.heap.get? b = some { cls := .type "tuple", dict := dd, data := .seq its n, slots := sl } ∧ R (.ok (.ret .notImplemented)) s) :=
  .of_wp fun prog w A R s h => by
    obtain ⟨hp, g, d, tk, os⟩ := s
    obtain ⟨hl, hb, h⟩ := h
    obtain ⟨oc, od, dt, os2⟩ := o
    simp only at hoc
    subst hoc
    have f1 := F.sub_tuple_dict
    wp_walk using wpAny_loadPart' hl, wpAny_loadPart' hb
    exact ⟨_, rfl, h⟩
theorem tupEqDict (l b : Addr) (o : Obj) (hoc : o.cls = .type "dict") (its : Array Value) (n : Nat) (dd : Option Addr) (sl : Array (Option Value)) :
    Meets (Builtin.«tuple.__eq__» ⟨[.ref b, .ref l], []⟩) (fun _ R s => s.heap.get? b = some { cls := .type "tuple", dict := dd, data := .seq its n, slots := sl } ∧ s.heap.get? l = some o ∧ R (.ok (.ret .notImplemented)) s) :=
  .of_wp fun prog w A R s h => by
    obtain ⟨hp, g, d, tk, os⟩ := s
    obtain ⟨hb, hl, h⟩ := h
    obtain ⟨oc, od, dt, os2⟩ := o
    simp only at hoc
    subst hoc
    have f1 := F.sub_dict_tuple
    wp_walk using wpAny_loadPart' hl, wpAny_loadPart' hb
    exact ⟨_, rfl, h⟩
section
variable {A : Around} {s : Shared}
theorem eqAt_dictTup {l b : Addr} {o : Obj} {its : Array Value} (hl : s.heap.get? l = some o) (hoc : o.cls = .type "dict") (hb : s.heap.IsTuple b its) (hu : A.units < cLine) : EqAt A s (.ref l) (.ref b) false := by
  obtain ⟨⟨c2, dd, dt, sl⟩, ho2, hc2, n, hd2⟩ := hb
  simp only at hc2 hd2
  subst hc2 hd2
  have hne : l ≠ b := fun z => by
    rw [z, ho2] at hl
    cases hl
    exact absurd hoc (by simp)
  refine EqAt.of_refs hne fun prog w E Q h => ?_
  exact rc_eq_decline_or (k := false) ⟨_, hl, hoc⟩ ⟨_, ho2, rfl⟩ (by decide) F.sub_tuple_dict F.slot_dict_eq F.slot_tuple_eq_refl
    (fun _ hq => call_meets F.slot_dict_eq ⟨_, hl, hoc⟩ F.entry_dict_eq (F.args_dict_eq_2 _ _) (dictEqTup l b o hoc its n dd sl) ⟨hl, ho2, hq⟩)
    (fun _ hq => call_meets F.slot_tuple_eq_refl ⟨_, ho2, rfl⟩ F.entry_tuple_eq (F.args_tuple_eq_2 _ _) (tupEqDict l b o hoc its n dd sl) ⟨ho2, hl, hq⟩)
    (fun _ hq => wpAny_isSame_ref_other hne hl ho2 (by rw [hoc]; simp) hq) (.inr hu) h
end
/-- an item of an edited row -/
def Itm (d : PyData) : Prop := d = .dict [] ∨ (d.canLay0 = true ∧ d.depth ≤ 8)
section
variable {X : Cx}
/-- x not in l, l a list of such items, x a tuple: a flag -/
def rNotInX (K : PySem.W.Frag) : R2 := fun x y H Q => ∃ a p ds vs es, x = .ref a ∧ y = .ref p ∧ H p = some (.lst vs) ∧ DqA H vs ds ∧ (∀ d ∈ ds, Itm d) ∧ Dq H (.ref a) (.tuple es) ∧ PyData.canLay0 (.tuple es) = true ∧ ∀ b : Bool, Q (.bl b) H
theorem op_notInX (hu : X.A.units + 66 < cLine) : OpR X (compareOp .NotIn) (rNotInX X.K) := fun pins s σ H x y v u Q I rx ry h => by
  obtain ⟨a, p, ds, vs, es, rfl, rfl, hp, hds, hi, hx, cx, q⟩ := h
  cases rx
  cases ry
  obtain ⟨its, r1, p1, _⟩ := I.list (sq_of hp)
  have hxp := hx
  cases hxp with
  | tup h1 h2 =>
    obtain ⟨as, rx⟩ := Dp.reads I (.tuple es) (.ref a) (.ref a) (Dq.dp (K := X.K) cx hx) rfl
    obtain ⟨its2, r2, p2, _⟩ := I.tuple (st_of h1)
    have key : ∀ y ∈ its, ∃ b, EqAt X.A.in1 s y (.ref a) b := fun y hy => by
      obtain ⟨i, hiy⟩ := List.mem_iff_getElem?.mp hy
      have hil : i < vs.length := by
        have := (List.getElem?_eq_some_iff.mp hiy).1
        rw [r1.length]; exact this
      have hv : vs[i]? = some vs[i] := List.getElem?_eq_getElem hil
      obtain ⟨u2, hu2, ru⟩ := r1.get hv
      rw [hiy] at hu2
      cases hu2
      obtain ⟨d, ed, hd⟩ := hds.get hv
      rcases hi d (List.mem_of_getElem? ed) with z | ⟨z, zd⟩
      · subst z
        generalize hvv : vs[i] = vv at *
        cases hd with
        | dic hdd =>
          cases ru
          obtain ⟨_, _, vs2, _, o, es2, ep, g1, g2, _⟩ := (show ObjOk X.prog X.w H s.heap _ (.dK []) from I.hok _ _ hdd)
          exact ⟨false, eqAt_dictTup g1 g2.1 p2 (by show X.A.in1.units < cLine; simp; omega)⟩
      · obtain ⟨bs, ry⟩ := Dp.reads I d vs[i] y (Dq.dp (K := X.K) z hd) ru
        exact ⟨_, eqAt_reads d (.tuple es) X.A.in1 s y (.ref a) bs as ry rx z cx (by
          have hm := Nat.min_le_left d.depth (PyData.tuple es).depth
          show X.A.in1.units + _ < cLine
          simp
          omega)⟩
    have key2 : ∃ e : Value → Bool, ∀ y, y ∈ its.toArray → EqAt X.A.in1 s y (.ref a) (e y) := by
      refine ⟨fun y => @decide (EqAt X.A.in1 s y (.ref a) true) (Classical.propDecidable _), fun y hy => ?_⟩
      obtain ⟨b, hb⟩ := key y (by simpa using hy)
      by_cases c : EqAt X.A.in1 s y (.ref a) true
      · simp only [c, decide_true]
      · simp only [c, decide_false]
        cases b with
        | false => exact hb
        | true => exact absurd hb c
    obtain ⟨e, he⟩ := key2
    exact notIn_listAt e p1.isList he ⟨.bl _, H, I, rfl, q _⟩
end
end Wk

set_option Elab.async false
set_option linter.all false
set_option maxRecDepth 100000
set_option maxHeartbeats 2000000
namespace Wk
open PySem PySem.Spec PyProof.Rows L2 Evl
theorem cut_to (xs : List V) (i : Nat) (h : i ≤ xs.length) : cutV xs none (some (i : Int)) = xs.take i := by
  unfold cutV
  rw [HT.sIx_none, HT.sIx_nat, Nat.min_eq_left h]
  simp
theorem flat_ints (ns : List Int) : (ns.map V.int).all flatV = true := by
  rw [List.all_map, List.all_eq_true]
  intro x _
  rfl
theorem cut_from (xs : List V) (i : Nat) (h : i ≤ xs.length) : cutV xs (some (i : Int)) none = xs.drop i := by
  unfold cutV
  rw [HT.sIx_nat, HT.sIx_none, Nat.min_eq_left h]
  exact List.take_of_length_le (by simp)
theorem seqIx {k n : Nat} (h : k < n) : seqIndex? (k : Int) n = some k := by
  have q := ixN_seq (n := n) (i := (k : Int)) (j := k) (by
    unfold ixN
    rw [if_pos (by omega), if_pos (by omega)]
    simp)
  exact q.1
theorem ix_listK {X : Cx} {K : PySem.W.Frag} (hK : X.K = K) : IxR X (rIxL K) := by
  subst hK
  exact ix_list
theorem ixNat {n : Nat} {x : Int} (h0 : 0 ≤ x) (h1 : x < n) : ixN n x = some x.toNat := by
  unfold ixN
  rw [if_pos h0, if_pos h1]
theorem at_ints {os : List Int} {j : Nat} (h : j < os.length) : atI (os.map V.int) (j : Int) = some (.int os[j]) := atI_nat (by rw [List.getElem?_map, List.getElem?_eq_getElem h]; rfl)
theorem g_name {i : Nat} {x : V} {σ : L2.St} {H : Hp} {k : L2.St → Hp → Prop} (h : k (σ.set i (some x)) H) : gName i x σ H k := h
theorem asg_lst1 {te : TE} {g : TG} {D : Ends} {σ : L2.St} {H : Hp} (h : te σ H fun x H1 => 1 ≤ sizeLine ∧ ∀ b, H1 b = none → g (.ref b) σ (upd H1 b (.lst [x])) D.nx) : tAsg (tLst (tCons te tNil)) g D σ H := h
theorem cb1 {r : List V → Hp → VK → Prop} {ta : TE} {σ : L2.St} {H : Hp} {Q : VK} (h : ta σ H fun x H1 => r [x] H1 Q) : tCB r (tCons ta tNil) σ H Q := h
theorem q_c {i : Nat} {v : V} {tz : TS} {D : Ends} {σ : L2.St} {H : Hp} (h : tz D (σ.set i (some v)) H) : tSeq (tAsg (tC v) (gName i)) tz D σ H := h
theorem call_tupleK {X : Cx} {K : PySem.W.Frag} (hK : X.K = K) : CallR X (.type "tuple") (fun xs H Q => ∃ p ys, xs = [.ref p] ∧ ((SqL K H p ys ∧ ∀ l, H l = none → Q (.ref l) (upd H l (.tup ys))) ∨ (SqT K H p ys ∧ Q (.ref p) H))) := by
  subst hK
  exact call_tuple_of
theorem ret_cb {r : List V → Hp → VK → Prop} {ta : TE} {D : Ends} {σ : L2.St} {H : Hp} (h : ta σ H fun x H1 => r [x] H1 D.rt) : tRet (tCB r (tCons ta tNil)) D σ H := h
theorem ret_op {r : R2} {ta tb : TE} {D : Ends} {σ : L2.St} {H : Hp} (h : ta σ H fun x H1 => tb σ H1 fun y H2 => r x y H2 D.rt) : tRet (tOp r ta tb) D σ H := h
theorem call_listK2 {X : Cx} {K : PySem.W.Frag} (hK : X.K = K) : CallR X (.type "list") (fun xs H Q => ∃ p ys, xs = [.ref p] ∧ (SqL K H p ys ∨ SqT K H p ys) ∧ ∀ l, H l = none → Q (.ref l) (upd H l (.lst ys))) := by
  subst hK
  exact call_list_of
theorem take_snoc {α : Type} {l : List α} {i : Nat} {x : α} (h : l[i]? = some x) : l.take (i + 1) = l.take i ++ [x] := by
  rw [List.take_add_one, h]
  rfl
theorem ev_inS {K : PySem.W.Frag} {σ : L2.St} {H : Hp} {ta tb : TE} {x : V} {xs : List V} (ha : Ev ta σ H x) (hb : EvS tb σ H xs) (hx : flatV x = true) (hf : xs.all flatV = true) : Ev (tOp (rIn K false) ta tb) σ H (.bl (inV x xs)) := fun H1 e Q q =>
  ha H1 e _ fun H2 e2 => hb H2 (e.trans e2) _ fun p H3 e3 hp => ⟨p, xs, rfl, .inr (st_of hp), hx, hf, q H3 (e2.trans e3)⟩
theorem modP (a b : Int) (h : 0 < b) : 0 ≤ a % b ∧ a % b < b := ⟨Int.emod_nonneg _ (by omega), Int.emod_lt_of_pos _ h⟩
theorem q_asgW {te : TE} {tz : TS} {D : Ends} {σ : L2.St} {H : Hp} {i : Nat} (h : te σ H fun x H1 => tz D (σ.set i (some x)) H1) : tSeq (tAsg te (gName i)) tz D σ H := h
end Wk


set_option Elab.async false
set_option linter.all false
set_option maxRecDepth 100000
set_option maxHeartbeats 2000000
namespace Wk
open L2 PySem PySem.Spec PyProof.Rows
section
variable {X : Cx}
/-- one entry more by a comprehension, in a dict of either kind of keys -/
theorem put_dp {ps : List (Addr × Obj)} {σ : L2.St} {H Hn : Hp} {s : Shared} {D : Addr} {y z : V} {u r : Value}
    {E : Value → Shared → Prop} {Q : Unit → Shared → Prop} (hu : X.A.units < cLine) (I : Inv X ps σ H s)
    (g : DPut H D y z Hn) (ry : L2.RelV y u) (rz : L2.RelV z r) (h : ∀ s', Inv X ps σ Hn s' → Q () s') :
    wpAny (model X.prog X.w) X.A (dictSet D u r) Q E s := by
  rcases g with ⟨kvs, k, e, rfl, l, rfl⟩ | ⟨kvs, k, b, e, rfl, eb, l, rfl⟩
  · exact d_dictSet I e l ry rz h
  · obtain rfl : u = Value.ref b := ry
    obtain ⟨z1, nd, xs, rel, dd⟩ := dt_of I.hok e
    have l1 := length_putK kvs k z
    refine wpAny_dictSet_heap (hsz := by rw [← Paired.length rel]; exact z1) hu (key_of I.hok eb) dd
      fun h1 d1 sb => h _ ?_
    obtain ⟨q, es, ep, hq, a1, a2, a3, _, a4⟩ := d1
    refine d_write I (by rw [e]; trivial) sb ⟨q, hq⟩ ⟨by omega, nd, _, (rel.put k eb rz).keeps ?_, q, es, ep, hq, a1, a2, a3, a4⟩
    intro c ys ec
    exact (upd_ne (ne_of ec e (by intro z; cases z))).trans ec
end
/-- what one item does: the target, the tests, then key, value and the entry -/
def dqStep (g : TG) (tt : TT) (tk tv : TE) (vs : List Nat) (D : Addr) (Nx : Hp → Prop) (σ : L2.St) (x : V) (H : Hp) : Prop :=
  g x (wipe σ vs) H fun σa Ha => wipe σa vs = wipe σ vs ∧ tt σa Ha fun b Hb =>
    if b = true then tk σa Hb fun y Hc => tv σa Hc fun z Hd => ∃ Hn, DPut Hd D y z Hn ∧ Nx Hn
    else Nx Hb
/-- the walk of such a comprehension by a measure -/
def dqWalk (J : It) (step : (Hp → Prop) → V → Hp → Prop) (Qs : Hp → Prop) (W : Nat → Nat → Hp → Prop) : Prop :=
  ∀ i m H, W i m H → (J.stop i H ∧ Qs H) ∨
    (J.go i H ∧ ∃ Nx : Hp → Prop, (∀ Ha, Nx Ha → ∃ k, k < m ∧ W (i + 1) k Ha) ∧ ∀ x Ha, J.yld i H x Ha → step Nx x Ha)
theorem dq_loop {Y : Cx} {σ : L2.St} {vs : List Nat} {R : Result → Shared → Prop} {J : It} {fp : List Addr} {it D : Addr}
    {tn : Nat → Heap → Prop} {kx vx tg iter : Expr} {ifs : List Expr} {scope : Scope} {pos : Pos} {g : TG} {tt : TT} {tk tv : TE}
    {W : Nat → Nat → Hp → Prop} {Qs : Hp → Prop} (hc : Y.calm = true) (hx : Y.xe = fun _ _ => False) (hu : Y.A.units < cLine)
    (T : Turn Y.prog Y.w Y.K tg J fp it tn) (pg : PG Y tg g) (pt : PTs Y ifs tt) (pk : PE Y kx tk) (pv : PE Y vx tv)
    (own : ∀ {σ' : L2.St} {H' : Hp} {s' : Shared}, Inv Y [] σ' H' s' → (∀ b ∈ fp, H' b = none) → ∀ b ∈ fp, FpOk Y [] H' b)
    (walk : dqWalk J (fun Nx x H => dqStep g tt tk tv vs D Nx σ x H) Qs W)
    (last : ∀ H s, Inv Y [] (wipe σ vs) H s → Qs H → R (.ok .next) s)
    {m : Nat} {H : Hp} {s : Shared} (I : Inv Y [] (wipe σ vs) H s) (st : tn 0 s.heap) (nf : ∀ b ∈ fp, H b = none) (w : W 0 m H) :
    codeAny (model Y.prog Y.w) Y.A
      (.compLoop (.DictComp kx vx [⟨tg, iter, ifs, 0⟩] scope pos) 0 (.ref it) (.ref D) Y.env) R s := by
  refine compLoop_anyD (fun k s1 => ∃ i H1, Inv Y [] (wipe σ vs) H1 s1 ∧ tn i s1.heap ∧ (∀ b ∈ fp, H1 b = none) ∧ W i k H1)
    (fun k s1 hk => ?_) m ⟨0, H, I, st, nf, w⟩
  obtain ⟨i, H1, I1, st1, nf1, w1⟩ := hk
  cases walk i k H1 w1 with
  | inl e =>
    refine thnF (T.done Y rfl rfl rfl hc i [] s1 _ H1 (fun _ _ => False) I1 (own I1 nf1) st1 e.1) ?_
    rintro _ s2 ⟨rfl, I2⟩
    exact last H1 s2 I2 e.2
  | inr e =>
    obtain ⟨go, Nx, less, step⟩ := e
    refine thnF (T.item Y rfl rfl rfl hc i [] s1 _ H1 (fun _ _ => False) I1 (own I1 nf1) st1 go) ?_
    rintro _ s2 ⟨u, rfl, it2⟩
    refine thnF it2 ?_
    rintro _ s3 ⟨x, H3, I3, rx, yx, st3, nf3⟩
    have pin := I3.pinned (own I3 nf3) (T.obj _ _ st3)
    have t1 := pg.run _ s3 _ H3 x u _ pin rx (step x H3 yx)
    rw [hx] at t1
    refine thnF t1 ?_
    rintro _ s4 ⟨σ4, H4, I4, ew, q4⟩
    have back : ∀ {s9 : Shared} {H9 : Hp}, Inv Y ([] ++ pinsAt fp s3.heap) σ4 H9 s9 → Nx H9 →
        ∃ j, j < k ∧ ∃ i' H', Inv Y [] (wipe σ vs) H' s9 ∧ tn i' s9.heap ∧ (∀ b ∈ fp, H' b = none) ∧ W i' j H' := by
      intro s9 H9 I9 nx
      obtain ⟨j, lt, wj⟩ := less H9 nx
      have same : ∀ b ∈ fp, ∀ o, s3.heap.get? b = some o → s9.heap.get? b = some o ∧ H9 b = none := by
        intro b hb o eo
        have a := I9.pin (b, o) (List.mem_append_right _ (List.mem_append_right _ (mem_pinsAt hb eo)))
        exact ⟨a.1, a.2.1⟩
      refine ⟨j, lt, i + 1, H9, ?_, T.keep _ _ _ st3 fun b hb o eo => (same b hb o eo).1, ?_, wj⟩
      · refine (I9.unpinned (pins := [])).weak (by rw [← ew, wipe_length]) ?_
        intro n v en
        rw [← ew] at en
        exact (wipe_some en).1
      · intro b hb
        obtain ⟨o, eo, _⟩ := T.obj _ _ st3 b hb
        exact (same b hb o eo).2
    have t2 := pt.run _ s4 σ4 H4 _ I4 q4
    rw [hx] at t2
    refine thnF t2 ?_
    rintro b s5 ⟨H5, I5, q5⟩
    cases b with
    | false => exact back I5 q5
    | true =>
      have t3 := pk.run _ s5 σ4 H5 _ I5 q5
      rw [hx] at t3
      refine thnF t3 ?_
      rintro ky s6 ⟨y, H6, I6, ry, q6⟩
      have t4 := pv.run _ s6 σ4 H6 _ I6 q6
      rw [hx] at t4
      refine thnF t4 ?_
      rintro vy s7 ⟨z, H7, I7, rz, Hn, put, nx⟩
      exact put_dp hu I7 put ry rz fun s8 I8 => back I8 nx
/-- {k: v for .. in .. if ..}, keys tuples -/
def tDq (wi : TI) (g : TG) (tt : TT) (tk tv : TE) (vs : List Nat) : TE := fun σ H Q => wi σ H fun J H1 => ∀ D, H1 D = none →
  ∃ W : Nat → Nat → Hp → Prop, (∃ m, W 0 m (upd H1 D (.dT []))) ∧
    dqWalk J (fun Nx x Ha => dqStep g tt tk tv vs D Nx σ x Ha) (fun Ha => Q (.ref D) Ha) W
/-- the context of the block -/
abbrev Bq (X : Cx) (scope : Scope) (s : Shared) (H : Hp) (C : Addr) (cl : List (Str × Addr)) (fp : List Addr) : Cx :=
  X.blk s H scope (compEnvC scope cl C X.env) fp
theorem pe_dq {X : Cx} {kx vx tg iter : Expr} {ifs : List Expr} {scope : Scope} {own : List (Str × Nat)} {pos : Pos}
    {wi : TI} {g : TG} {tt : TT} {tk tv : TE} (hc : X.calm = true) (hu : X.A.units + 1 < cLine) (hN : X.N.Nodup)
    (hi : PI X tg iter wi) (ok : BlkOk X.N X.env.scope scope own) (hg : ∀ s H C cl fp, PG (Bq X scope s H C cl fp) tg g)
    (ht : ∀ s H C cl fp, PTs (Bq X scope s H C cl fp) ifs tt) (hk : ∀ s H C cl fp, PE (Bq X scope s H C cl fp) kx tk)
    (he : ∀ s H C cl fp, PE (Bq X scope s H C cl fp) vx tv) (hs : ∀ x, foldedSetIterable iter X.env x = pure x := by intro _; rfl) :
    PE X (.DictComp kx vx [⟨tg, iter, ifs, 0⟩] scope pos) (tDq wi g tt tk tv (own.map (·.2))) := by
  constructor
  intro ps s σ H Q I h
  rw [arm_eval_DictComp]
  have look : ∀ y ∈ scope.names, y.2 = .free → ∃ c, X.env.cells.lookup y.1 = some c := by
    intro y hy e
    exact I.ok.has _ (ok.free y hy e)
  refine wpAny_comprehension_free (use := none) rfl hs (closure_ok look) ok.kind (fun y hy e => (ok.uniq y hy).trans (by rw [e])) ?_
  refine thn (hi.run ps s σ H _ I h) ?_
  intro xv s1 h1
  refine thn h1 ?_
  rintro _ s2 ⟨it, fp, tn, J, H2, rfl, I2, T, st2, f2, q⟩
  refine wpAny_newObj_type ?_
  refine newEnv_comp ?_
  obtain ⟨D, hD⟩ : ∃ D, D = s2.heap.objs.size := ⟨_, rfl⟩
  rw [← hD]
  obtain ⟨W, ⟨m0, w0⟩, walk⟩ := q D (I2.hok.fresh (Nat.le_of_eq hD.symm))
  obtain ⟨s3, e3⟩ : ∃ s3 : Shared, s3 = { s2 with heap := s2.heap.push { cls := .type "dict", data := .dict #[] } } := ⟨_, rfl⟩
  have g3 : ∀ b o, s2.heap.get? b = some o → s3.heap.get? b = some o := by
    intro b o e
    rw [e3]
    exact Heap.get?_push_of_some _ (by exact e)
  have I3 : Inv X ps σ (upd H2 D (.dT [])) s3 := by
    rw [e3, hD]
    exact I2.laid (t' := s2.toks) (fun b o e => Heap.get?_push_of_some _ e) (Nat.le_refl _) (dt_empty s2.heap I2.big)
  rw [← e3]
  obtain ⟨H3, eH3⟩ : ∃ H3, H3 = upd H2 D (.dT []) := ⟨_, rfl⟩
  rw [← eH3] at I3 w0
  have f3 : ∀ b ∈ fp, FpOk X ps H3 b ∧ b < s3.heap.objs.size := by
    intro b hb
    obtain ⟨o, e, _⟩ := T.obj 0 _ st2 b hb
    refine ⟨⟨?_, (f2 b hb).2⟩, Heap.lt_size (g3 b o e)⟩
    rw [eH3, upd_ne (by rw [hD]; exact Nat.ne_of_lt (Heap.lt_size e))]
    exact (f2 b hb).1
  have st3 : tn 0 s3.heap := T.keep _ _ _ st2 fun b _ o e => g3 b o e
  have Ib := block_start I3 ok hN f3
  obtain ⟨C, hC⟩ : ∃ C, C = s3.heap.objs.size := ⟨_, rfl⟩
  rw [← hC] at Ib ⊢
  obtain ⟨cl, ecl⟩ : ∃ cl, cl = cellsFrom (C + 1) scope.names (cloFrom X.env.cells scope.names []) := ⟨_, rfl⟩
  rw [← ecl] at Ib ⊢
  have st4 : tn 0 (pushCells (s3.heap.push { cls := .type "dict", data := .dict #[] }) scope.names) := T.keep _ _ _ st3 fun b _ o e =>
    pushCells_keeps _ _ _ _ (Heap.get?_push_of_some _ e)
  have loop : codeAny (model X.prog X.w) X.A
      (.compLoop (.DictComp kx vx [⟨tg, iter, ifs, 0⟩] scope pos) 0 (.ref it) (.ref D) (compEnvC scope cl C X.env))
      (compPost (model X.prog X.w) X.A X.xe none (EP X ps σ Q) (.ref D) C)
      { s3 with heap := pushCells (s3.heap.push { cls := .type "dict", data := .dict #[] }) scope.names } := by
    refine dq_loop (Y := Bq X scope s3 H3 C cl fp) (σ := σ) hc rfl (Nat.lt_of_succ_lt hu) T (hg s3 H3 C cl fp)
      (ht s3 H3 C cl fp) (hk s3 H3 C cl fp) (he s3 H3 C cl fp) ?_ walk ?_ Ib st4 (fun b hb => (f3 b hb).1.1) w0
    · intro σ' H' s' I' nf b hb
      refine ⟨nf b hb, (I'.ok.exf b hb).1, I'.ok.exfs b hb, .inl hb, fun x c e => (I'.ok.exf b hb).2 x c e, ?_⟩
      intro p hp
      exact absurd (show p ∈ ([] : List (Addr × Obj)) ++ [] from hp) (by simp)
    · intro H6 s6 I6 q6
      have I7 : Inv X ps σ H6 s6 := by
        refine I3.call' (ch := fp) I6.os I6.base I6.hok I6.bare ?_
        intro b hb
        obtain ⟨_, n1, _, n2, n3, n4⟩ := (f3 b hb).1
        exact ⟨n2, n1, n3, n4⟩
      obtain ⟨m, hn, _⟩ := I6.loc
      refine ⟨m, hn, fun h' sb => ?_⟩
      obtain ⟨n0, n1, n2, n3, n4, n5⟩ := I3.fpOk (b := C) (Nat.le_of_eq hC.symm) (show H6 C = none from I6.free)
      refine ⟨.ref D, H6, ?_, rfl, q6⟩
      exact I7.turned (t' := s6.toks) (fun b o hb e => (sb.2 b hb).trans e) n0 n1 n3 n4 n5
  exact codeAny_compStart_dict loop (T.self _ 0 _ _ _ st4 loop)
end Wk

set_option Elab.async false
set_option linter.all false
set_option maxRecDepth 100000
set_option maxHeartbeats 2000000
namespace Wk
open L2 PySem PySem.Spec PyProof.Rows Evl
/-- the items that a comprehension has put, item j of the source by Y j -/
def Grown (Y : Nat → V → Hp → Prop) (H : Hp) : List Nat → List V → Prop
  | [], us => us = []
  | j :: js, us => ∃ u r, us = u :: r ∧ Y j u H ∧ Grown Y H js r
def UpY (Y : Nat → V → Hp → Prop) : Prop := ∀ i u H H', Ex H H' → Y i u H → Y i u H'
theorem Grown.up {Y : Nat → V → Hp → Prop} (hY : UpY Y) {H H' : Hp} (e : Ex H H') : ∀ {js : List Nat} {us : List V}, Grown Y H js us → Grown Y H' js us
  | [], _, h => h
  | j :: js, _, ⟨u, r, h1, h2, h3⟩ => ⟨u, r, h1, hY j u H H' e h2, Grown.up hY e h3⟩
theorem Grown.snoc {Y : Nat → V → Hp → Prop} {H : Hp} {j : Nat} {u : V} (h : Y j u H) : ∀ {js : List Nat} {us : List V}, Grown Y H js us → Grown Y H (js ++ [j]) (us ++ [u])
  | [], _, h0 => by
    rw [show _ = [] from h0]
    exact ⟨u, [], rfl, h, rfl⟩
  | k :: js, _, ⟨v, r, h1, h2, h3⟩ => by
    subst h1
    exact ⟨v, r ++ [u], rfl, h2, Grown.snoc h h3⟩
theorem Grown.len {Y : Nat → V → Hp → Prop} {H : Hp} : ∀ {js : List Nat} {us : List V}, Grown Y H js us → us.length = js.length
  | [], _, h0 => by
    rw [show _ = [] from h0]
    rfl
  | k :: js, _, ⟨v, r, h1, h2, h3⟩ => by
    subst h1
    simp [Grown.len h3]
def upTo (f : Nat → Bool) (i : Nat) : List Nat := (List.range i).filter f
theorem upTo_yes {f : Nat → Bool} {i : Nat} (h : f i = true) : upTo f (i + 1) = upTo f i ++ [i] := by
  unfold upTo
  rw [List.range_succ, List.filter_append]
  simp [h]
theorem upTo_no {f : Nat → Bool} {i : Nat} (h : f i = false) : upTo f (i + 1) = upTo f i := by
  unfold upTo
  rw [List.range_succ, List.filter_append]
  simp [h]
theorem upTo_len (f : Nat → Bool) (i : Nat) : (upTo f i).length ≤ i := by
  unfold upTo
  have h := List.length_filter_le f (List.range i)
  rw [List.length_range] at h
  exact h
/-- what is evaluated is told by Y, the heap may grow -/
def EvY (te : TE) (σ : L2.St) (H : Hp) (Y : V → Hp → Prop) : Prop := ∀ H1, Ex H H1 → ∀ Q : VK, (∀ u H2, Ex H1 H2 → Y u H2 → Q u H2) → te σ H1 Q
def off (D : Addr) (H : Hp) : Hp := fun a => if a = D then none else H a
theorem off_ex {D : Addr} {H H' : Hp} (e : Ex H H') : Ex (off D H) (off D H') := fun a o h => by
  unfold off at h ⊢
  by_cases z : a = D
  · rw [if_pos z] at h
    cases h
  · rw [if_neg z] at h ⊢
    exact e a o h
theorem off_in (D : Addr) (H : Hp) : Ex (off D H) H := fun a o h => by
  unfold off at h
  split at h
  · cases h
  · exact h
theorem off_upd {D : Addr} {H : Hp} {o : HO} : off D (upd H D o) = off D H := by
  funext a
  unfold off upd
  split <;> rfl
theorem off_at {D a : Addr} {H : Hp} (h : a ≠ D) : off D H a = H a := by
  unfold off
  rw [if_neg h]
/-- a word of an item that outlives new objects and does not speak of lists -/
structure GoodY (Y : Nat → V → Hp → Prop) : Prop where
  up : UpY Y
  off : ∀ i u H D l, H D = some (.lst l) → Y i u H → Y i u (Wk.off D H)
def Gw (Y : Nat → V → Hp → Prop) (H : Hp) (f : Nat → Bool) (D : Addr) (i : Nat) (H' : Hp) : Prop :=
  H D = none ∧ Ex H H' ∧ ∃ us, H' D = some (.lst us) ∧ Grown Y (off D H') (upTo f i) us
theorem gw_turn {Y : Nat → V → Hp → Prop} (hY : GoodY Y) {H H' : Hp} {f : Nat → Bool} {D : Addr} {i : Nat} {t : TT} {te : TE} {σ2 : L2.St} (p : Gw Y H f D i H') (hi : i < 50000)
    (ht : EvT t σ2 H' (f i)) (he : f i = true → EvY te σ2 H' (Y i)) :
    t σ2 H' fun b H3 => if b = true then te σ2 H3 fun y H4 => ∃ acc, H4 D = some (.lst acc) ∧ acc.length < sizeLine ∧ Gw Y H f D (i + 1) (upd H4 D (.lst (acc ++ [y])))
      else Gw Y H f D (i + 1) H3 := by
  obtain ⟨p1, p2, us, p3, p4⟩ := p
  refine ht H' (Ex.refl _) _ fun H3 e3 => ?_
  cases hf : f i with
  | false =>
    refine ⟨p1, p2.trans e3, us, e3 _ _ p3, ?_⟩
    rw [upTo_no hf]
    exact p4.up hY.up (off_ex e3)
  | true =>
    refine he hf H3 e3 _ fun u H4 e4 y => ?_
    have d4 := e4 _ _ (e3 _ _ p3)
    have l1 := p4.len
    have l2 := upTo_len f i
    refine ⟨us, d4, sz_lt (by omega), p1, Ex.mut ((p2.trans e3).trans e4) p1, us ++ [u], upd_same, ?_⟩
    rw [upTo_yes hf, off_upd]
    exact Grown.snoc (hY.off i u H4 D us d4 y) (p4.up hY.up (off_ex (e3.trans e4)))
/-- a list comprehension whose items may be new objects -/
theorem grow_lc {J : It} {n : Nat} {Gd : Hp → Prop} {Yx : Nat → V → Prop} {Y : Nat → V → Hp → Prop} {j : Nat} {vs : List Nat} {σ : L2.St} {H : Hp} {D : Addr} {Qd : Hp → Prop} {t : TT} {te : TE}
    (w : Walk J n Gd (fun i H x H' => H' = H ∧ Yx i x)) (hY : GoodY Y) (f : Nat → Bool) (hD : H D = none) (hn : n ≤ 40000) (hG : ∀ H', Ex H H' → Gd H') (hw : ∀ x, wipe ((wipe σ vs).set j (some x)) vs = wipe σ vs)
    (ht : ∀ i x H', Ex H H' → i < n → Yx i x → EvT t ((wipe σ vs).set j (some x)) H' (f i)) (he : ∀ i x H', Ex H H' → i < n → Yx i x → f i = true → EvY te ((wipe σ vs).set j (some x)) H' (Y i))
    (hq : ∀ us H', Ex H H' → H' D = some (.lst us) → Grown Y H' (upTo f n) us → Qd H') :
    ∃ W : Nat → Nat → Hp → Prop, (∃ m, W 0 m (upd H D (.lst []))) ∧ ∀ i m H, W i m H →
      (J.stop i H ∧ Qd H) ∨ (J.go i H ∧ ∃ Nx : Hp → Prop, (∀ H', Nx H' → ∃ m', m' < m ∧ W (i + 1) m' H') ∧ ∀ x H', J.yld i H x H' → gName j x (wipe σ vs) H' fun σ2 H2 => wipe σ2 vs = wipe σ vs ∧ t σ2 H2 fun b H3 =>
        if b = true then te σ2 H3 fun y H4 => ∃ acc, H4 D = some (.lst acc) ∧ acc.length < sizeLine ∧ Nx (upd H4 D (.lst (acc ++ [y]))) else Nx H3) := by
  refine lc_it w (Gw Y H f D) ⟨hD, Ex.new hD, [], upd_same, rfl⟩ (fun i H' _ p => hG H' p.2.1) (fun i x H' H2 hi p y => ?_) (fun H' p => ?_)
  · obtain ⟨rfl, yx⟩ := y
    exact ⟨hw x, gw_turn hY p (by omega) (ht i x _ p.2.1 hi yx) (fun hf => he i x _ p.2.1 hi yx hf)⟩
  · obtain ⟨_, e, us, d, g⟩ := p
    exact hq us H' e d (g.up hY.up (off_in D H'))
/-- the keys of a dict are the first i of k, each with True -/
def KHas (k : Nat → List L2.Key) (i : Nat) (kvs : List (List L2.Key × V)) : Prop :=
  ∀ q, (valV kvs q = some (V.bl true) ∧ ∃ j, j < i ∧ k j = q) ∨ (valV kvs q = none ∧ ∀ j, j < i → k j ≠ q)
/-- the keys that a comprehension has put -/
def Kw (k : Nat → List L2.Key) (H : Hp) (D : Addr) (i : Nat) (H' : Hp) : Prop :=
  H D = none ∧ Ex H H' ∧ ∃ kvs, H' D = some (.dT kvs) ∧ kvs.length ≤ i ∧ KHas k i kvs
/-- {x: True for x in ..}, of tuples of whole numbers or texts -/
theorem grow_dq {J : It} {n : Nat} {Gd : Hp → Prop} {Yx : Nat → V → Prop} {k : Nat → List L2.Key} {j : Nat} {vs : List Nat} {σ : L2.St} {H : Hp} {D : Addr} {Qd : Hp → Prop} {tk tv : TE}
    (w : Walk J n Gd (fun i H x H' => H' = H ∧ Yx i x)) (hD : H D = none) (hn : n ≤ 40000) (hG : ∀ H', Ex H H' → Gd H') (hw : ∀ x, wipe ((wipe σ vs).set j (some x)) vs = wipe σ vs)
    (hk : ∀ i x H', Ex H H' → i < n → Yx i x → EvY tk ((wipe σ vs).set j (some x)) H' (fun u H2 => ∃ b, u = .ref b ∧ H2 b = some (.tup ((k i).map kV))))
    (hv : ∀ i x H', Ex H H' → i < n → Yx i x → Ev tv ((wipe σ vs).set j (some x)) H' (.bl true))
    (hq : ∀ kvs H', Ex H H' → H' D = some (.dT kvs) → KHas k n kvs → Qd H') :
    ∃ W : Nat → Nat → Hp → Prop, (∃ m, W 0 m (upd H D (.dT []))) ∧ dqWalk J (fun Nx x Ha => dqStep (gName j) tYes tk tv vs D Nx σ x Ha) Qd W := by
  refine ⟨fun i m H' => m = n - i ∧ i ≤ n ∧ Kw k H D i H', ⟨n, by simp, Nat.zero_le _, hD, Ex.new hD, [], upd_same, Nat.le_refl _, fun q => .inr ⟨rfl, fun j hj => absurd hj (Nat.not_lt_zero _)⟩⟩, ?_⟩
  rintro i m H1 ⟨rfl, hi, p1, p2, kvs, p3, p4, p5⟩
  by_cases lt : i < n
  · refine .inr ⟨w.goes i H1 lt (hG H1 p2), Kw k H D (i + 1), fun Ha q => ⟨n - (i + 1), by omega, rfl, lt, q⟩, fun x Ha y => ?_⟩
    obtain ⟨rfl, yx⟩ := w.yields i H1 x Ha lt (hG H1 p2) y
    refine ⟨hw x, ?_⟩
    show tk _ _ _
    refine hk i x _ p2 lt yx _ (Ex.refl _) _ fun u H2 e2 hu => ?_
    obtain ⟨b, rfl, hb⟩ := hu
    refine hv i x _ p2 lt yx H2 e2 _ fun H3 e3 => ?_
    have d3 := e3 _ _ (e2 _ _ p3)
    refine ⟨_, DPut.t d3 (e3 _ _ hb) (sz_lt (by omega)), p1, Ex.mut ((p2.trans e2).trans e3) p1, _, upd_same, ?_, fun q => ?_⟩
    · have := length_putK kvs (k i) (V.bl true)
      omega
    · rw [valV_put]
      by_cases e : q = k i
      · rw [if_pos e]
        exact .inl ⟨rfl, i, Nat.lt_succ_self i, e.symm⟩
      · rw [if_neg e]
        rcases p5 q with ⟨z, j', h1, h2⟩ | ⟨z, h2⟩
        · exact .inl ⟨z, j', by omega, h2⟩
        · refine .inr ⟨z, fun j' hj => ?_⟩
          rcases Nat.lt_succ_iff_lt_or_eq.mp hj with h3 | h3
          · exact h2 j' h3
          · subst h3
            exact fun z2 => e z2.symm
  · have e : i = n := by omega
    subst e
    exact .inl ⟨w.stops H1 (hG H1 p2), hq kvs H1 p2 p3 p5⟩
end Wk

set_option Elab.async false
set_option linter.all false
set_option maxRecDepth 100000
set_option maxHeartbeats 2000000
namespace Wk
open PySem PySem.Spec PyProof.Rows L2 Evl
/-! several except clauses, each with the same name for what it caught -/
def unAs (i : Nat) (D : Ends) : Ends := { nx := fun σ' H' => D.nx (σ'.set i none) H', rt := D.rt, bk := fun σ' H' => D.bk (σ'.set i none) H', ct := fun σ' H' => D.ct (σ'.set i none) H' }
/-- what these clauses wish of an exception, one behind the other -/
def wClauses (K : PySem.W.Frag) (i : Nat) (Wo : WX) (D : Ends) : List (Value × (Addr → Value → Option Addr → TS)) → WX
  | [] => Wo
  | y :: r => fun cls d σ H => ∃ b, PySem.W.exmOne K cls y.1 = some b ∧ (b = true → ∀ a, H a = none → y.2 a cls d (unAs i D) (σ.set i (some (.ref a))) H) ∧ (b = false → wClauses K i Wo D r cls d σ H)
inductive Clauses (X : Cx) (n : Str) : List ExceptHandler → List (Value × (Addr → Value → Option Addr → TS)) → Prop
  | nil : Clauses X n [] []
  | cons {x : Str} {c : Value} {ts : Addr → Value → Option Addr → TS} {b₀ : Stmt} {su : List Stmt} {np pos' : Pos} {hs : List ExceptHandler} {l : List (Value × (Addr → Value → Option Addr → TS))} (hc : Names X x c)
      (hsu : ∀ (a : Addr) (oe : Obj) (cls : Value) (d : Option Addr) (pn : List (Addr × Obj)), Zc cls d oe → (∃ vs, oe.data = .fields vs) → PSs (X.suite a ((a, oe) :: pn)) (b₀ :: su) (ts a cls d)) (r : Clauses X n hs l) :
      Clauses X n (.ExceptHandler (some (.Name x np)) (some n) (b₀ :: su) pos' :: hs) ((c, ts) :: l)
section
variable {X : Cx} {n : Str} {i : Nat} {body : List Stmt} {h₀ : ExceptHandler} {hds : List ExceptHandler} {l : List (Value × (Addr → Value → Option Addr → TS))} {pos : Pos} {tb : WX → TS} {Wout : WX}
theorem ps_try_clauses (hs : X.stack = X.env :: X.outer) (hf : X.env.frame = some X.env.locals) (hN : X.N.Nodup) (hi : X.N[i]? = some n) (hln : X.env.kindOf n = some .local) (tk : Takes X Wout)
    (hb : ∀ (W : WX) (pn : List (Addr × Obj)) (xe : Value → Shared → Prop), Takes (X.tr pn xe) W → PassesOwn (model X.prog X.w) X.A X.env xe → PSs (X.tr pn xe) body (tb W))
    (hh : Clauses X n (h₀ :: hds) l) : PS X (.Try body (h₀ :: hds) [] [] pos) (fun D σ H => tb (wClauses X.K i Wout D l) D σ H) := by
  refine ⟨fun pins s σ H D I h => ?_⟩
  have ok := I.ok
  have hfr : X.A.frames = some (X.env :: X.outer) := by rw [ok.frames, hs]
  have hloc : Loc X.env.scope n := .inl hln
  refine wpAny_Try_except (wpAny_mono ((hb (wClauses X.K i Wout D l) (X.pn ++ pins) (fun e s₁ => wpAny (model X.prog X.w) X.A (noteFrame e X.env) (fun _ s₂ => wpAny (model X.prog X.w) X.A (setFlight e none) (fun _ s₃ =>
    wpAny (model X.prog X.w) X.A (handleBy e X.env (h₀ :: hds)) (SP X pins D) X.xe s₃) X.xe s₂) X.xe s₁) ?air PassesOwn.looking).run [] s σ H D (I.toTry _) h) ?fine (fun _ _ he => he))
  case fine =>
    intro f s1 hsp
    cases f with
    | next => obtain ⟨σ', H', J', q⟩ := hsp; exact wpAny_execs_nil ⟨σ', H', J'.ofTry ok, q⟩
    | brk => obtain ⟨σ', H', J', q⟩ := hsp; exact ⟨σ', H', J'.ofTry ok, q⟩
    | cont => obtain ⟨σ', H', J', q⟩ := hsp; exact ⟨σ', H', J'.ofTry ok, q⟩
    | ret u => obtain ⟨v, σ', H', J', r, q⟩ := hsp; exact ⟨v, σ', H', J'.ofTry ok, r, q⟩
  case air =>
    intro u s' xx
    obtain ⟨a, B, sI, pins', σ', H', cls, d, rfl, J', nb, up, sky, na, os, ag, w⟩ := xx
    have J : Inv X pins σ' H' sI := J'.ofTry ok
    rw [hs] at sky
    refine Sky.land (L := X.env.locals) Zc.steady hfr hf sky fun h3 fl3 up3 => ?_
    have J3 : Inv X pins σ' H' { s' with heap := h3 } := J.landed nb fl3.1 (up.trans up3) os ag
    obtain ⟨oe3, vs3, he3, hz3, hd3⟩ := fl3.there
    have nfr : a ∉ frs (X.env :: X.outer) := fun hm => by
      obtain ⟨_, o', e', hnf⟩ := fl3.2.2.1.mem hm
      rw [he3] at e'
      cases e'
      exact hnf _ hd3
    have nL : a ≠ X.env.locals := fun z => nfr (List.mem_filterMap.mpr ⟨X.env, List.mem_cons_self, by rw [hf, z]⟩)
    have nF : a ∉ X.fs := fun hm => by
      obtain ⟨e, he, q⟩ := List.mem_filterMap.mp hm
      exact nfr (List.mem_filterMap.mpr ⟨e, List.mem_cons_of_mem _ he, q⟩)
    have S3 := J3.suite he3 hd3 na nL nF
    have go : ∀ {hs' : List ExceptHandler} {l' : List (Value × (Addr → Value → Option Addr → TS))}, Clauses X n hs' l' → wClauses X.K i Wout D l' cls d σ' H' → wpAny (model X.prog X.w) X.A (handleBy (.ref a) X.env hs') (SP X pins D) X.xe { s' with heap := h3 } := by
      intro hs' l' hk
      induction hk with
      | nil =>
        intro w
        refine wpAny_handleBy_nil ?_
        obtain ⟨k1, k2, k3, oe, vs, T, oT, ts', he, hz, hd, h1, hr⟩ := id fl3
        unfold PySem.passOn
        refine wpAny_bind (wpAny_field he hd h1 ?_)
        rw [if_neg (show ¬ ((Value.ref T == Value.none) = true) from by simp)]
        have fin : wpAny (model X.prog X.w) X.A (setFlight (.ref a) X.env.frame) (fun _ s4 => wpAny (model X.prog X.w) X.A (throw (.ref a) : Sem Flow) (SP X pins D) X.xe s4) X.xe { s' with heap := h3 } := by
          rw [hf]
          exact HandSPX.setFlight_upZ fl3 fun h4 hh4 up4 => wpAny_throw (tk _ _ ⟨a, B, sI, pins, σ', H', cls, d, rfl, J, nb, (up.trans up3).trans up4, .inr (.inr (by rw [hs]; exact hh4)), na, os, ag, w⟩)
        first
          | exact wpAny_bind (wpAny_pure (wpAny_bind fin))
          | exact wpAny_bind fin
      | @cons x c ts b₀ su np pos' hs2 l2 hc hsu r ih =>
        intro w
        obtain ⟨b, hb1, hyes, hno⟩ := w
        refine wpAny_handleBy_cons (codeAny_handlers_test ?_) (by intro q; cases q)
        have LM := PySem.W.exm_one (M := model X.prog X.w) (J3.kIn) (fun A Q E s k q => wpAny_typeOf_ref (k _ _ he3) (by rw [hz3.1]; exact q)) hb1
        have test : ∀ {Q E : Value → Shared → Prop}, Q c { s' with heap := h3 } → wpAny (model X.prog X.w) (X.A.mark (some (.ref a))) (eval (.Name x np) X.env) Q E { s' with heap := h3 } := fun {Q E} q => by
          obtain ⟨hg, hdbg, hm | ⟨hm, hv, hnn⟩⟩ := hc
          · exact ld_glob (X := X.suite a ((a, oe3) :: (X.pn ++ pins))) S3 hg hm q hdbg
          · exact ld_blt (X := X.suite a ((a, oe3) :: (X.pn ++ pins))) S3 hg hm hv q hnn hdbg
        refine test (LM.here ?_)
        cases b with
        | false => exact ih (hno rfl)
        | true =>
          refine codeAny_handlers_suite_as (HandSPX.lands_againZ fl3 fun h4 fl4 up4 => ?_)
          have J4 : Inv X pins σ' H' { s' with heap := h4 } := J.landed nb fl4.1 ((up.trans up3).trans up4) os ag
          obtain ⟨oe4, vs4, he4, hz4, hd4⟩ := fl4.there
          have S4 := J4.suite he4 hd4 na nL nF
          refine store_ok (X := X.suite a ((a, oe4) :: (X.pn ++ pins))) (v := .ref a) S4 hN hi hloc rfl (fun s5 S5 => ?_) (.inr hln)
          refine wpAny_mono ((hsu a oe4 cls d (X.pn ++ pins) hz4 ⟨_, hd4⟩).run [] s5 _ H' _ S5 (hyes rfl a na)) (fun f s6 hsp => ?_) (fun _ _ z => False.elim z)
          cases f with
          | next => obtain ⟨σ6, H6, S6, q6⟩ := hsp; exact gone_ok (S6.unsuite ok) hN hi hln fun s7 J7 => ⟨_, _, J7, q6⟩
          | brk => obtain ⟨σ6, H6, S6, q6⟩ := hsp; exact gone_ok (S6.unsuite ok) hN hi hln fun s7 J7 => ⟨_, _, J7, q6⟩
          | cont => obtain ⟨σ6, H6, S6, q6⟩ := hsp; exact gone_ok (S6.unsuite ok) hN hi hln fun s7 J7 => ⟨_, _, J7, q6⟩
          | ret u => obtain ⟨v6, σ6, H6, S6, r6, q6⟩ := hsp; exact gone_ok (S6.unsuite ok) hN hi hln fun s7 J7 => ⟨_, _, _, J7, r6, q6⟩
    exact go hh w
end
end Wk

set_option Elab.async false
set_option linter.all false
set_option maxRecDepth 100000
set_option maxHeartbeats 4000000
namespace Wk
open PySem PySem.Spec PyProof.Rows L2 Evl
/-- an error class without a field -/
structure ErrN (K : PySem.W.Frag) (mg : Str → Option Value) (x : Str) (C : Addr) : Prop where
  g : mg x = some (.ref C)
  q : PySem.W.excIn K C [.type "ValueError", .type "Exception", .type "BaseException", .type "object"] "ValueError.__new__" = true
  k : PySem.W.keepIn K (.ref C) = true
  b : PySem.W.subIn K (.ref C) (.type "BaseException") = some true
  t : PySem.W.typeIn K (.ref C) = some (.type "type")
theorem pmk_errN {X : Cx} {K : PySem.W.Frag} {mg : Str → Option Value} {x : Str} {C : Addr} {p pos : Pos} (hK : X.K = K) (hm : X.mg = mg) (T : ErrN K mg x C) (hg : Gl X x) (hdb : (x == ("__debug__" : Str)) = false := by decide) :
    PMk X (.Call (.Name x p) [] [] pos) (fun _ H Q => Q (.ref C) none H) := by
  subst hK hm
  intro ps s σ H Q I h
  refine wpAny_Call_Name_kw (ld_glob I hg T.g ?_ hdb)
  refine PySem.W.callWith_K0 I.kIn T.k ?_
  show wpAny _ _ (call (.ref C) []) _ _ _
  obtain ⟨bm, N, nm, qn, bs, hdct, sn, sub, ab, col, dd, k0, k1, k2, k3, k5, mN, hC, hN, hni, T2⟩ := exc_obj I.kIn T.q
  refine wpAny_call_exc_subT PySem.F.excBase_ValueError T2 hC hN hni (fun h' e hm => ?_) (Nat.zero_le _)
  exact mk_of I hm (raises_own T.b T.t) h (I.hok.gone hm.new)
structure CalX (P : Program) (w : World) (K : PySem.W.Frag) (mg : Str → Option Value) (base : Heap) (x : Str) (ps : List Str) (k : Nat) (sp : Sp) : Prop where
  ex : ∃ (f : Addr) (fd : FuncData), FnOk P w K mg base (L2.CX P w) k f fd ps sp ∧ mg x = some (.ref f) ∧ PySem.W.keepIn K (.ref f) = true ∧ Binds K fd ps []
def isStr : PyData → Bool
  | .str _ => true
  | _ => false
theorem kit_str (d : PyData) : kitB (tyN d) "str" = some (isStr d) := by
  cases d with
  | none => exact show kitB "NoneType" "str" = some false by decide +kernel
  | bool b => exact show kitB "bool" "str" = some false by decide +kernel
  | int i => exact show kitB "int" "str" = some false by decide +kernel
  | str z => exact show kitB "str" "str" = some true by decide +kernel
  | list ds => exact show kitB "list" "str" = some false by decide +kernel
  | tuple ds => exact show kitB "tuple" "str" = some false by decide +kernel
  | dict ds => exact show kitB "dict" "str" = some false by decide +kernel
theorem tu_inv {H : Hp} {v : V} {d : PyData} (hd : Dq H v d) (h : isTu d = true) : ∃ (a : Addr) (xs : List V) (ds : List PyData), v = .ref a ∧ d = .tuple ds ∧ H a = some (.tup xs) ∧ DqA H xs ds := by
  cases hd <;> first | (cases h; done) | skip
  rename_i a xs ds h1 h2
  exact ⟨a, xs, ds, rfl, rfl, h1, h2⟩
theorem pss_when {X : Cx} {l : List Stmt} {t : TS} {c : Prop} (h : c → PSs X l t) : PSs X l (fun D σ H => c ∧ t D σ H) := ⟨fun pins s σ H D I hh => (h hh.1).run pins s σ H D I hh.2⟩
theorem call_isiK {X : Cx} {K : PySem.W.Frag} (hK : X.K = K) : CallR X (.builtin "isinstance") (rIsi K) := by
  subst hK
  exact call_isi
theorem call_isEK {X : Cx} {K : PySem.W.Frag} {a D : Addr} {oe : Obj} {pn : List (Addr × Obj)} (hK : X.K = K) (C : ExcC K D) (hz : Zc (.ref D) none oe) (hf : ∃ vs, oe.data = .fields vs) : CallR (X.suite a ((a, oe) :: pn)) (.builtin "isinstance") (rIsE K D a) := by
  subst hK
  exact call_isE C hz hf
theorem all_bad {f : PyData → Bool} {l : List PyData} (h : ∃ x, x ∈ l ∧ f x = false) : l.all f = false := by
  obtain ⟨x, hx, hf⟩ := h
  cases hc : l.all f with
  | false => rfl
  | true =>
    rw [List.all_eq_true.mp hc x hx] at hf
    cases hf
/-- a method that may raise -/
structure MskX (P : Program) (w : World) (K : PySem.W.Frag) (mg : Str → Option Value) (base : Heap) (CS : Addr) (m : Str) (ps : List Str) (n : Nat) (sp : Sp) : Prop where
  ex : ∃ (fM : Addr) (fd : FuncData), Meth K CS m fM ∧ FnOk P w K mg base (L2.CX P w) n fM fd ps sp ∧ Binds K fd ps []
def W0 : WX := fun _ _ _ _ => False
end Wk

set_option Elab.async false
set_option linter.all false
set_option maxRecDepth 100000
set_option maxHeartbeats 2000000
namespace Wk
open PySem PySem.Spec PyProof.Rows L2 Evl
/-! the pool: a dict of two lists and three numbers -/
abbrev kC : L2.Key := .inr "cells"
abbrev kG : L2.Key := .inr "great"
abbrev kH : L2.Key := .inr "held"
abbrev kS : L2.Key := .inr "state"
abbrev kM : L2.Key := .inr "many"
abbrev plV (c g : Addr) (h s m : Int) : List (L2.Key × V) := [(kC, .ref c), (kG, .ref g), (kH, .int h), (kS, .int s), (kM, .int m)]
theorem pl_c {c g : Addr} {h s m : Int} : valV (plV c g h s m) kC = some (.ref c) := valV_pos rfl
theorem pl_g {c g : Addr} {h s m : Int} : valV (plV c g h s m) kG = some (.ref g) := by
  rw [valV_neg (show ¬ kC = kG by decide +kernel)]
  exact valV_pos rfl
theorem pl_h {c g : Addr} {h s m : Int} : valV (plV c g h s m) kH = some (.int h) := by
  rw [valV_neg (show ¬ kC = kH by decide +kernel), valV_neg (show ¬ kG = kH by decide +kernel)]
  exact valV_pos rfl
theorem pl_s {c g : Addr} {h s m : Int} : valV (plV c g h s m) kS = some (.int s) := by
  rw [valV_neg (show ¬ kC = kS by decide +kernel), valV_neg (show ¬ kG = kS by decide +kernel), valV_neg (show ¬ kH = kS by decide +kernel)]
  exact valV_pos rfl
theorem pl_m {c g : Addr} {h s m : Int} : valV (plV c g h s m) kM = some (.int m) := by
  rw [valV_neg (show ¬ kC = kM by decide +kernel), valV_neg (show ¬ kG = kM by decide +kernel), valV_neg (show ¬ kH = kM by decide +kernel), valV_neg (show ¬ kS = kM by decide +kernel)]
  exact valV_pos rfl
theorem ne_ch : ¬ kC = kH := by decide +kernel
theorem ne_gh : ¬ kG = kH := by decide +kernel
theorem ne_sh : ¬ kS = kH := by decide +kernel
theorem ne_mh : ¬ kM = kH := by decide +kernel
theorem ne_cs : ¬ kC = kS := by decide +kernel
theorem ne_gs : ¬ kG = kS := by decide +kernel
theorem ne_hs : ¬ kH = kS := by decide +kernel
theorem ne_ms : ¬ kM = kS := by decide +kernel
theorem ne_cm : ¬ kC = kM := by decide +kernel
theorem ne_gm : ¬ kG = kM := by decide +kernel
theorem ne_hm : ¬ kH = kM := by decide +kernel
theorem ne_sm : ¬ kS = kM := by decide +kernel
theorem put_h {c g : Addr} {h s m x : Int} : putK (plV c g h s m) kH (.int x) = plV c g x s m := by
  simp only [putK, plV, List.any_cons, List.map_cons, List.map_nil, List.any_nil, if_neg ne_ch, if_neg ne_gh, if_neg ne_sh, if_neg ne_mh, decide_true, Bool.true_or, Bool.or_true, if_true]
theorem put_s {c g : Addr} {h s m x : Int} : putK (plV c g h s m) kS (.int x) = plV c g h x m := by
  simp only [putK, plV, List.any_cons, List.map_cons, List.map_nil, List.any_nil, if_neg ne_cs, if_neg ne_gs, if_neg ne_hs, if_neg ne_ms, decide_true, Bool.true_or, Bool.or_true, if_true]
theorem put_m {c g : Addr} {h s m x : Int} : putK (plV c g h s m) kM (.int x) = plV c g h s x := by
  simp only [putK, plV, List.any_cons, List.map_cons, List.map_nil, List.any_nil, if_neg ne_cm, if_neg ne_gm, if_neg ne_hm, if_neg ne_sm, decide_true, Bool.true_or, Bool.or_true, if_true]
/-- the pool is the dict at p, its list of great ones at g, its cells at c, which stay; G is what stays -/
structure Pq (G H : Hp) (p g c : Addr) : Prop where
  ex : Ex G H
  gp : G p = none
  gg : G g = none
  ne : p ≠ g
  at_ : ∃ (cs gs : List Int) (h s m : Int), G c = some (.lst (cs.map V.int)) ∧ 1 ≤ cs.length ∧ cs.length ≤ 64 ∧ H p = some (.dK (plV c g h s m)) ∧ H g = some (.lst (gs.map V.int)) ∧ (∀ x ∈ gs, 0 ≤ x) ∧ gs.length ≤ 63 ∧ 0 ≤ h ∧ 0 ≤ m
def Of2 (p g : Addr) (H H' : Hp) : Prop := ∀ b o, b ≠ p → b ≠ g → H b = some o → H' b = some o
theorem Of2.refl (p g : Addr) (H : Hp) : Of2 p g H H := fun _ _ _ _ h => h
theorem Of2.trans {p g : Addr} {H H1 H2 : Hp} (a : Of2 p g H H1) (b : Of2 p g H1 H2) : Of2 p g H H2 := fun c o h1 h2 h => b c o h1 h2 (a c o h1 h2 h)
theorem Of2.ex {p g : Addr} {H H1 : Hp} (e : Ex H H1) : Of2 p g H H1 := fun c o _ _ h => e c o h
section
variable {G H : Hp} {p g c : Addr}
theorem Pq.p_at (h : Pq G H p g c) : ∃ o, H p = some o := by
  obtain ⟨_, _, _, _, _, _, _, _, h1, _⟩ := h.at_
  exact ⟨_, h1⟩
theorem Pq.g_at (h : Pq G H p g c) : ∃ o, H g = some o := by
  obtain ⟨_, _, _, _, _, _, _, _, _, h1, _⟩ := h.at_
  exact ⟨_, h1⟩
theorem Pq.np (h : Pq G H p g c) {a : Addr} (ha : H a = none) : a ≠ p := fun z => by
  obtain ⟨o, h1⟩ := h.p_at
  rw [z, h1] at ha
  cases ha
theorem Pq.ng (h : Pq G H p g c) {a : Addr} (ha : H a = none) : a ≠ g := fun z => by
  obtain ⟨o, h1⟩ := h.g_at
  rw [z, h1] at ha
  cases ha
theorem Pq.ext (h : Pq G H p g c) {H' : Hp} (e : Ex H H') : Pq G H' p g c := by
  obtain ⟨cs, gs, a, s, m, h1, h2, h3, h4, h5, r⟩ := h.at_
  exact ⟨h.ex.trans e, h.gp, h.gg, h.ne, cs, gs, a, s, m, h1, h2, h3, e _ _ h4, e _ _ h5, r⟩
theorem Pq.new (h : Pq G H p g c) {a : Addr} {o : HO} (ha : H a = none) : Pq (upd G a o) (upd H a o) p g c := by
  obtain ⟨cs, gs, k, s, m, h1, h2, h3, h4, h5, r⟩ := h.at_
  have ga := fresh_back h.ex ha
  have np := h.np ha
  have ng := h.ng ha
  refine ⟨fun b u hb => ?_, by rw [upd_ne (Ne.symm np)]; exact h.gp, by rw [upd_ne (Ne.symm ng)]; exact h.gg, h.ne, cs, gs, k, s, m, (Ex.new ga) _ _ h1, h2, h3, (Ex.new ha) _ _ h4, (Ex.new ha) _ _ h5, r⟩
  by_cases c : b = a
  · rw [c, upd_same] at hb ⊢
    exact hb
  · rw [upd_ne c] at hb ⊢
    exact h.ex _ _ hb
theorem Pq.mut (h : Pq G H p g c) {a : Addr} {o : HO} (ga : G a = none) (np : a ≠ p) (ng : a ≠ g) : Pq G (upd H a o) p g c := by
  obtain ⟨cs, gs, k, s, m, h1, h2, h3, h4, h5, r⟩ := h.at_
  exact ⟨Ex.mut h.ex ga, h.gp, h.gg, h.ne, cs, gs, k, s, m, h1, h2, h3, by rw [upd_ne (Ne.symm np)]; exact h4, by rw [upd_ne (Ne.symm ng)]; exact h5, r⟩
theorem Pq.hold (h : Pq G H p g c) {a : Addr} {o : HO} (ha : H a = some o) (np : a ≠ p) (ng : a ≠ g) (ga : G a = none) : Pq (upd G a o) H p g c := by
  obtain ⟨cs, gs, k, s, m, h1, h2, h3, r⟩ := h.at_
  refine ⟨fun b u hb => ?_, by rw [upd_ne (Ne.symm np)]; exact h.gp, by rw [upd_ne (Ne.symm ng)]; exact h.gg, h.ne, cs, gs, k, s, m, (Ex.new ga) _ _ h1, h2, h3, r⟩
  by_cases c : b = a
  · rw [c, upd_same] at hb
    cases hb
    rw [c]
    exact ha
  · rw [upd_ne c] at hb
    exact h.ex _ _ hb
end
open Classical in
noncomputable def Hd2 (H : Hp) (p g : Addr) : Hp := fun b => if b = p ∨ b = g then none else H b
theorem hd2_at {H : Hp} {p g b : Addr} (hp : b ≠ p) (hg : b ≠ g) : Hd2 H p g b = H b := by
  unfold Hd2
  rw [if_neg (fun z => z.elim hp hg)]
section
variable {G H : Hp} {p g c : Addr}
theorem Pq.sub (h : Pq G H p g c) : Ex G (Hd2 H p g) := fun b o hb => by
  have hp : b ≠ p := fun z => by rw [z, h.gp] at hb; cases hb
  have hg : b ≠ g := fun z => by rw [z, h.gg] at hb; cases hb
  rw [hd2_at hp hg]
  exact h.ex _ _ hb
theorem Pq.hd (h : Pq G H p g c) : Pq (Hd2 H p g) H p g c := by
  obtain ⟨cs, gs, k, s, m, h1, r⟩ := h.at_
  refine ⟨fun b o hb => ?_, by unfold Hd2; rw [if_pos (Or.inl rfl)], by unfold Hd2; rw [if_pos (Or.inr rfl)], h.ne, cs, gs, k, s, m, h.sub _ _ h1, r⟩
  unfold Hd2 at hb
  split at hb
  · cases hb
  · exact hb
theorem Pq.off {H' : Hp} (h : Pq (Hd2 H p g) H' p g c) : Of2 p g H H' := fun b o hp hg hb => h.ex b o (by rw [hd2_at hp hg]; exact hb)
theorem Pq.back {H' : Hp} (h0 : Pq G H p g c) (h : Pq (Hd2 H p g) H' p g c) : Pq G H' p g c := by
  obtain ⟨cs, gs, k, s, m, h1, h2, h3, r⟩ := h.at_
  obtain ⟨cs0, _, _, _, _, g1, g2, g3, _⟩ := h0.at_
  exact ⟨h0.sub.trans h.ex, h0.gp, h0.gg, h0.ne, cs0, gs, k, s, m, g1, g2, g3, r⟩
end
/-! what stays grows by new things only -/
structure Gq (p g c : Addr) (G H G' H' : Hp) : Prop where
  ex : Ex G G'
  nw : ∀ b, G b = none → H b ≠ none → G' b = none
  off : Of2 p g H H'
  pl : Pq G' H' p g c
section
variable {p g c : Addr}
theorem Gq.refl {G H : Hp} (h : Pq G H p g c) : Gq p g c G H G H := ⟨Ex.refl _, fun _ h _ => h, Of2.refl _ _ _, h⟩
theorem Gq.trans {G H G1 H1 G2 H2 : Hp} (a : Gq p g c G H G1 H1) (b : Gq p g c G1 H1 G2 H2) : Gq p g c G H G2 H2 := by
  refine ⟨a.ex.trans b.ex, fun x hc hh => ?_, a.off.trans b.off, b.pl⟩
  by_cases cp : x = p
  · rw [cp]; exact b.pl.gp
  by_cases cg : x = g
  · rw [cg]; exact b.pl.gg
  refine b.nw x (a.nw x hc hh) ?_
  cases hx : H x with
  | none => exact absurd hx hh
  | some o => rw [a.off x o cp cg hx]; simp
theorem Gq.new {t : Addr} {G H : Hp} {o : HO} (h : Pq G H p g c) (ht : H t = none) : Gq p g c G H (upd G t o) (upd H t o) := by
  refine ⟨Ex.new (fresh_back h.ex ht), fun b hb hh => ?_, Of2.ex (Ex.new ht), h.new ht⟩
  have nb : b ≠ t := fun z => hh (by rw [z]; exact ht)
  rw [upd_ne nb]
  exact hb
theorem Gq.ext {G H H' : Hp} (h : Pq G H p g c) (e : Ex H H') : Gq p g c G H G H' := ⟨Ex.refl _, fun _ h _ => h, Of2.ex e, h.ext e⟩
theorem Gq.draw {G H H' : Hp} (h : Pq G H p g c) (h' : Pq (Hd2 H p g) H' p g c) : Gq p g c G H G H' := ⟨Ex.refl _, fun _ h _ => h, h'.off, h.back h'⟩
end
end Wk

set_option Elab.async false
set_option linter.all false
set_option maxRecDepth 100000
set_option maxHeartbeats 4000000
namespace Wk
open PySem PySem.Spec PyProof.Rows L2 Evl
theorem rng_getD (ns : List Int) : (List.range ns.length).map (fun i => V.int (ns.getD i 0)) = ns.map V.int := by
  apply List.ext_getElem
  · simp
  · intro i h1 h2
    have h3 : i < ns.length := by simpa using h1
    simp [List.getD_eq_getElem?_getD, List.getElem?_eq_getElem h3]
theorem given_yesAll (n : Nat) (v : Nat → V) : given n (fun _ => true) v = (List.range n).map v := by
  unfold given
  rw [List.filter_eq_self.mpr fun _ _ => rfl]
theorem cut_all {ns : List Int} (h : ns.length ≤ 63) : cutV (ns.map V.int) none (some 63) = ns.map V.int := by
  unfold cutV
  rw [HT.sIx_none, show ((63 : Int)) = ((63 : Nat) : Int) from rfl, HT.sIx_nat, List.length_map, Nat.min_eq_right h]
  simp
  exact List.take_of_length_le (by simp)
theorem getD_at {ns : List Int} {i : Nat} {x : V} (hx : (ns.map V.int)[i]? = some x) : x = .int (ns.getD i 0) := by
  rw [List.getElem?_map] at hx
  cases hn : ns[i]? with
  | none => rw [hn] at hx; cases hx
  | some n =>
    rw [hn] at hx
    rw [show ns.getD i 0 = n by rw [List.getD_eq_getElem?_getD, hn]; rfl]
    exact (Option.some.inj hx).symm
theorem mergeK_new : ∀ (more acc : List (L2.Key × V)), ((acc ++ more).map Prod.fst).Nodup → mergeK acc more = acc ++ more
  | [], acc, _ => by rw [List.append_nil]; rfl
  | p :: r, acc, h => by
    have hn : valV acc p.1 = none := by
      cases hv : valV acc p.1 with
      | none => rfl
      | some v =>
        exfalso
        have hm : p.1 ∈ acc.map Prod.fst := by
          clear h
          induction acc with
          | nil => cases hv
          | cons q s ih =>
            by_cases c : q.1 = p.1
            · rw [List.map_cons, c]; exact List.mem_cons_self
            · obtain ⟨a, b⟩ := q
              rw [valV_neg c] at hv
              exact List.mem_cons_of_mem _ (ih hv)
        rw [List.map_append, List.nodup_append] at h
        exact h.2.2 _ hm _ (by rw [List.map_cons]; exact List.mem_cons_self) rfl
    show mergeK (putK acc p.1 p.2) r = _
    rw [putK_new p.2 hn]
    have e : acc ++ [(p.1, p.2)] ++ r = acc ++ p :: r := by simp
    rw [← e]
    exact mergeK_new r _ (by rw [e]; exact h)
theorem merge_pl {c g : Addr} {h s m : Int} : mergeK [] (plV c g h s m) = plV c g h s m := by
  have z := mergeK_new (plV c g h s m) [] (show [kC, kG, kH, kS, kM].Nodup by decide +kernel)
  rw [List.nil_append] at z
  exact z
def absI (i : Int) : Int := if i < 0 then -i else i
theorem absI_nn (i : Int) : 0 ≤ absI i := by unfold absI; split <;> omega
section
variable {P : Program} {w : World} {K : PySem.W.Frag} {mg : Str → Option Value} {base : Heap} {f : Addr} {fd : FuncData}
/-! _law_pool -/
def spPool (K : PySem.W.Frag) : Sp := fun vs H Q _ => ∃ (a : Addr) (ns : List Int), vs = [.ref a] ∧ SqL K H a (ns.map V.int) ∧ ns.length ≤ 63 ∧ ∀ G H' p g c, Ex H G → Pq G H' p g c → Q (.ref p) H'
abbrev sPool : Stmt := top 27
abbrev nPool : List Str := ["_law_script", "_law_cells", "_law_great", "_law_state", "_law_cell"]
theorem scPool : FnScope nPool ["_law_script"] (defScope sPool) := ⟨rfl, rfl, rfl, by decide +kernel, rfl, by decide +kernel, by decide +kernel⟩
theorem ok_pool (B : Bl mg) (F : FnP K "_law_pool" sPool f fd) : FnOk P w K mg base CX0 1 f fd ["_law_script"] (spPool K) := by
  refine F.ok scPool (fun vs H Q E h => ?_) (fun cdv A outer s H vs Q E hr h => ?_)
  · obtain ⟨a, ns, rfl, _⟩ := h
    rfl
  · obtain ⟨a, ns, rfl, hs, hl, k⟩ := h
    refine ⟨_, pss_cons (ps_setLc (i := 1) (own := [("_law_cell", 4)]) (g := gName 4) (tt := tYes) rfl scPool.nd rfl rfl (sw_true rfl rfl rfl (by decide +kernel)) (pi_list (pe_slice sl_list (pv 0) po_none (po_some pe_int))) (blkOk_by (N := nPool) (sc := defScope sPool) (by decide +kernel))
          (fun _ _ _ _ _ => pg_name (i := 4) scPool.nd rfl (Or.inl rfl)) (fun _ _ _ _ _ => pts_nil)
          (fun _ _ _ _ _ => pe_callTy call_int1 (by rfl) B.int PyProof.Rows.boot_int (pa_cons (pv 4) pa_nil)))
      (pss_cons (ps_setLc (i := 2) (own := [("_law_cell", 4)]) (g := gName 4) rfl scPool.nd rfl rfl (sw_true rfl rfl rfl (by decide +kernel)) (pi_list (pv 1)) (blkOk_by (N := nPool) (sc := defScope sPool) (by decide +kernel))
          (fun _ _ _ _ _ => pg_name (i := 4) scPool.nd rfl (Or.inl rfl)) (fun _ _ _ _ _ => pts_one (pt_cmpR op_ge (pe_callB call_abs (by rfl) B.abs boot_abs (pa_cons (pv 4) pa_nil)) (pe_op op_pow pe_int pe_int) (nomark _)))
          (fun _ _ _ _ _ => pe_callB call_abs (by rfl) B.abs boot_abs (pa_cons (pv 4) pa_nil)))
      (pss_cons (ps_set (i := 3) scPool.nd rfl (Or.inl rfl) pe_int)
      (pss_cons (ps_for (passes_of rfl) rfl (pi_list (pv 1)) (pg_name (i := 4) scPool.nd rfl (Or.inl rfl))
          (pss_one (ps_set (i := 3) scPool.nd rfl (Or.inl rfl) (pe_op op_mod (pe_callTy call_int1 (by rfl) B.int PyProof.Rows.boot_int (pa_cons (pe_op op_add (pe_op op_add (pe_op op_mul (pv 3) pe_int) (pe_op op_mod (pv 4) pe_int)) pe_int) pa_nil)) pe_int))))
      (pss_one (ps_ret (pe_disp (pps_cons pe_str (pe_op op_cat (pv 1) (pe_lst (pa_cons (pe_callB call_len_seq (by rfl) B.len PySem.boot_len (pa_cons (pv 1) pa_nil)) pa_nil)))
          (pps_cons pe_str (pv 2) (pps_cons pe_str pe_int (pps_cons pe_str (pv 3) (pps_cons pe_str pe_int pps_nil))))) rfl rfl (by simp) (by decide))))))), ?_⟩
    have hsl : EvL (tSl (rSlL K) (tVar 0) tNoPart (tPart (tC (.int 63)))) (wipe (start nPool [V.ref a]) [4]) H (ns.map V.int) := by
      have q := el_sl (K := K) (te := tVar 0) (σ := wipe (start nPool [V.ref a]) [4]) (H := H) (ev_var rfl) eo_none (eo_some (i := 63) ev_c) hs
      rw [cut_all hl] at q
      exact q
    have hlc := el_lcNL (K := K) (σ := start nPool [V.ref a]) (H := H) (j := 4) (vs := [4]) (te := tCB (fun xs H Q => (∃ i, xs = [.int i] ∧ Q (.int i) H) ∨ ∃ k, xs = [.bl k] ∧ Q (.int (if k then 1 else 0)) H) (tCons (tVar 4) tNil)) (t := tYes) (fun _ => true) (fun i => V.int (ns.getD i 0)) hsl (by rw [List.length_map]; omega) (fun x => rfl) (fun _ _ _ _ _ => et_yes) (fun i x H1 e hx _ => by
      rw [getD_at hx]
      exact ev_cb (ea_cons (ev_var rfl) ea_nil) fun H2 e2 Q2 q => .inl ⟨_, rfl, q H2 (Ex.refl H2)⟩)
    rw [given_yesAll, List.length_map, rng_getD] at hlc
    refine q_asgL hlc fun c H1 hc e1 hc1 => ?_
    refine q_asgL (el_lcL (K := K) (a := c) (xs := ns.map V.int) (fun i => decide ((10 : Int) ^ (18 : Int).toNat ≤ absI (ns.getD i 0))) (fun i => V.int (absI (ns.getD i 0))) (ev_var rfl) (sq_of hc1) (by rw [List.length_map]; omega) (fun x => rfl) (fun i x H2 e2 hx => by
      rw [getD_at hx]
      exact et_test fun H7 e7 Q7 q7 => ⟨_, rfl, _, rfl, 10, 18, rfl, rfl, ⟨by decide, by decide, by decide⟩, _, _, rfl, rfl, q7 H7 (Ex.refl _)⟩) (fun i x H2 e2 hx _ => by
      rw [getD_at hx]
      exact fun H7 e7 Q7 q7 => ⟨_, rfl, _, rfl, q7 H7 (Ex.refl _)⟩)) fun g H2 hg e2 hg2 => ?_
    have hgs : ∃ gs : List Int, H2 g = some (.lst (gs.map V.int)) ∧ (∀ x ∈ gs, 0 ≤ x) ∧ gs.length ≤ 63 := by
      refine ⟨(((List.range (ns.map V.int).length).filter fun i => decide ((10 : Int) ^ (18 : Int).toNat ≤ absI (ns.getD i 0)))).map fun i => absI (ns.getD i 0), ?_, ?_, ?_⟩
      · rw [hg2]
        unfold given
        rw [List.map_map]
        rfl
      · intro x hx
        rw [List.mem_map] at hx
        obtain ⟨i, _, rfl⟩ := hx
        exact absI_nn _
      · rw [List.length_map]
        have z := List.length_filter_le (fun i => decide ((10 : Int) ^ (18 : Int).toNat ≤ absI (ns.getD i 0))) (List.range (ns.map V.int).length)
        rw [List.length_range, List.length_map] at z
        rw [List.length_map]
        omega
    obtain ⟨gs, hgs1, hgs2, hgs3⟩ := hgs
    refine q_c ?_
    refine q_forLn (a := c) (xs := ns.map V.int) (K := K) (ev_var rfl) (sq_of (e2 _ _ hc1)) (fun i σ' H' => ∃ (s : Int) (o : Option V), σ' = [some (.ref a), some (.ref c), some (.ref g), some (.int s), o] ∧ Ex H2 H') (fun H3 e3 => ⟨20011, _, rfl, e3⟩) (fun i σ' H' _ h => by
      obtain ⟨_, _, _, e⟩ := h
      exact sq_of (e _ _ (e2 _ _ hc1))) (fun i x σ' H' hx h => ?_) (fun σ' H' h => ?_)
    · obtain ⟨s, o, rfl, e⟩ := h
      rw [getD_at hx]
      exact ⟨.int s, rfl, s, 48271, rfl, rfl, .inr ⟨by decide, by decide⟩, .int (ns.getD i 0), rfl, _, 2147483629, rfl, rfl, (show (0 : Int) < 2147483629 by decide), _, _, rfl, rfl, _, 1, rfl, rfl, .inl ⟨_, rfl, _, 2147483647, rfl, rfl, (show (0 : Int) < 2147483647 by decide), _, _, rfl, e⟩⟩
    · obtain ⟨s, o, rfl, e⟩ := h
      intro p hp
      have e3 := Ex.new (o := .dK []) hp
      have hc3 := e3 _ _ (e _ _ (e2 _ _ hc1))
      have hg3 := e3 _ _ (e _ _ hgs1)
      have hp3 : (upd H' p (.dK [])) p = some (.dK []) := upd_same
      generalize upd H' p (.dK []) = H3 at *
      refine ⟨.ref c, rfl, .ref c, rfl, ⟨c, _, rfl, .inl (sq_of hc3), by show 1 ≤ sizeLine; decide, fun l hl3 => ?_⟩⟩
      have e4 := Ex.new (o := .lst [V.int ((ns.map V.int).length : Int)]) hl3
      have hc4 := e4 _ _ hc3
      have hg4 := e4 _ _ hg3
      have hp4 := e4 _ _ hp3
      have hl4 : (upd H3 l (.lst [V.int ((ns.map V.int).length : Int)])) l = some (.lst [V.int ((ns.map V.int).length : Int)]) := upd_same
      generalize upd H3 l (.lst [V.int ((ns.map V.int).length : Int)]) = H4 at *
      refine ⟨c, l, _, _, rfl, rfl, hc4, hl4, by rw [List.length_map]; exact sz_of (by simp; omega), fun c' hc' => ?_⟩
      have e5 := Ex.new (o := .lst (ns.map V.int ++ [V.int ((ns.map V.int).length : Int)])) hc'
      have hg5 := e5 _ _ hg4
      have hp5 := e5 _ _ hp4
      have hc5 : (upd H4 c' (.lst (ns.map V.int ++ [V.int ((ns.map V.int).length : Int)]))) c' = some (.lst (ns.map V.int ++ [V.int ((ns.map V.int).length : Int)])) := upd_same
      have hcp : p ≠ c' := fun z => by rw [← z, hp4] at hc'; cases hc'
      have hcg : g ≠ c' := fun z => by rw [← z, hg4] at hc'; cases hc'
      generalize upd H4 c' (.lst (ns.map V.int ++ [V.int ((ns.map V.int).length : Int)])) = H5 at *
      refine ⟨.ref g, rfl, .int s, rfl, hp5, plV c' g 0 s 0, rfl, by show 5 ≤ 15; decide, ?_⟩
      rw [merge_pl]
      have hH5 : Ex H H5 := ((((e1.trans e2).trans e).trans e3).trans e4).trans e5
      have hHp : H p = none := fresh_back ((e1.trans e2).trans e) hp
      have hHg : H g = none := fresh_back e1 hg
      have hHc : H c' = none := fresh_back ((((e1.trans e2).trans e).trans e3).trans e4) hc'
      have hgp : p ≠ g := fun z => by
        rw [z] at hp
        have := e _ _ hgs1
        rw [hp] at this
        cases this
      have hll : ns.map V.int ++ [V.int ((ns.map V.int).length : Int)] = (ns ++ [((ns.map V.int).length : Int)]).map V.int := by simp
      rw [hll] at hc5
      refine k (upd H c' (.lst ((ns ++ [((ns.map V.int).length : Int)]).map V.int))) _ p g c' (Ex.new hHc) ⟨?_, by rw [upd_ne hcp]; exact hHp, by rw [upd_ne hcg]; exact hHg, hgp, _, gs, 0, s, 0, upd_same, by simp, by simp; omega, upd_same, by rw [upd_ne (Ne.symm hgp)]; exact hg5, hgs2, hgs3, by decide, by decide⟩
      refine Ex.mut (fun b o hb => ?_) (by rw [upd_ne hcp]; exact hHp)
      by_cases z : b = c'
      · rw [z, upd_same] at hb
        cases hb
        rw [z]
        exact hc5
      · rw [upd_ne z] at hb
        exact hH5 _ _ hb
end
end Wk

set_option Elab.async false
set_option linter.all false
set_option maxRecDepth 100000
set_option maxHeartbeats 4000000
namespace Wk
open PySem PySem.Spec PyProof.Rows L2 Evl
section
variable {G H : Hp} {p g c : Addr}
theorem Pq.put (h0 : Pq G H p g c) {h s m : Int} (hh : 0 ≤ h) (hm : 0 ≤ m) : Pq G (upd H p (.dK (plV c g h s m))) p g c := by
  obtain ⟨cs, gs, k, s', m', h1, h2, h3, h4, h5, h6, h7, h8, h9⟩ := h0.at_
  exact ⟨Ex.mut h0.ex h0.gp, h0.gp, h0.gg, h0.ne, cs, gs, h, s, m, h1, h2, h3, upd_same, by rw [upd_ne (Ne.symm h0.ne)]; exact h5, h6, h7, hh, hm⟩
theorem Pq.pop (h0 : Pq G H p g c) {gs : List Int} (h1 : ∀ x ∈ gs, 0 ≤ x) (h2 : gs.length ≤ 63) : Pq G (upd H g (.lst (gs.map V.int))) p g c := by
  obtain ⟨cs, gs', k, s', m', i1, i2, i3, i4, i5, i6, i7, i8, i9⟩ := h0.at_
  exact ⟨Ex.mut h0.ex h0.gg, h0.gp, h0.gg, h0.ne, cs, gs, k, s', m', i1, i2, i3, by rw [upd_ne h0.ne]; exact i4, upd_same, h1, h2, i8, i9⟩
end
section
variable {K : PySem.W.Frag} {σ : L2.St} {H : Hp} {ta te : TE} {tz : TS} {D : Ends}
theorem rd_up {H H' : Hp} {a : Addr} {u : HO} (e : Ex H H') (h : Rd H a u) : Rd H' a u := h.elim (fun h => .inl (e _ _ h)) fun ⟨o, h⟩ => .inr ⟨o, e _ _ h⟩
theorem ev_dgetS {a : Addr} {k : Str} {v : V} {kvs : List (L2.Key × V)} (ha : Ev ta σ H (.ref a)) (hr : Rd H a (.dK kvs)) (hv : valV kvs (.inr k) = some v) : Ev (tDGet ta (tC (.str k))) σ H v := fun H1 e Q q =>
  ha H1 e _ fun H2 e2 => show ∃ (a' : Addr) (v' : V), _ ∧ DGet H2 a' (.str k) (some v') ∧ Q v' H2 from ⟨a, v, rfl, .inl ⟨kvs, .inr k, rd_up (e.trans e2) hr, rfl, hv.symm⟩, q H2 e2⟩
theorem q_putS {p : Addr} {k : Str} {v : V} {kvs : List (L2.Key × V)} (ho : σ[0]? = some (some (.ref p))) (h : Ev te σ H v) (hp : H p = some (.dK kvs)) (hl : kvs.length < 1000) (q : ∀ H1, Ex H H1 → tz D σ (upd H1 p (.dK (putK kvs (.inr k) v)))) :
    tSeq (tAsg te (gSub (tVar 0) (tC (.str k)) rSetD)) tz D σ H :=
  h H (Ex.refl _) _ fun H1 e => ⟨.ref p, ho, p, _, rfl, DPut.k (k := .inr k) (e _ _ hp) (sz_lt (by omega)), q H1 e⟩
end
section
variable {P : Program} {w : World} {K : PySem.W.Frag} {mg : Str → Option Value} {base : Heap} {f : Addr} {fd : FuncData}
/-! _law_draw -/
def spDrw : Sp := fun vs H Q _ => ∃ (G : Hp) (p g c : Addr) (z : Int), vs = [.ref p, .int z] ∧ Pq G H p g c ∧ 0 < z ∧ z ≤ 1000000000 ∧ ∀ H' (i : Int), Pq G H' p g c → 0 ≤ i → i < z → Q (.int i) H'
abbrev sDrw : Stmt := top 28
abbrev nDrw : List Str := ["_law_pool_here", "_law_many", "_law_held", "_law_count", "_law_cell", "_law_state", "_law_mixed"]
theorem scDrw : FnScope nDrw ["_law_pool_here", "_law_many"] (defScope sDrw) := ⟨rfl, rfl, rfl, by decide +kernel, rfl, by decide +kernel, by decide +kernel⟩
theorem ok_drw (B : Bl mg) (F : FnP K "_law_draw" sDrw f fd) : FnOk P w K mg base CX0 1 f fd ["_law_pool_here", "_law_many"] spDrw := by
  refine F.ok scDrw (fun vs H Q E h => ?_) (fun cdv A outer s H vs Q E hr h => ?_)
  · obtain ⟨G, p, g, c, z, rfl, _⟩ := h
    rfl
  · obtain ⟨G, p, g, c, z, rfl, hP, hz, hz2, k⟩ := h
    have hu : (A.deeper (envOfC "_law_draw" (defScope sDrw) s.heap.objs.size f cdv)).units + 1 < cLine := by have := hr.un; omega
    refine ⟨_, pss_cut (ps_if (PW.pt (pw_and (pt_cmpR op_lt (pe_dget hu (pv 0) pe_str (fun _ _ => rfl)) pe_int (nomark _)) (pw_and1 (pt_cmpR op_gt (pe_callB call_len_seq (by rfl) B.len PySem.boot_len (pa_cons (pe_dget hu (pv 0) pe_str (fun _ _ => rfl)) pa_nil)) pe_int (nomark _)))))
          (pss_one (ps_asg (pe_bm PySem.F.plainAttrs_list PySem.F.slot_list_pop PySem.F.type_list_pop mt_popAt (pe_dget hu (pv 0) pe_str (fun _ _ => rfl)) (pa_cons pe_int pa_nil)) (pg_sub (pv 0) pe_str (set_dict hu)))) pss_nil)
      (pss_cons (ps_set (i := 2) scDrw.nd rfl (Or.inl rfl) (pe_callTy call_int1 (by rfl) B.int PyProof.Rows.boot_int (pa_cons (pe_dget hu (pv 0) pe_str (fun _ _ => rfl)) pa_nil)))
      (pss_cons (ps_if (pt_cmpR op_gt (pv 2) pe_int (nomark _))
          (pss_cons (ps_asg (pe_op op_fdiv (pv 2) (pv 1)) (pg_sub (pv 0) pe_str (set_dict hu)))
          (pss_one (ps_ret (pe_op op_mod (pv 2) (pv 1))))) pss_nil)
      (pss_cons (ps_set (i := 3) scDrw.nd rfl (Or.inl rfl) (pe_op op_add (pe_callTy call_int1 (by rfl) B.int PyProof.Rows.boot_int (pa_cons (pe_dget hu (pv 0) pe_str (fun _ _ => rfl)) pa_nil)) pe_int))
      (pss_cons (ps_asg (pv 3) (pg_sub (pv 0) pe_str (set_dict hu)))
      (pss_cons (ps_set (i := 4) scDrw.nd rfl (Or.inl rfl) (pe_op op_mod (pe_callTy call_int1 (by rfl) B.int PyProof.Rows.boot_int (pa_cons (pe_ix ix_list (pe_dget hu (pv 0) pe_str (fun _ _ => rfl)) (pe_op op_mod (pv 3) (pe_callB call_len_seq (by rfl) B.len PySem.boot_len (pa_cons (pe_dget hu (pv 0) pe_str (fun _ _ => rfl)) pa_nil))) (fun _ _ => rfl)) pa_nil)) pe_int))
      (pss_cons (ps_set (i := 5) scDrw.nd rfl (Or.inl rfl) (pe_op op_mod (pe_callTy call_int1 (by rfl) B.int PyProof.Rows.boot_int (pa_cons (pe_op op_add (pe_op op_add (pe_op op_mul (pe_callTy call_int1 (by rfl) B.int PyProof.Rows.boot_int (pa_cons (pe_dget hu (pv 0) pe_str (fun _ _ => rfl)) pa_nil)) pe_int) (pv 4)) (pe_op op_mul pe_int (pv 3))) pa_nil)) pe_int))
      (pss_cons (ps_asg (pv 5) (pg_sub (pv 0) pe_str (set_dict hu)))
      (pss_cons (ps_set (i := 6) scDrw.nd rfl (Or.inl rfl) (pe_op op_mod (pe_callTy call_int1 (by rfl) B.int PyProof.Rows.boot_int (pa_cons (pe_op op_mul (pv 5) (pe_op op_add (pe_op op_fdiv (pv 5) pe_int) pe_int)) pa_nil)) pe_int))
      (pss_cons (ps_set (i := 6) scDrw.nd rfl (Or.inl rfl) (pe_op op_mod (pe_callTy call_int1 (by rfl) B.int PyProof.Rows.boot_int (pa_cons (pe_op op_mul (pv 6) (pe_op op_add (pe_op op_fdiv (pv 6) pe_int) pe_int)) pa_nil)) pe_int))
      (pss_one (ps_ret (pe_op op_mod (pe_op op_fdiv (pv 6) pe_int) (pv 1))))))))))))), ?_⟩
    have hzz : z < 1073741824 := by omega
    refine q_cut (M := fun σ' H' => σ' = start nDrw [.ref p, .int z] ∧ Pq G H' p g c) ?_ ?_
    · obtain ⟨cs, gs, h, s, m, h1, h2, h3, h4, h5, h6, h7, h8, h9⟩ := hP.at_
      refine s_when (b := decide (h < 2) && decide (0 < ((gs.map V.int).length : Int))) (et_and (et_test (ev_op (r := rI0 fun i j => .bl (decide (i < j))) (ev_dgetS (ev_var rfl) (.inl h4) pl_h) ev_c rv_I0)) fun _ => et_test (ev_op (r := rI0 fun i j => .bl (decide (j < i))) (ev_len (K := K) (ev_dgetS (ev_var rfl) (.inl h4) pl_g) (sq_of h5)) ev_c rv_I0)) (fun hb H1 e1 => ?_) (fun _ H1 e1 => ⟨rfl, hP.ext e1⟩)
      rw [Bool.and_eq_true] at hb
      have hg0 := of_decide_eq_true hb.2
      rw [List.length_map] at hg0
      have hP1 := hP.ext e1
      have hp1 := e1 _ _ h4
      have hg1 := e1 _ _ h5
      have hi : (gs.map V.int)[0]? = some (.int (gs[0]'(by omega))) := by rw [List.getElem?_map, List.getElem?_eq_getElem (by omega)]; rfl
      refine ⟨.ref p, rfl, p, .ref g, rfl, .inl ⟨_, kG, .inl hp1, rfl, pl_g.symm⟩, Or.inl ⟨rfl, _, sq_of hg1⟩, g, _, 0, 0, .int (gs[0]'(by omega)), rfl, rfl, hg1, by decide, by decide, seqIx (k := 0) (by rw [List.length_map]; omega), hi, ?_⟩
      have hx0 : 0 ≤ gs[0]'(by omega) := h6 _ (List.getElem_mem _)
      have hP2 : Pq G (upd H1 g (.lst ((gs.eraseIdx 0).map V.int))) p g c := hP1.pop (fun x hx => h6 x (List.mem_of_mem_eraseIdx hx)) (by have := List.length_eraseIdx_le gs 0; omega)
      have hp2 : (upd H1 g (.lst ((gs.eraseIdx 0).map V.int))) p = some (.dK (plV c g h s m)) := by rw [upd_ne hP.ne]; exact hp1
      have em : (gs.map V.int).eraseIdx 0 = (gs.eraseIdx 0).map V.int := by cases gs <;> rfl
      rw [em]
      generalize upd H1 g (.lst ((gs.eraseIdx 0).map V.int)) = H2 at *
      refine ⟨.ref p, rfl, p, _, rfl, DPut.k (k := kH) hp2 (by show 5 < sizeLine; decide), rfl, ?_⟩
      rw [put_h]
      exact hP2.put hx0 h9
    · rintro σ' H1 ⟨rfl, hP1⟩
      obtain ⟨cs, gs, h, s, m, h1, h2, h3, h4, h5, h6, h7, h8, h9⟩ := hP1.at_
      refine ⟨.ref p, rfl, p, .int h, rfl, .inl ⟨_, kH, .inl h4, rfl, pl_h.symm⟩, .inl ⟨h, rfl, ?_⟩⟩
      refine g_name ?_
      refine q_when (b := decide (1 < h)) (et_test (ev_op (r := rI0 fun i j => .bl (decide (j < i))) (ev_var rfl) ev_c rv_I0)) (fun hb H2 e2 => ?_) (fun hb H2 e2 => ?_)
      · have hp2 := e2 _ _ h4
        have hP2 := hP1.ext e2
        have md := modP h z hz
        refine ⟨.int h, rfl, .int z, rfl, h, z, rfl, rfl, ⟨hz, hzz⟩, .ref p, rfl, p, _, rfl, DPut.k (k := kH) hp2 (by show 5 < sizeLine; decide), ?_⟩
        rw [put_h]
        exact ⟨.int h, rfl, .int z, rfl, h, z, rfl, rfl, hz, k _ _ (hP2.put (Int.ediv_nonneg h8 (by omega)) h9) md.1 md.2⟩
      · have hp2 := e2 _ _ h4
        have hP2 := hP1.ext e2
        refine ⟨.ref p, rfl, p, .int m, rfl, .inl ⟨_, kM, .inl hp2, rfl, pl_m.symm⟩, .inl ⟨m, rfl, m, 1, rfl, rfl, ?_⟩⟩
        refine g_name ?_
        change tSeq _ _ _ [some (.ref p), some (.int z), some (.int h), some (.int (m + 1)), none, none, none] H2
        have hm1 : 0 ≤ m + 1 := by omega
        generalize m + 1 = m1 at *
        refine q_putS (p := p) rfl (ev_var (i := 3) (v := .int m1) rfl) hp2 (by show 5 < 1000; decide) fun H3 e3 => ?_
        rw [put_m]
        have hP3 : Pq G (upd H3 p (.dK (plV c g h s m1))) p g c := (hP2.ext e3).put h8 hm1
        have hp3 : (upd H3 p (.dK (plV c g h s m1))) p = some (.dK (plV c g h s m1)) := upd_same
        generalize upd H3 p (.dK (plV c g h s m1)) = H4 at *
        have hc4 := hP3.ex _ _ h1
        have hcl : (0 : Int) < (cs.length : Int) := by omega
        have md := modP m1 (cs.length : Int) hcl
        obtain ⟨j, hj⟩ : ∃ j : Nat, m1 % (cs.length : Int) = (j : Int) := ⟨(m1 % (cs.length : Int)).toNat, by omega⟩
        have hjl : j < cs.length := by omega
        have hcj : (cs.map V.int)[j]? = some (.int cs[j]) := by rw [List.getElem?_map, List.getElem?_eq_getElem hjl]; rfl
        generalize cs[j] = v at *
        refine ⟨.ref p, rfl, p, .ref c, rfl, .inl ⟨_, kC, .inl hp3, rfl, pl_c.symm⟩, .int m1, rfl, .ref p, rfl, p, .ref c, rfl, .inl ⟨_, kC, .inl hp3, rfl, pl_c.symm⟩, c, _, rfl, .inl (sq_of hc4), m1, _, rfl, rfl, by rw [List.length_map]; exact hcl, ?_⟩
        rw [List.length_map]
        dsimp only
        rw [hj]
        refine ⟨c, _, (j : Int), .int v, rfl, rfl, sq_of hc4, atI_nat hcj, .inl ⟨v, rfl, v, 2147483629, rfl, rfl, (show (0 : Int) < 2147483629 by decide), ?_⟩⟩
        refine g_name ?_
        change tSeq _ _ _ [some (.ref p), some (.int z), some (.int h), some (.int m1), some (.int (v % 2147483629)), none, none] H4
        generalize v % 2147483629 = v1 at *
        refine ⟨.ref p, rfl, p, .int s, rfl, .inl ⟨_, kS, .inl hp3, rfl, pl_s.symm⟩, .inl ⟨s, rfl, s, 69621, rfl, rfl, .inr ⟨by decide, by decide⟩, .int v1, rfl, _, v1, rfl, rfl, .int m1, rfl, 30103, m1, rfl, rfl, .inl ⟨by decide, by decide⟩, _, _, rfl, rfl, .inl ⟨_, rfl, _, 2147483647, rfl, rfl, (show (0 : Int) < 2147483647 by decide), ?_⟩⟩⟩
        refine g_name ?_
        change tSeq _ _ _ [some (.ref p), some (.int z), some (.int h), some (.int m1), some (.int v1), some (.int ((s * 69621 + v1 + 30103 * m1) % 2147483647)), none] H4
        have hs1 := modP (s * 69621 + v1 + 30103 * m1) 2147483647 (by decide)
        generalize (s * 69621 + v1 + 30103 * m1) % 2147483647 = s1 at *
        refine q_putS (p := p) rfl (ev_var (i := 5) (v := .int s1) rfl) hp3 (by show 5 < 1000; decide) fun H5 e5 => ?_
        rw [put_s]
        have hP5 : Pq G (upd H5 p (.dK (plV c g h s1 m1))) p g c := (hP3.ext e5).put h8 hm1
        generalize upd H5 p (.dK (plV c g h s1 m1)) = H6 at *
        refine ⟨.int s1, rfl, .int s1, rfl, s1, 1009, rfl, rfl, ⟨by decide, by decide⟩, _, 48271, rfl, rfl, s1, _, rfl, rfl, .inl ⟨by omega, by omega⟩, .inl ⟨_, rfl, _, 2147483629, rfl, rfl, (show (0 : Int) < 2147483629 by decide), ?_⟩⟩
        refine g_name ?_
        change tSeq _ _ _ [some (.ref p), some (.int z), some (.int h), some (.int m1), some (.int v1), some (.int s1), some (.int ((s1 * (s1 / 1009 + 48271)) % 2147483629))] H6
        have hy := modP (s1 * (s1 / 1009 + 48271)) 2147483629 (by decide)
        generalize (s1 * (s1 / 1009 + 48271)) % 2147483629 = y at *
        refine ⟨.int y, rfl, .int y, rfl, y, 2003, rfl, rfl, ⟨by decide, by decide⟩, _, 40692, rfl, rfl, y, _, rfl, rfl, .inl ⟨by omega, by omega⟩, .inl ⟨_, rfl, _, 2147483399, rfl, rfl, (show (0 : Int) < 2147483399 by decide), ?_⟩⟩
        refine g_name ?_
        dsimp only
        change tRet _ _ [some (.ref p), some (.int z), some (.int h), some (.int m1), some (.int v1), some (.int s1), some (.int ((y * (y / 2003 + 40692)) % 2147483399))] H6
        generalize (y * (y / 2003 + 40692)) % 2147483399 = y1 at *
        have md2 := modP (y1 / 16) z hz
        exact ⟨.int y1, rfl, y1, 16, rfl, rfl, ⟨by decide, by decide⟩, .int z, rfl, _, z, rfl, rfl, hz, k _ _ hP5 md2.1 md2.2⟩
/-- a draw, as a call -/
theorem ev_drw {G H : Hp} {p g c : Addr} {z : Int} {Q : VK} (h : Pq G H p g c) (hz : 0 < z) (hz2 : z ≤ 1000000000) (k : ∀ H' (i : Int), Gq p g c G H G H' → 0 ≤ i → i < z → Q (.int i) H') (E : XK) : spDrw [.ref p, .int z] H Q E :=
  ⟨Hd2 H p g, p, g, c, z, rfl, h.hd, hz, hz2, fun H' i hP h0 h1 => k H' i (Gq.draw h hP) h0 h1⟩
end
end Wk

set_option Elab.async false
set_option linter.all false
set_option maxRecDepth 100000
set_option maxHeartbeats 4000000
namespace Wk
open PySem PySem.Spec PyProof.Rows L2 Evl
/-! texts of bits -/
abbrev T (l : List Nat) : Str := ⟨l.toArray⟩
theorem T_cat (a b : List Nat) : T a ++ T b = T (a ++ b) := TL.ext_tl (TL.tl_append (T a) (T b))
theorem T_inj {a b : List Nat} (h : T a = T b) : a = b := congrArg (fun x : Str => x.cps.toList) h
theorem T_len (a : List Nat) : (T a).length = a.length := by simp [T, Str.length]
def IsB (l : List Nat) : Prop := ∀ c ∈ l, c = 48 ∨ c = 49
theorem IsB.nil : IsB [] := fun _ h => by cases h
theorem IsB.app {a b : List Nat} (h : IsB a) (k : IsB b) : IsB (a ++ b) := fun c hc => (List.mem_append.mp hc).elim (h c) (k c)
theorem IsB.take {a : List Nat} (h : IsB a) (n : Nat) : IsB (a.take n) := fun c hc => h c (List.mem_of_mem_take hc)
theorem IsB.drop {a : List Nat} (h : IsB a) (n : Nat) : IsB (a.drop n) := fun c hc => h c (List.mem_of_mem_drop hc)
theorem t_empty : (Str.ofString "") = T [] := by decide +kernel
theorem t_zero : (Str.ofString (toString (0 : Int))) = T [48] := by decide +kernel
theorem t_one : (Str.ofString (toString (1 : Int))) = T [49] := by decide +kernel
def BitV (v : V) : Prop := v = .str (T [48]) ∨ v = .str (T [49])
theorem bits_of : ∀ us : List V, (∀ u ∈ us, BitV u) → ∃ l : List Nat, IsB l ∧ l.length = us.length ∧ us = l.map fun c => V.str (T [c])
  | [], _ => ⟨[], IsB.nil, rfl, rfl⟩
  | u :: us, h => by
    obtain ⟨l, h1, h2, h3⟩ := bits_of us fun x hx => h x (List.mem_cons_of_mem _ hx)
    rcases h u List.mem_cons_self with e | e
    · exact ⟨48 :: l, fun c hc => (List.mem_cons.mp hc).elim (fun z => .inl z) (h1 c), by simp [h2], by rw [List.map_cons, ← h3, e]⟩
    · exact ⟨49 :: l, fun c hc => (List.mem_cons.mp hc).elim (fun z => .inr z) (h1 c), by simp [h2], by rw [List.map_cons, ← h3, e]⟩
theorem joinL_ones : ∀ l : List Nat, TL.joinL [] (l.map fun c => [c]) = l
  | [] => rfl
  | [c] => rfl
  | c :: d :: r => by
    show [c] ++ ([] ++ TL.joinL [] ((d :: r).map fun c => [c])) = _
    rw [joinL_ones (d :: r)]
    rfl
theorem join_T (a : List Nat) (ys : List (List Nat)) : Txt.join (T a) (ys.map T) = T (TL.joinL a ys) := by
  rw [TL.join_eq]
  refine TL.ext_tl ?_
  rw [TL.tl_join]
  show TL.joinL a _ = TL.joinL a ys
  congr 1
  rw [List.map_map]
  exact List.map_id _
theorem join_bits (l : List Nat) : Txt.join (T []) (l.map fun c => T [c]) = T l := by
  have z := join_T [] (l.map fun c => [c])
  rw [List.map_map, joinL_ones] at z
  exact z
theorem sum_ones : ∀ l : List Nat, ((l.map fun c => T [c]).map (·.length)).sum = l.length
  | [] => rfl
  | c :: r => by
    rw [List.map_cons, List.map_cons, List.sum_cons, sum_ones r, List.length_cons]
    show 1 + r.length = _
    omega
/-! what is evaluated with draws -/
def EvP (p g c : Addr) (G : Hp) (te : TE) (σ : L2.St) (Y : V → Prop) : Prop := ∀ H, Pq G H p g c → ∀ Q : VK, (∀ H' v, Gq p g c G H G H' → Y v → Q v H') → te σ H Q
section
variable {p g c : Addr} {G : Hp} {σ : L2.St} {te ta tb : TE} {v : V} {Y : V → Prop}
theorem ep_ev (h : Ev te σ G v) (hy : Y v) : EvP p g c G te σ Y := fun H hP Q k => h H hP.ex _ fun H1 e1 => k H1 v (Gq.ext hP e1) hy
theorem ep_drw {i : Nat} {z : Int} {E : XK} (hp : σ[i]? = some (some (.ref p))) (hz : Ev te σ G (.int z)) (h0 : 0 < z) (h1 : z ≤ 1000000000) :
    EvP p g c G (tCall spDrw [] E (tCons (tVar i) (tCons te tNil))) σ (fun v => ∃ j : Int, v = .int j ∧ 0 ≤ j ∧ j < z) := fun H hP Q k =>
  ⟨.ref p, hp, hz H hP.ex _ fun H1 e1 => ev_drw (hP.ext e1) h0 h1 (fun H' i g1 h0 h1 => k H' _ ((Gq.ext hP e1).trans g1) ⟨i, rfl, h0, h1⟩) E⟩
theorem Gq.reset {H H' : Hp} {D : Addr} {o o' : HO} (hP : Pq G H p g c) (hD : H D = none) (h : Gq p g c G H (upd G D o) H') : Gq p g c G H (upd G D o') (upd H' D o') := by
  have gD := fresh_back hP.ex hD
  have np := hP.np hD
  have ng := hP.ng hD
  refine ⟨Ex.new gD, fun b hb hh => ?_, fun b u hp hg hb => ?_, ?_⟩
  · have nb : b ≠ D := fun z => hh (by rw [z]; exact hD)
    rw [upd_ne nb]
    exact hb
  · have nb : b ≠ D := fun z => by rw [z, hD] at hb; cases hb
    rw [upd_ne nb]
    exact h.off b u hp hg hb
  · obtain ⟨cs, gs, k, s, m, h1, h2, h3, h4, h5, r⟩ := h.pl.at_
    obtain ⟨cs0, _, _, _, _, i1, i2, i3, _⟩ := hP.at_
    have nc : c ≠ D := fun z => by rw [z, gD] at i1; cases i1
    refine ⟨fun b u hb => ?_, by rw [upd_ne (Ne.symm np)]; exact hP.gp, by rw [upd_ne (Ne.symm ng)]; exact hP.gg, hP.ne, cs0, gs, k, s, m, by rw [upd_ne nc]; exact i1, i2, i3, by rw [upd_ne (Ne.symm np)]; exact h4, by rw [upd_ne (Ne.symm ng)]; exact h5, r⟩
    by_cases z : b = D
    · rw [z, upd_same] at hb ⊢
      exact hb
    · rw [upd_ne z] at hb ⊢
      exact h.pl.ex _ _ (by rw [upd_ne z]; exact hb)
/-- a list comprehension over range(n) with draws, whose items are plain -/
theorem ep_lcR {j : Nat} {vs : List Nat} {M N : Nat} {H : Hp} {Q : VK} (hP : Pq G H p g c) (ha : EvP p g c G ta σ (fun v => ∃ n : Nat, v = .int (n : Int) ∧ M ≤ n ∧ n ≤ N)) (hN : N ≤ 1000) (hw : ∀ x, wipe ((wipe σ vs).set j (some x)) vs = wipe σ vs)
    (he : ∀ (G' : Hp) (i : Nat), Ex G G' → EvP p g c G' te ((wipe σ vs).set j (some (.int (i : Int)))) Y)
    (k : ∀ H' D us, H D = none → Gq p g c G H (upd G D (.lst us)) H' → M ≤ us.length → us.length ≤ N → (∀ u ∈ us, Y u) → Q (.ref D) H') : tLc (iRng1 (tCons ta tNil)) (gName j) tYes te vs σ H Q := by
  refine ha H hP _ fun H1 v g1 hv => ?_
  obtain ⟨n, rfl, hm, hn⟩ := hv
  have hP1 : Pq G H1 p g c := g1.pl
  refine ⟨(n : Int), rfl, by omega, by omega, fun D hD => ?_⟩
  have hHD : H D = none := by
    cases hx : H D with
    | none => rfl
    | some o =>
      rw [g1.off D o (hP1.np hD) (hP1.ng hD) hx] at hD
      cases hD
  refine lc_range (lo := 0) (n := (n : Int).toNat) (fun i H' => ∃ us : List V, us.length = i ∧ (∀ u ∈ us, Y u) ∧ Gq p g c G H1 (upd G D (.lst us)) H') ⟨[], rfl, (fun _ h => by cases h), Gq.new hP1 hD⟩ (fun i H' hi hh => ?_) (fun H' hh => ?_)
  · obtain ⟨us, h1, h2, h3⟩ := hh
    have e0 : (0 : Int) + (i : Int) = (i : Int) := Int.zero_add _
    show wipe ((wipe σ vs).set j (some (.int ((0 : Int) + (i : Int))))) vs = wipe σ vs ∧ te ((wipe σ vs).set j (some (.int ((0 : Int) + (i : Int))))) H' fun y H4 => ∃ acc, H4 D = some (.lst acc) ∧ acc.length < sizeLine ∧ ∃ us : List V, us.length = i + 1 ∧ (∀ u ∈ us, Y u) ∧ Gq p g c G H1 (upd G D (.lst us)) (upd H4 D (.lst (acc ++ [y])))
    rw [e0]
    refine ⟨hw _, he (upd G D (.lst us)) i h3.ex H' h3.pl _ fun H4 y g4 hy => ?_⟩
    have g5 := h3.trans g4
    refine ⟨us, g5.pl.ex _ _ upd_same, sz_lt (by omega), us ++ [y], by simp [h1], fun u hu => (List.mem_append.mp hu).elim (h2 u) fun z => by rw [List.mem_singleton.mp z]; exact hy, ?_⟩
    exact Gq.reset hP1 hD g5
  · obtain ⟨us, h1, h2, h3⟩ := hh
    exact k H' D us hHD (g1.trans h3) (by omega) (by omega) h2
end
section
variable {P : Program} {w : World} {K : PySem.W.Frag} {mg : Str → Option Value} {base : Heap} {f : Addr} {fd : FuncData}
/-- str of a drawn bit -/
theorem ep_bit {p g c : Addr} {G : Hp} {σ : L2.St} {i : Nat} {E : XK} (hp : σ[i]? = some (some (.ref p))) :
    EvP p g c G (tCB (fun xs H Q => ∃ i : Int, xs = [.int i] ∧ i.natAbs.log2 < 1920 ∧ Q (.str (toString i)) H) (tCons (tCall spDrw [] E (tCons (tVar i) (tCons (tC (.int 2)) tNil))) tNil)) σ BitV := fun H hP Q k => by
  refine ep_drw (z := 2) hp ev_c (by decide) (by decide) H hP _ fun H' v g1 hv => ?_
  obtain ⟨j, rfl, h0, h1⟩ := hv
  have hj : j = 0 ∨ j = 1 := by omega
  rcases hj with rfl | rfl
  · exact ⟨0, rfl, by decide, k H' _ g1 (.inl (congrArg V.str t_zero))⟩
  · exact ⟨1, rfl, by decide, k H' _ g1 (.inr (congrArg V.str t_one))⟩
/-- ''.join of drawn bits -/
theorem ep_bits {p g c : Addr} {G : Hp} {σ : L2.St} {ta : TE} {i j : Nat} {vs : List Nat} {E : XK} {M N : Nat} (hp : (wipe σ vs)[i]? = some (some (.ref p))) (hij : i ≠ j) (ha : EvP p g c G ta σ (fun v => ∃ n : Nat, v = .int (n : Int) ∧ M ≤ n ∧ n ≤ N)) (hN : N ≤ 1000) (hw : ∀ x, wipe ((wipe σ vs).set j (some x)) vs = wipe σ vs) :
    EvP p g c G (tM1 (fun x xs H Q => ∃ a p, ∃ ys : List Str, x = .str a ∧ xs = [.ref p] ∧ (SqL K H p (ys.map V.str) ∨ SqT K H p (ys.map V.str)) ∧ (ys.map (·.length)).sum + ys.length * a.length ≤ 16777216 ∧ Q (.str (Txt.join a ys)) H) (tC (.str ""))
      (tLc (iRng1 (tCons ta tNil)) (gName j) tYes (tCB (fun xs H Q => ∃ i : Int, xs = [.int i] ∧ i.natAbs.log2 < 1920 ∧ Q (.str (toString i)) H) (tCons (tCall spDrw [] E (tCons (tVar i) (tCons (tC (.int 2)) tNil))) tNil)) vs)) σ
      (fun v => ∃ l, v = .str (T l) ∧ IsB l ∧ M ≤ l.length ∧ l.length ≤ N) := fun H hP Q k => by
  refine ⟨⟨_, rfl⟩, ?_⟩
  refine ep_lcR (Y := BitV) hP ha hN hw (fun G' n e => ep_bit (by rw [List.getElem?_set_ne (Ne.symm hij)]; exact hp)) fun H' D us hD g1 hml hl hY => ?_
  obtain ⟨l, hb, hl2, rfl⟩ := bits_of us hY
  have hDl := g1.pl.ex _ _ upd_same
  refine ⟨_, D, l.map fun c => T [c], rfl, rfl, .inl (sq_of (by rw [List.map_map]; exact hDl)), ?_, ?_⟩
  · rw [sum_ones, t_empty]
    show l.length + _ * 0 ≤ _
    omega
  · rw [t_empty, join_bits]
    have gD := fresh_back hP.ex hD
    refine k H' _ ⟨Ex.refl _, fun b h _ => h, g1.off, ?_⟩ ⟨l, rfl, hb, by omega, by omega⟩
    obtain ⟨cs, gs, k, s, m, h1, h2, h3, h4, h5, r⟩ := g1.pl.at_
    obtain ⟨cs0, _, _, _, _, i1, i2, i3, _⟩ := hP.at_
    exact ⟨(Ex.new gD).trans g1.pl.ex, hP.gp, hP.gg, hP.ne, cs0, gs, k, s, m, i1, i2, i3, h4, h5, r⟩
/-! _law_bits -/
def spBits : Sp := fun vs H Q _ => ∃ (G : Hp) (p g c : Addr) (m : Nat), vs = [.ref p, .int (m : Int)] ∧ Pq G H p g c ∧ m ≤ 10 ∧ ∀ H' l, Gq p g c G H G H' → IsB l → l.length ≤ m → Q (.str (T l)) H'
abbrev sBits : Stmt := top 29
abbrev nBits : List Str := ["_law_pool_here", "_law_most", "_law_k"]
theorem scBits : FnScope nBits ["_law_pool_here", "_law_most"] (defScope sBits) := ⟨rfl, rfl, rfl, by decide +kernel, rfl, by decide +kernel, by decide +kernel⟩
theorem ok_bits (B : Bl mg) (C : Cal P w K mg base "_law_draw" ["_law_pool_here", "_law_many"] 1 spDrw) (F : FnP K "_law_bits" sBits f fd) : FnOk P w K mg base CX0 2 f fd ["_law_pool_here", "_law_most"] spBits := by
  refine F.ok scBits (fun vs H Q E h => ?_) (fun cdv A outer s H vs Q E hr h => ?_)
  · obtain ⟨G, p, g, c, m, rfl, _⟩ := h
    rfl
  · obtain ⟨G, p, g, c, m, rfl, hP, hm, k⟩ := h
    refine ⟨_, pss_one (ps_ret (pe_join pe_str (pe_lc (own := [("_law_k", 2)]) (g := gName 2) (tt := tYes) rfl scBits.nd (pi_range1 (by rfl) B.range (pa_cons (pe_cal C hr (by rfl) (pa_cons (pv 0) (pa_cons (pe_op op_add (pv 1) pe_int) pa_nil))) pa_nil)) (blkOk_by (N := nBits) (sc := defScope sBits) (by decide +kernel))
          (fun _ _ _ _ _ => pg_name (i := 2) scBits.nd rfl (Or.inl rfl)) (fun _ _ _ _ _ => pts_nil)
          (fun _ _ _ _ _ => pe_callTy call_str_int (by rfl) B.str PyProof.Rows.boot_str (pa_cons (pe_cal C hr (by rfl) (pa_cons (pv 0) (pa_cons pe_int pa_nil))) pa_nil))))), ?_⟩
    refine ep_bits (K := K) (G := G) (g := g) (c := c) (M := 0) (N := m) (i := 0) (j := 2) rfl (by decide) (fun H1 hP1 Q1 k1 => ep_drw (z := (m : Int) + 1) rfl (ev_op (r := rI0 fun i j => .int (i + j)) (ev_var rfl) ev_c rv_I0) (by omega) (by omega) H1 hP1 _ fun H2 v g2 hv => ?_) (by omega) (fun x => rfl) H hP _ fun H' v g1 hv => ?_
    · obtain ⟨j, rfl, h0, h1⟩ := hv
      exact k1 H2 _ g2 ⟨j.toNat, by rw [Int.toNat_of_nonneg h0], by omega, by omega⟩
    · obtain ⟨l, rfl, hb, _, hl⟩ := hv
      exact k H' l g1 hb hl
end
end Wk

set_option Elab.async false
set_option linter.all false
set_option maxRecDepth 100000
set_option maxHeartbeats 4000000
namespace Wk
open PySem PySem.Spec PyProof.Rows L2 Evl
/-! rows: a text of bits and where to -/
abbrev Row := List Nat × V
def NxV (v : V) : Prop := v = .str "here" ∨ v = .str "drop" ∨ ∃ i : Nat, i < 8 ∧ v = .int (i : Int)
def kvOf (es : List Row) : List (L2.Key × V) := es.map fun e => (.inr (T e.1), e.2)
theorem kv_len (es : List Row) : (kvOf es).length = es.length := List.length_map ..
theorem kv_keys (es : List Row) : (kvOf es).map (·.1) = (es.map fun e => T e.1).map Sum.inr := by
  unfold kvOf
  rw [List.map_map, List.map_map]
  rfl
theorem key_eq {a b : List Nat} : ((.inr (T a) : L2.Key) = .inr (T b)) = (a = b) := propext ⟨fun h => T_inj (by injection h), fun h => by rw [h]⟩
theorem kv_put (es : List Row) (l : List Nat) (v : V) : putK (kvOf es) (.inr (T l)) v = kvOf (putK es l v) := by
  have h1 : ((kvOf es).any fun kv => decide (kv.1 = (.inr (T l) : L2.Key))) = es.any fun kv => decide (kv.1 = l) := by
    unfold kvOf
    rw [List.any_map]
    congr 1
    funext e
    simp only [Function.comp, key_eq]
  unfold putK
  rw [h1]
  split
  · unfold kvOf
    rw [List.map_map, List.map_map]
    refine List.map_congr_left fun e _ => ?_
    simp only [Function.comp, key_eq]
    split <;> rfl
  · unfold kvOf
    rw [List.map_append]
    rfl
theorem kv_val (l : List Nat) : ∀ es : List Row, valV (kvOf es) (.inr (T l)) = valV es l
  | [] => rfl
  | e :: es => by
    obtain ⟨a, v⟩ := e
    by_cases h : a = l
    · rw [valV_pos h]
      exact valV_pos (by rw [h])
    · rw [valV_neg h, ← kv_val l es]
      exact valV_neg (fun z => h (T_inj (by injection z)))
theorem putK_mem {es : List Row} {l : List Nat} {v : V} {e : Row} (h : e ∈ putK es l v) : e = (l, v) ∨ e ∈ es := by
  unfold putK at h
  split at h
  · obtain ⟨x, hx, hh⟩ := List.mem_map.mp h
    split at hh
    · rename_i c
      rw [← hh, c]
      exact .inl rfl
    · rw [← hh]; exact .inr hx
  · rcases List.mem_append.mp h with h | h
    · exact .inr h
    · exact .inl (List.mem_singleton.mp h)
theorem putK_ndE {es : List Row} {l : List Nat} {v : V} (h : (es.map (·.1)).Nodup) : ((putK es l v).map (·.1)).Nodup := by
  cases hv : valV es l with
  | none => exact nd_putK v h hv
  | some u =>
    unfold putK
    split
    · rw [List.map_map]
      have e : (es.map ((fun x : Row => x.1) ∘ fun kv => if kv.1 = l then (kv.1, v) else kv)) = es.map (·.1) := List.map_congr_left fun p _ => by
        show (if p.1 = l then (p.1, v) else p).1 = p.1
        split <;> rfl
      rw [e]
      exact h
    · rename_i c
      exfalso
      rw [valV_any, hv] at c
      exact c rfl
structure EsOk (es : List Row) (m : Nat) : Prop where
  nd : (es.map (·.1)).Nodup
  len : es.length ≤ m
  it : ∀ e ∈ es, IsB e.1 ∧ e.1.length ≤ 10 ∧ NxV e.2
theorem EsOk.nil (m : Nat) : EsOk [] m := ⟨List.nodup_nil, Nat.zero_le _, fun _ h => by cases h⟩
theorem EsOk.put {es : List Row} {i : Nat} {l : List Nat} {v : V} (h : EsOk es i) (h1 : IsB l) (h2 : l.length ≤ 10) (h3 : NxV v) : EsOk (putK es l v) (i + 1) :=
  ⟨putK_ndE h.nd, by have := length_putK es l v; have := h.len; omega, fun e he => (putK_mem he).elim (fun z => by rw [z]; exact ⟨h1, h2, h3⟩) (h.it e)⟩
theorem EsOk.le {es : List Row} {i j : Nat} (h : EsOk es i) (hij : i ≤ j) : EsOk es j := ⟨h.nd, Nat.le_trans h.len hij, h.it⟩
theorem val_at : ∀ {es : List Row} {i : Nat} {e : Row}, (es.map (·.1)).Nodup → es[i]? = some e → valV es e.1 = some e.2
  | [], i, e, _, h => by cases h
  | x :: es, 0, e, _, h => by
    obtain rfl : x = e := Option.some.inj h
    exact valV_pos rfl
  | x :: es, i + 1, e, nd, h => by
    rw [List.map_cons] at nd
    obtain ⟨n1, n2⟩ := List.nodup_cons.mp nd
    have hm : e ∈ es := List.mem_of_getElem? (show es[i]? = some e from h)
    have ne : ¬ x.1 = e.1 := fun z => n1 (by rw [z]; exact List.mem_map.mpr ⟨e, hm, rfl⟩)
    obtain ⟨a, b⟩ := x
    rw [valV_neg ne]
    exact val_at n2 h
/-- the tuples at us are the rows es -/
inductive EsT (H : Hp) : List V → List Row → Prop
  | nil : EsT H [] []
  | cons {b : Addr} {us : List V} {e : Row} {es : List Row} : H b = some (.tup [.str (T e.1), e.2]) → EsT H us es → EsT H (.ref b :: us) (e :: es)
theorem EsT.mono {H H' : Hp} (x : Ex H H') : ∀ {us : List V} {es : List Row}, EsT H us es → EsT H' us es
  | _, _, .nil => .nil
  | _, _, .cons h t => .cons (x _ _ h) (t.mono x)
theorem EsT.length {H : Hp} : ∀ {us : List V} {es : List Row}, EsT H us es → us.length = es.length
  | _, _, .nil => rfl
  | _, _, .cons h t => by simp [t.length]
theorem EsT.at_ {H : Hp} : ∀ {us : List V} {es : List Row} {i : Nat} {u : V}, EsT H us es → us[i]? = some u → ∃ b e, u = .ref b ∧ es[i]? = some e ∧ H b = some (.tup [.str (T e.1), e.2])
  | _, _, i, u, .nil, h => by cases h
  | _, _, 0, u, .cons (b := b) (e := e) hb t, h => ⟨b, e, (Option.some.inj h).symm, rfl, hb⟩
  | _, _, i + 1, u, .cons hb t, h => by
    obtain ⟨b, e, h1, h2, h3⟩ := t.at_ (show _ = some u from h)
    exact ⟨b, e, h1, h2, h3⟩
/-! slices and sums of texts -/
section
variable {σ : L2.St} {H : Hp} {ta tb te : TE} {tl th : TO}
theorem cut_take (l : List Nat) (n : Nat) : cutS (T l) none (some (n : Int)) = T (l.take n) := by
  unfold cutS
  rw [HT.sIx_none, HT.sIx_nat, T_len]
  show T ((l.drop 0).take (min n l.length - 0)) = _
  rw [List.drop_zero, Nat.sub_zero, ← List.take_eq_take_min]
theorem cut_init (l : List Nat) : cutS (T l) none (some (-1)) = T (l.take (l.length - 1)) := by
  unfold cutS
  rw [HT.sIx_none, T_len]
  show T ((l.drop 0).take ((-1 + (l.length : Int)).toNat - 0)) = _
  rw [List.drop_zero, Nat.sub_zero]
  congr 2
  omega
theorem ev_slS {l : List Nat} {lo hi : Option Int} (h : Ev te σ H (.str (T l))) (h1 : EvO tl σ H lo) (h2 : EvO th σ H hi) (hl : l.length ≤ 1000) : Ev (tSl rSlS te tl th) σ H (.str (cutS (T l) lo hi)) := fun H1 e _ q =>
  h H1 e _ fun H2 e2 => h1 H2 (e.trans e2) _ fun H3 e3 => h2 H3 ((e.trans e2).trans e3) _ fun H4 e4 => ⟨T l, rfl, by rw [T_len]; exact sz_of (by omega), q H4 ((e2.trans e3).trans e4)⟩
abbrev rAddS : V → V → Hp → VK → Prop := fun x y H Q => ∃ i j, x = .str i ∧ y = .str j ∧ i.length + j.length ≤ sizeLine ∧ Q (.str (i ++ j)) H
theorem ev_addS {a b : List Nat} (h : Ev ta σ H (.str (T a))) (h1 : Ev tb σ H (.str (T b))) (hl : a.length + b.length ≤ 1000) : Ev (tOp rAddS ta tb) σ H (.str (T (a ++ b))) :=
  ev_op h h1 fun H1 _ Q q => ⟨T a, T b, rfl, rfl, by rw [T_len, T_len]; exact sz_of (by omega), by rw [T_cat]; exact q H1 (Ex.refl _)⟩
theorem t_lit1 : (Str.ofString "1") = T [49] := by decide +kernel
/-- start[:-1] + str(1 - int(start[-1:] == '1')) -/
abbrev tFlip (i : Nat) : TE := tOp rAddS (tSl rSlS (tVar i) tNoPart (tPart (tUn (rU fun i => .int (-i)) (tC (.int 1)))))
  (tCB (fun xs H Q => ∃ i : Int, xs = [.int i] ∧ i.natAbs.log2 < 1920 ∧ Q (.str (toString i)) H) (tCons (tOp (rI0 fun i j => .int (i - j)) (tC (.int 1))
    (tCB (fun xs H Q => (∃ i, xs = [.int i] ∧ Q (.int i) H) ∨ ∃ k, xs = [.bl k] ∧ Q (.int (if k then 1 else 0)) H) (tCons (tOp rEq (tSl rSlS (tVar i) (tPart (tUn (rU fun i => .int (-i)) (tC (.int 1)))) tNoPart) (tC (.str "1"))) tNil))) tNil))
def flip1 (l : List Nat) : List Nat := l.take (l.length - 1) ++ (if cutS (T l) (some (-1)) none = Str.ofString "1" then [48] else [49])
theorem flip_isB {l : List Nat} (h : IsB l) : IsB (flip1 l) := by
  refine (h.take _).app fun c hc => ?_
  split at hc
  · exact .inl (List.mem_singleton.mp hc)
  · exact .inr (List.mem_singleton.mp hc)
theorem flip_len {l : List Nat} (h : l.length ≤ 10) : (flip1 l).length ≤ 10 := by
  unfold flip1
  rw [List.length_append, List.length_take]
  have : (if cutS (T l) (some (-1)) none = Str.ofString "1" then [48] else [49]).length = 1 := by split <;> rfl
  rw [this]
  omega
theorem ev_flip {i : Nat} {l : List Nat} (h : σ[i]? = some (some (.str (T l)))) (hl : l.length ≤ 10) : Ev (tFlip i) σ H (.str (T (flip1 l))) := by
  have hm1 : EvO (tPart (tUn (rU fun i => .int (-i)) (tC (.int 1)))) σ H (some (-1)) := eo_some (ev_un ev_c ru_neg)
  have h1 := ev_slS (ev_var h) (eo_none (H := H)) hm1 (by omega)
  rw [cut_init] at h1
  refine ev_addS (b := if cutS (T l) (some (-1)) none = Str.ofString "1" then [48] else [49]) h1 ?_ ?_
  · have h2 := ev_op (ev_slS (ev_var h) hm1 (eo_none (H := H)) (by omega)) (ev_c (v := .str "1")) (rv_eq (x := .str (cutS (T l) (some (-1)) none)) rfl)
    intro H1 e Q q
    refine h2 H1 e _ fun H2 e2 => ?_
    by_cases c : cutS (T l) (some (-1)) none = Str.ofString "1"
    · rw [if_pos c] at q
      refine .inr ⟨_, rfl, 1, _, rfl, rfl, _, rfl, ?_⟩
      have d : decide (V.str (cutS (T l) (some (-1)) none) = V.str "1") = true := decide_eq_true (by rw [c])
      rw [d]
      refine ⟨by decide, ?_⟩
      rw [show (toString ((1 : Int) - if true = true then 1 else 0) : String) = toString (0 : Int) from rfl, t_zero]
      exact q H2 e2
    · rw [if_neg c] at q
      refine .inr ⟨_, rfl, 1, _, rfl, rfl, _, rfl, ?_⟩
      have d : decide (V.str (cutS (T l) (some (-1)) none) = V.str "1") = false := decide_eq_false (fun z => c (by injection z))
      rw [d]
      refine ⟨by decide, ?_⟩
      rw [show (toString ((1 : Int) - if false = true then 1 else 0) : String) = toString (1 : Int) from rfl, t_one]
      exact q H2 e2
  · rw [List.length_take]
    have : (if cutS (T l) (some (-1)) none = Str.ofString "1" then [48] else [49]).length = 1 := by split <;> rfl
    rw [this]
    omega
end
/-! what stays grows by all that is new -/
section
variable {p g c : Addr}
theorem Gq.grow {G H H' : Hp} (h : Pq G H p g c) (e : Ex H H') : Gq p g c G H (fun b => match H b with | none => H' b | some _ => G b) H' := by
  obtain ⟨op, hp⟩ := h.p_at
  obtain ⟨og, hg⟩ := h.g_at
  obtain ⟨cs, gs, k, s, m, h1, h2, h3, h4, h5, r⟩ := h.at_
  refine ⟨fun b o hb => ?_, fun b hb hh => ?_, Of2.ex e, fun b o hb => ?_, ?_, ?_, h.ne, cs, gs, k, s, m, ?_, h2, h3, e _ _ h4, e _ _ h5, r⟩
  · rw [h.ex _ _ hb]
    exact hb
  · cases hx : H b with
    | none => exact absurd hx hh
    | some o => exact hb
  · cases hx : H b with
    | none => rw [hx] at hb; exact hb
    | some o' => rw [hx] at hb; exact e _ _ (h.ex _ _ hb)
  · rw [hp]
    exact h.gp
  · rw [hg]
    exact h.gg
  · rw [h.ex _ _ h1]
    exact h1
/-- a new thing that is left again -/
theorem Gq.less {G H H' : Hp} {D : Addr} {o : HO} (hP : Pq G H p g c) (hD : H D = none) (h : Gq p g c G H (upd G D o) H') : Gq p g c G H G H' := by
  have gD := fresh_back hP.ex hD
  obtain ⟨cs, gs, k, s, m, h1, h2, h3, h4, h5, r⟩ := h.pl.at_
  obtain ⟨cs0, _, _, _, _, i1, i2, i3, _⟩ := hP.at_
  exact ⟨Ex.refl _, fun b h _ => h, h.off, (Ex.new gD).trans h.pl.ex, hP.gp, hP.gg, hP.ne, cs0, gs, k, s, m, i1, i2, i3, h4, h5, r⟩
end
/-! [(k, d[k]) for k in d] -/
def rowY (H0 : Hp) (es : List Row) : Nat → V → Hp → Prop := fun i u H => ∃ b e, u = .ref b ∧ es[i]? = some e ∧ H0 b = none ∧ H b = some (.tup [.str (T e.1), e.2])
theorem rowY_good (H0 : Hp) (es : List Row) : GoodY (rowY H0 es) :=
  ⟨fun i u H H' e ⟨b, r, h1, h2, h3, h4⟩ => ⟨b, r, h1, h2, h3, e _ _ h4⟩, fun i u H D l hD ⟨b, r, h1, h2, h3, h4⟩ => ⟨b, r, h1, h2, h3, by
    rw [off_at (fun z => by rw [z, hD] at h4; cases h4)]
    exact h4⟩⟩
theorem grown_rows {H0 H G : Hp} {es : List Row} (hG : ∀ b, H0 b = none → G b = H b) : ∀ (n k : Nat) (us : List V), k + n = es.length → Grown (rowY H0 es) H ((List.range' k n)) us → EsT G us (es.drop k)
  | 0, k, us, hk, h => by
    have : us = [] := h
    rw [this, List.drop_of_length_le (by omega)]
    exact .nil
  | n + 1, k, us, hk, h => by
    rw [List.range'_succ] at h
    obtain ⟨u, r, rfl, ⟨b, e, rfl, h2, h3, h4⟩, h5⟩ := h
    have ih := grown_rows hG n (k + 1) r (by omega) h5
    have hkl : k < es.length := by omega
    rw [List.getElem?_eq_getElem hkl] at h2
    rw [List.drop_eq_getElem_cons hkl, Option.some.inj h2]
    exact .cons (by rw [hG b h3]; exact h4) ih
theorem upTo_all (n : Nat) : upTo (fun _ => true) n = List.range' 0 n := by
  unfold upTo
  rw [List.filter_eq_self.mpr fun _ _ => rfl, List.range_eq_range']
theorem q_rows {p g c : Addr} {G H : Hp} {D : Addr} {es : List Row} {n j m : Nat} {vs : List Nat} {σ : L2.St} {Q : VK} (hP : Pq G H p g c) (hσ : σ[n]? = some (some (.ref D))) (hσ2 : ∀ x, ((wipe σ vs).set j (some x))[n]? = some (some (.ref D))) (hj : ∀ x, ((wipe σ vs).set j (some x))[j]? = some (some x)) (hw : ∀ x, wipe ((wipe σ vs).set j (some x)) vs = wipe σ vs)
    (hD : H D = some (.dK (kvOf es))) (hes : EsOk es m) (hm : m ≤ 1000)
    (k : ∀ G' H' L us, Gq p g c G H G' H' → G' L = some (.lst us) → EsT G' us es → Q (.ref L) H') :
    tLockE (tLc (iKeys (tVar n)) (gName j) tYes (tTup (tCons (tVar j) (tCons (tDGet (tVar n) (tVar j)) tNil))) vs) σ H Q := by
  have hl := hes.len
  refine ⟨D, .dK (kvOf es), hD, trivial, fun od => ⟨.ref D, hσ, D, od, rfl, .inl ⟨kvOf es, upd_same, fun L hL => ?_⟩⟩⟩
  have nLD : L ≠ D := fun z => by rw [z, upd_same] at hL; cases hL
  have hHL : H L = none := by rw [upd_ne nLD] at hL; exact hL
  refine grow_lc (Y := rowY H es) (walk_keys (o := od) (kvs := kvOf es)) (Yx := fun i x => ∃ k v, (kvOf es)[i]? = some (k, v) ∧ x = kV k) (rowY_good H es) (fun _ => true) hL (by rw [kv_len]; omega) (fun H' e => e _ _ upd_same) hw (fun _ _ _ _ _ _ => et_yes) (fun i x H' e hi hx _ => ?_) (fun us H' e hus gr => ?_)
  · obtain ⟨kk, v, hx, rfl⟩ := hx
    unfold kvOf at hx
    rw [List.getElem?_map] at hx
    cases hi : es[i]? with
    | none => rw [hi] at hx; cases hx
    | some r =>
      rw [hi] at hx
      have hx := Option.some.inj hx
      injection hx with hx1 hx2
      subst hx1 hx2
      intro H1 e1 Q1 q1
      refine ⟨.str (T r.1), hj _, .ref D, hσ2 _, .str (T r.1), hj _, D, r.2, rfl, .inl ⟨kvOf es, .inr (T r.1), .inr ⟨od, e1 _ _ (e _ _ upd_same)⟩, rfl, by rw [kv_val]; exact (val_at hes.nd hi).symm⟩, by show 2 ≤ sizeLine; decide, fun b hb => q1 _ _ (Ex.new hb) ⟨b, r, rfl, hi, ?_, upd_same⟩⟩
      have h1 := fresh_back (e.trans e1) hb
      by_cases z : b = D
      · rw [z, upd_same] at h1; cases h1
      · rw [upd_ne z] at h1; exact h1
  · have eH : Ex H (upd H' D (.dK (kvOf es))) := fun b o hb => by
      by_cases z : b = D
      · rw [z, hD] at hb
        cases hb
        rw [z]
        exact upd_same
      · rw [upd_ne z]
        exact e _ _ (by rw [upd_ne z]; exact hb)
    refine ⟨e _ _ upd_same, k _ _ L us (Gq.grow hP eH) ?_ ?_⟩
    · show (match H L with | none => _ | some _ => _) = _
      rw [hHL]
      dsimp only
      rw [upd_ne nLD]
      exact hus
    · rw [kv_len, upTo_all] at gr
      refine grown_rows (H0 := H) (H := H') (k := 0) (fun b hb => ?_) es.length us (Nat.zero_add _) gr
      show (match H b with | none => _ | some _ => _) = _
      rw [hb]
      dsimp only
      rw [upd_ne (fun z => by rw [z, hD] at hb; cases hb)]
end Wk

set_option Elab.async false
set_option linter.all false
set_option maxRecDepth 100000
set_option maxHeartbeats 4000000
namespace Wk
open PySem PySem.Spec PyProof.Rows L2 Evl
section
variable {P : Program} {w : World} {K : PySem.W.Frag} {mg : Str → Option Value} {base : Heap} {f : Addr} {fd : FuncData}
/-- a call of _law_bits -/
theorem ep_callBits {p g c : Addr} {G : Hp} {σ : L2.St} {i : Nat} {te : TE} {m : Nat} {E : XK} (hp : σ[i]? = some (some (.ref p))) (hz : Ev te σ G (.int (m : Int))) (hm : m ≤ 10) :
    EvP p g c G (tCall spBits [] E (tCons (tVar i) (tCons te tNil))) σ (fun v => ∃ l, v = .str (T l) ∧ IsB l ∧ l.length ≤ m) := fun H hP Q k =>
  ⟨.ref p, hp, hz H hP.ex _ fun H1 e1 => ⟨G, p, g, c, m, rfl, hP.ext e1, hm, fun H' l g1 h1 h2 => k H' _ ((Gq.ext hP e1).trans g1) ⟨l, rfl, h1, h2⟩⟩⟩
/-! _law_entries -/
def spEnt : Sp := fun vs H Q _ => ∃ (G : Hp) (p g c nl : Addr) (m : Nat) (nxs : List V), vs = [.ref p, .int (m : Int), .ref nl] ∧ Pq G H p g c ∧ m ≤ 24 ∧ G nl = some (.lst nxs) ∧ 1 ≤ nxs.length ∧ nxs.length ≤ 100 ∧ (∀ v ∈ nxs, NxV v) ∧
  ∀ G' H' L us es, Gq p g c G H G' H' → G' L = some (.lst us) → EsT G' us es → EsOk es m → Q (.ref L) H'
abbrev sEnt : Stmt := top 30
abbrev nEnt : List Str := ["_law_pool_here", "_law_many", "_law_nexts", "_law_known", "_law_k", "_law_bits_here", "_law_kind", "_law_earlier"]
theorem scEnt : FnScope nEnt ["_law_pool_here", "_law_many", "_law_nexts"] (defScope sEnt) := ⟨rfl, rfl, rfl, by decide +kernel, rfl, by decide +kernel, by decide +kernel⟩
theorem ok_ent (B : Bl mg) (hso : mg "sorted" = none) (C1 : Cal P w K mg base "_law_draw" ["_law_pool_here", "_law_many"] 1 spDrw) (C2 : Cal P w K mg base "_law_bits" ["_law_pool_here", "_law_most"] 2 spBits) (F : FnP K "_law_entries" sEnt f fd) : FnOk P w K mg base CX0 3 f fd ["_law_pool_here", "_law_many", "_law_nexts"] spEnt := by
  refine F.ok scEnt (fun vs H Q E h => ?_) (fun cdv A outer s H vs Q E hr h => ?_)
  · obtain ⟨G, p, g, c, nl, m, nxs, rfl, _⟩ := h
    rfl
  · obtain ⟨G, p, g, c, nl, m, nxs, rfl, hP, hm, hnl, hn1, hn2, hnx, k⟩ := h
    have hu : (A.deeper (envOfC "_law_entries" (defScope sEnt) s.heap.objs.size f cdv)).units + 1 < cLine := by have := hr.un; omega
    refine ⟨_, pss_cons (ps_set (i := 3) scEnt.nd rfl (Or.inr rfl) pe_dnewK)
      (pss_cons (ps_for (passes_of rfl) rfl (pi_range1 (by rfl) B.range (pa_cons (pv 1) pa_nil)) (pg_name (i := 4) scEnt.nd rfl (Or.inl rfl))
        (pss_cons (ps_set (i := 5) scEnt.nd rfl (Or.inl rfl) (pe_cal C2 hr (by rfl) (pa_cons (pv 0) (pa_cons pe_int pa_nil))))
        (pss_cons (ps_set (i := 6) scEnt.nd rfl (Or.inl rfl) (pe_cal C1 hr (by rfl) (pa_cons (pv 0) (pa_cons pe_int pa_nil))))
        (pss_cut (ps_if (PW.pt (pw_and (pt_cmpR op_gt (pv 6) pe_int (nomark _)) (pw_and1 (pt_cmpR op_gt (pe_callB call_lenD (by rfl) B.len PySem.boot_len (pa_cons (pv 3) pa_nil)) pe_int (nomark _)))))
            (pss_cons (ps_set (i := 7) scEnt.nd rfl (Or.inl rfl) (pe_ix (ix_listK rfl) (pe_callB (call_sortedD rfl) (by rfl) hso PyProof.Rows.boot_sorted (pa_cons (pv 3) pa_nil)) (pe_cal C1 hr (by rfl) (pa_cons (pv 0) (pa_cons (pe_callB call_lenD (by rfl) B.len PySem.boot_len (pa_cons (pv 3) pa_nil)) pa_nil))) (fun _ _ => rfl)))
            (pss_one (ps_if (pt_cmpR op_eq (pv 6) pe_int (nomark _))
              (pss_one (ps_set (i := 5) scEnt.nd rfl (Or.inl rfl) (pe_slice sl_str (pe_op op_add_str (pv 7) (pv 5)) po_none (po_some pe_int))))
              (pss_one (ps_set (i := 5) scEnt.nd rfl (Or.inl rfl) (pe_op op_add_str (pe_slice sl_str (pv 7) po_none (po_some (pe_un un_neg pe_int)))
                (pe_callTy call_str_int (by rfl) B.str PyProof.Rows.boot_str (pa_cons (pe_op op_sub pe_int (pe_callTy call_int1 (by rfl) B.int PyProof.Rows.boot_int (pa_cons (pe_cmpR op_eq (pe_slice sl_str (pv 7) (po_some (pe_un un_neg pe_int)) po_none) pe_str (nomark _)) pa_nil))) pa_nil))))))))
            pss_nil)
        (pss_one (ps_asg (pe_ix (ix_listK rfl) (pv 2) (pe_cal C1 hr (by rfl) (pa_cons (pv 0) (pa_cons (pe_callB (call_len_seq) (by rfl) B.len PySem.boot_len (pa_cons (pv 2) pa_nil)) pa_nil))) (fun _ _ => rfl)) (pg_sub (pv 3) (pv 5) (set_dict hu))))))))
      (pss_one (ps_ret (pe_lock (pe_lc (own := [("_law_bits_here", 5)]) (g := gName 5) (tt := tYes) rfl scEnt.nd (pi_keys (pv 3)) (blkOk_by (N := nEnt) (sc := defScope sEnt) (by decide +kernel))
          (fun _ _ _ _ _ => pg_name (i := 5) scEnt.nd rfl (Or.inl rfl)) (fun _ _ _ _ _ => pts_nil)
          (fun _ _ _ _ _ => pe_tup (pa_cons (pv 5) (pa_cons (pe_dget hu (pv 3) (pv 5) (fun _ _ => rfl)) pa_nil)))))))), ?_⟩
    intro D hD
    have gD := fresh_back hP.ex hD
    refine g_name ?_
    refine q_forR1 (ta := tCons (tVar 1) tNil) (n := (m : Int)) (ea_cons (ev_var rfl) ea_nil) (by omega) (fun i σ' H' => ∃ es o4 o5 o6 o7, σ' = [some (.ref p), some (.int (m : Int)), some (.ref nl), some (.ref D), o4, o5, o6, o7] ∧ EsOk es i ∧ Gq p g c G H (upd G D (.dK (kvOf es))) H') (fun H1 e1 => ?_) (fun i σ' H' hi hh => ?_) (fun σ' H' hh => ?_)
    · have h0 := Gq.new (o := .dK []) hP hD
      exact ⟨[], _, _, _, _, rfl, EsOk.nil 0, h0.trans (Gq.ext h0.pl e1)⟩
    · obtain ⟨es, o4, o5, o6, o7, rfl, hes, hg⟩ := hh
      have hel := hes.len
      have hG1 : (upd G D (.dK (kvOf es))) nl = some (.lst nxs) := by
        rw [upd_ne (fun z => by rw [z, gD] at hnl; cases hnl)]
        exact hnl
      have hGD : (upd G D (.dK (kvOf es))) D = some (.dK (kvOf es)) := upd_same
      generalize hGe : upd G D (.dK (kvOf es)) = G1 at *
      refine ep_callBits (g := g) (c := c) (G := G1) (m := 10) rfl ev_c (Nat.le_refl _) H' hg.pl _ fun H1 v g1 hv => ?_
      obtain ⟨l, rfl, hb, hl⟩ := hv
      refine g_name ?_
      refine ep_drw (g := g) (c := c) (G := G1) (z := 4) rfl ev_c (by decide) (by decide) H1 g1.pl _ fun H2 v g2 hv => ?_
      obtain ⟨kd, rfl, hk0, hk1⟩ := hv
      refine g_name ?_
      have g12 := (hg.trans g1).trans g2
      refine q_cut (M := fun σ2 H3 => ∃ l2 o7, σ2 = [some (.ref p), some (.int (m : Int)), some (.ref nl), some (.ref D), some (.int (i : Int)), some (.str (T l2)), some (.int kd), o7] ∧ IsB l2 ∧ l2.length ≤ 10 ∧ Gq p g c G H G1 H3) ?_ ?_
      · refine s_when (b := decide (1 < kd) && decide ((0 : Int) < ((kvOf es).length : Int))) (et_and (et_test (ev_op (r := rI0 fun i j => .bl (decide (j < i))) (ev_var rfl) ev_c rv_I0)) fun _ => et_test (ev_op (r := rI0 fun i j => .bl (decide (j < i))) (x := .int ((kvOf es).length : Int)) (fun H3 e3 Q q => ⟨.ref D, rfl, D, kvOf es, rfl, e3 _ _ (g12.pl.ex _ _ hGD), q _ (Ex.refl _)⟩) ev_c rv_I0)) (fun hb1 H3 e3 => ?_) (fun _ H3 e3 => ⟨l, o7, rfl, hb, hl, g12.trans (Gq.ext g12.pl e3)⟩)
        rw [Bool.and_eq_true] at hb1
        have hpos := of_decide_eq_true hb1.2
        have hP3 := g12.pl.ext e3
        have g3 := g12.trans (Gq.ext g12.pl e3)
        refine ⟨.ref D, rfl, D, kvOf es, es.map fun e => T e.1, rfl, .inl (hP3.ex _ _ hGD), kv_keys es, by rw [List.length_map]; omega, fun ys q hys _ hq => ?_⟩
        have hPq := hP3.new (o := .lst (ys.map V.str)) hq
        refine ep_drw (g := g) (c := c) (G := upd G1 q (.lst (ys.map V.str))) (z := ((kvOf es).length : Int)) rfl (fun H4 e4 Q q4 => ⟨.ref D, rfl, D, kvOf es, rfl, e4 _ _ ((Ex.new (fresh_back hP3.ex hq)) _ _ hGD), q4 _ (Ex.refl _)⟩) hpos (by rw [kv_len]; omega) (upd H3 q (.lst (ys.map V.str))) hPq _ fun H4 v g4 hv => ?_
        obtain ⟨j, rfl, hj0, hj1⟩ := hv
        have g4' := Gq.less (o := .lst (ys.map V.str)) hP3 hq ((Gq.new (o := .lst (ys.map V.str)) hP3 hq).trans g4)
        have hq4 := g4.pl.ex _ _ (upd_same (H := G1) (a := q) (o := .lst (ys.map V.str)))
        obtain ⟨jn, rfl⟩ : ∃ jn : Nat, j = (jn : Int) := ⟨j.toNat, by omega⟩
        have hyl : ys.length = es.length := by rw [hys.length_eq, List.length_map]
        rw [kv_len] at hj1
        have hjy : jn < ys.length := by omega
        have hm : ys[jn] ∈ es.map fun e => T e.1 := hys.mem_iff.mp (List.getElem_mem hjy)
        obtain ⟨r, hr1, hr2⟩ := List.mem_map.mp hm
        refine ⟨q, ys.map V.str, (jn : Int), .str (T r.1), rfl, rfl, sq_of hq4, atI_nat (by rw [List.getElem?_map, List.getElem?_eq_getElem hjy, ← hr2]; rfl), ?_⟩
        refine g_name ?_
        obtain ⟨hrb, hrl, _⟩ := hes.it r hr1
        have g5 := g3.trans g4'
        dsimp only
        change tIfS _ _ _ _ [some (.ref p), some (.int (m : Int)), some (.ref nl), some (.ref D), some (.int (i : Int)), some (.str (T l)), some (.int kd), some (.str (T r.1))] H4
        refine s_if (b := decide (V.int kd = V.int 2)) (et_test (ev_op (r := rEq) (ev_var rfl) ev_c (rv_eq rfl))) (fun _ H5 e5 => ?_) (fun _ H5 e5 => ?_)
        · refine s_asg (v := .str (T ((r.1 ++ l).take 10))) ?_ fun H6 e6 => ?_
          · have z := ev_slS (H := H5) (σ := [some (.ref p), some (.int (m : Int)), some (.ref nl), some (.ref D), some (.int (i : Int)), some (.str (T l)), some (.int kd), some (.str (T r.1))]) (l := r.1 ++ l) (lo := none) (hi := some ((10 : Nat) : Int)) (ev_addS (ta := tVar 7) (tb := tVar 5) (ev_var rfl) (ev_var rfl) (by omega)) eo_none (eo_some ev_c) (by rw [List.length_append]; omega)
            rw [cut_take] at z
            exact z
          · exact ⟨_, _, rfl, (hrb.app hb).take _, by rw [List.length_take]; omega, g5.trans (Gq.ext g5.pl (e5.trans e6))⟩
        · refine s_asg (v := .str (T (flip1 r.1))) (ev_flip rfl hrl) fun H6 e6 => ?_
          exact ⟨_, _, rfl, flip_isB hrb, flip_len hrl, g5.trans (Gq.ext g5.pl (e5.trans e6))⟩
      · rintro σ2 H3 ⟨l2, o7', rfl, hb2, hl2, g3⟩
        have hPn := g3.pl
        refine ⟨.ref nl, rfl, ep_drw (g := g) (c := c) (G := G1) (z := (nxs.length : Int)) rfl (ev_len (K := K) (ev_var rfl) (sq_of hG1)) (by omega) (by omega) H3 hPn _ fun H4 v g4 hv => ?_⟩
        obtain ⟨j, rfl, hj0, hj1⟩ := hv
        obtain ⟨jn, rfl⟩ : ∃ jn : Nat, j = (jn : Int) := ⟨j.toNat, by omega⟩
        have hjn : jn < nxs.length := by omega
        have g4' := g3.trans g4
        have hD4 := g4.pl.ex _ _ hGD
        refine ⟨nl, nxs, (jn : Int), nxs[jn], rfl, rfl, sq_of (g4.pl.ex _ _ hG1), atI_nat (List.getElem?_eq_getElem hjn), .ref D, rfl, .str (T l2), rfl, D, _, rfl, DPut.k (k := .inr (T l2)) hD4 (sz_lt (by rw [kv_len]; omega)), ?_⟩
        rw [kv_put]
        refine ⟨_, _, _, _, _, rfl, hes.put hb2 hl2 (hnx _ (List.getElem_mem hjn)), ?_⟩
        rw [← hGe] at g4'
        exact Gq.reset hP hD g4'
    · obtain ⟨es, o4, o5, o6, o7, rfl, hes, hg⟩ := hh
      rw [Int.toNat_natCast] at hes
      refine q_rows (p := p) (g := g) (c := c) (m := m) hg.pl rfl (fun _ => rfl) (fun _ => rfl) (fun _ => rfl) (hg.pl.ex _ _ upd_same) hes (by omega) fun G' H2 L us g2 h1 h2 => ?_
      refine k _ H2 L us es (Gq.trans ?_ g2) h1 h2 hes
      exact hg
end
end Wk

set_option Elab.async false
set_option linter.all false
set_option maxRecDepth 100000
set_option maxHeartbeats 4000000
/-! sorted of tuples (text, whole number or text), by the text -/
namespace SrtT
open PySem PySem.Spec PyProof.Rows L2 SrtO
open PySem.W (KatTups)
def IsSP (h : Heap) (v : Value) (x : Str) (y : Value) : Prop := ∃ a o t n, v = .ref a ∧ h.get? a = some o ∧ o.cls = .type "tuple" ∧ o.data = .seq #[.str x t, y] n
theorem IsSP.keeps {h h' : Heap} {v : Value} {x : Str} {y : Value} (p : IsSP h v x y) (k : ∀ b o, h.get? b = some o → o.cls = .type "tuple" → h'.get? b = some o) : IsSP h' v x y := by
  obtain ⟨a, o, t, n, e, ho, hc, hd⟩ := p
  exact ⟨a, o, t, n, e, k _ _ ho hc, hc, hd⟩
theorem firsts_sp {h : Heap} : ∀ {vs : List Value}, (∀ v ∈ vs, ∃ x y, IsSP h v x y) → ∃ fs : List Value, KatTups h vs fs ∧ fs.length = vs.length ∧ ∀ f ∈ fs, ∃ x t, f = Value.str x t
  | [], _ => ⟨[], KatTups.nil, rfl, fun _ hm => by simp at hm⟩
  | v :: vs, hp => by
    obtain ⟨fs, h1, h2, h3⟩ := firsts_sp (vs := vs) fun v' hm => hp v' (List.mem_cons_of_mem _ hm)
    obtain ⟨x, y, a, o, t, n, e, ho, hc, hd⟩ := hp v (List.mem_cons_self ..)
    subst e
    refine ⟨.str x t :: fs, KatTups.cons ho hc hd rfl h1, by rw [List.length_cons, List.length_cons, h2], fun f hm => ?_⟩
    rcases List.mem_cons.mp hm with rfl | hm
    · exact ⟨x, t, rfl⟩
    · exact h3 f hm
def ltX (a b : List Nat) : Bool := decide (a < b)
theorem swo_X : Swo ltX := by
  refine ⟨fun x y h => ?_, fun x y z h1 h2 => ?_⟩
  · exact decide_eq_false (List.lt_asymm (of_decide_eq_true h))
  · exact decide_eq_false (List.not_lt.mpr (List.le_trans (List.not_lt.mp (of_decide_eq_false h1)) (List.not_lt.mp (of_decide_eq_false h2))))
theorem swo_of {α : Type} (k : α → List Nat) : Swo fun x y => ltX (k x) (k y) := ⟨fun x y h => swo_X.asym _ _ h, fun x y z h1 h2 => swo_X.tr _ _ _ h1 h2⟩
section
variable {prog : Program} {w : World} {A : Around} {E : Value → Shared → Prop} {s : Shared}
def Flat2 (z : V) : Prop := (∃ i, z = .int i) ∨ ∃ x, z = .str x
theorem sp_cmp {vs : List Value} {k : Value → Str} {m : Str → V} (hm : ∀ v ∈ vs, Flat2 (m (k v))) (hp : ∀ v ∈ vs, ∃ y, IsSP s.heap v (k v) y ∧ RelV (m (k v)) y) :
    Cmp prog w A s (tuples' true) (fun p => p.1 ∈ vs) (lt2 fun v u => ltX (k v).cps.toList (k u).cps.toList) := by
  intro p q hp1 hq1
  obtain ⟨y, h1, r1⟩ := hp _ hp1
  obtain ⟨y', h2, r2⟩ := hp _ hq1
  have f1 := hm _ hp1
  show wpAny (model prog w) A (keyLt' (tuples' true) p.1 q.1) (fun r s' => s' = s ∧ r = ltX (k p.1).cps.toList (k q.1).cps.toList) (fun _ _ => False) s
  generalize k p.1 = x at h1 r1 f1 ⊢
  generalize k q.1 = x' at h2 r2 ⊢
  obtain ⟨a, o, t, n, e, ho, hc, hd⟩ := h1
  obtain ⟨a', o', t', n', e', ho', hc', hd'⟩ := h2
  rw [e, e']
  refine PySem.W.kat_lt ho hd ho' hd' ?_
  show PySem.W.KatLex prog w A true (decide (2 < 2)) _ [(.str x t, .str x' t'), (y, y')] 0 s
  refine PySem.W.kat_cons (SeqAt.EqAt.str_str x t x' t' prog w _ _ ?_)
  refine PySem.W.kat_go (fun e1 => ?_) (fun e1 => ?_)
  · have ex : x = x' := by simpa using e1
    subst ex
    have e3 : ltX x.cps.toList x.cps.toList = false := swo_X.refl _
    rcases f1 with ⟨i, hi⟩ | ⟨z, hz⟩
    · rw [hi] at r1 r2
      obtain ⟨t1, rfl⟩ := r1
      obtain ⟨t2, rfl⟩ := r2
      refine PySem.W.kat_yes (PySem.W.kat_cons (SeqAt.EqAt.int_int i t1 i t2 prog w _ _ ?_))
      refine PySem.W.kat_go (fun e2 => ?_) (fun e2 => absurd e2 (by simp))
      exact PySem.W.kat_yes (PySem.W.kat_nil ⟨rfl, e3.symm⟩)
    · rw [hz] at r1 r2
      obtain ⟨t1, rfl⟩ := r1
      obtain ⟨t2, rfl⟩ := r2
      refine PySem.W.kat_yes (PySem.W.kat_cons (SeqAt.EqAt.str_str z t1 z t2 prog w _ _ ?_))
      refine PySem.W.kat_go (fun e2 => ?_) (fun e2 => absurd e2 (by simp))
      exact PySem.W.kat_yes (PySem.W.kat_nil ⟨rfl, e3.symm⟩)
  · exact PySem.W.kat_no (oneLt_str ⟨rfl, rfl⟩)
theorem sp_sortable {a : Addr} {vs : List Value} {k : Value → Str} {m : Str → V} (h0 : 0 < vs.length) (hm : ∀ v ∈ vs, Flat2 (m (k v))) (hp : ∀ v ∈ vs, ∃ y, IsSP s.heap v (k v) y ∧ RelV (m (k v)) y) (ha : ∀ o, s.heap.get? a = some o → o.cls ≠ .type "tuple") : SortableO prog w A s a vs fun v u => ltX (k v).cps.toList (k u).cps.toList := by
  intro h' keep
  have hp' : ∀ v ∈ vs, ∃ y, IsSP h' v (k v) y ∧ RelV (m (k v)) y := fun v hm => by
    obtain ⟨y, h1, h2⟩ := hp v hm
    exact ⟨y, h1.keeps fun b o e c => keep b o (fun z => by subst z; exact ha o e c) e, h2⟩
  obtain ⟨fs, h1, h2, h3⟩ := firsts_sp fun v hm => by
    obtain ⟨y, h1, h2⟩ := hp' v hm
    exact ⟨_, y, h1⟩
  refine ⟨tuples' true, fun Q E hq => ?_, sp_cmp hm hp'⟩
  refine PySem.W.kat_kind (T := .type "str") h1 (by omega) (fun f hm => ?_) (by rfl) ?_
  · obtain ⟨x, t, rfl⟩ := h3 f hm
    exact PySem.W.Looks.now
  · have e : (Value.type "str" != Value.type "tuple") = true := by first | decide +kernel | rfl | decide
    rw [e]
    exact hq
/-- a list or a tuple in the heap -/
def IsSeq (h : Heap) (l : Addr) (vs : List Value) : Prop := ∃ (T : String) (o : Obj) (n : Nat), (T = "list" ∨ T = "tuple") ∧ h.get? l = some o ∧ o.cls = .type T ∧ o.data = .seq vs.toArray n
theorem sorted_seq {l : Addr} {vs : List Value} {ltv : Value → Value → Bool} {Q : Value → Shared → Prop} (O : Swo ltv) (hl : IsSeq s.heap l vs) (hz : vs.length ≤ sizeLine)
    (hS : 2 ≤ vs.length → ∀ (h₁ : Heap) (a : Addr), h₁.get? a = some (seqObj "list" vs.toArray 0) → (∀ b o, s.heap.get? b = some o → b ≠ a ∧ h₁.get? b = some o) → SortableO prog w A.in1.in1 { s with heap := h₁ } a vs ltv)
    (h : ∀ (h' : Heap) (d : Addr) (out : List Value), Srtd ltv out → Stb ltv out vs → (∀ b o, s.heap.get? b = some o → h'.get? b = some o) → s.heap.get? d = none → (∃ n, h'.get? d = some (seqObj "list" out.toArray n)) → Q (.ref d) { s with heap := h' }) :
    wpAny (model prog w) A (call (.builtin "sorted") [.ref l]) Q E s := by
  obtain ⟨T, o, n, hT, ho, hc, hd⟩ := hl
  refine Calls.call_function_entry kind_sorted plain_sorted entry_sorted (args_sorted1 _) ?_
  unfold Builtin.«sorted»
  refine wpAny_bind (m := checkCount "sorted" 1 1 _) (wpAny_pure ?_)
  refine wpAny_bind (wpAny_collect_seq l hT ho hc hd (fun h1 k1 => ?_) (by rw [List.size_toArray]; exact hz))
  refine wpAny_bind (wpAny_newList ?_ hz)
  have hoL : (h1.push (seqObj "list" vs.toArray 0)).get? h1.objs.size = some (seqObj "list" vs.toArray 0) := Heap.get?_push_size _ rfl
  have keep : ∀ b o, s.heap.get? b = some o → b ≠ h1.objs.size ∧ (h1.push (seqObj "list" vs.toArray 0)).get? b = some o := fun b o q => ⟨Nat.ne_of_lt (Heap.lt_size (k1 _ _ q)), Heap.get?_push_of_some _ (k1 _ _ q)⟩
  show wpAny _ _ _ _ _ { s with heap := h1.push (seqObj "list" vs.toArray 0) }
  refine wpAny_bind (wpAny_holding (wpAny_call_entry slot_list_sort ⟨_, hoL, rfl⟩ entry_list_sort (list_sort_ord O hoL hz (fun h2 => hS h2 _ _ hoL keep) fun out hs hb => ⟨_, rfl, ?_⟩) (args_list_sort _)))
  refine wpAny_pure ⟨_, rfl, h _ _ out hs hb (fun b o q => ?_) ?_ (sortedHeap_at hoL)⟩
  · rw [sortedHeap_old (keep b o q).1 (Heap.lt_size (keep b o q).2)]
    exact (keep b o q).2
  · show s.heap.get? h1.objs.size = none
    cases hx : s.heap.get? h1.objs.size with
    | none => rfl
    | some o => exact absurd (Heap.lt_size (k1 _ _ hx)) (Nat.lt_irrefl _)
theorem sorted_sp {l : Addr} {vs : List Value} {k : Value → Str} {m : Str → V} {Q : Value → Shared → Prop} (hl : IsSeq s.heap l vs) (hz : vs.length ≤ sizeLine) (hm : ∀ v ∈ vs, Flat2 (m (k v))) (hp : ∀ v ∈ vs, ∃ y, IsSP s.heap v (k v) y ∧ RelV (m (k v)) y)
    (h : ∀ (h' : Heap) (d : Addr) (out : List Value), Srtd (fun v u => ltX (k v).cps.toList (k u).cps.toList) out → Stb (fun v u => ltX (k v).cps.toList (k u).cps.toList) out vs → (∀ b o, s.heap.get? b = some o → h'.get? b = some o) → s.heap.get? d = none → (∃ n, h'.get? d = some (seqObj "list" out.toArray n)) → Q (.ref d) { s with heap := h' }) :
    wpAny (model prog w) A (call (.builtin "sorted") [.ref l]) Q E s := by
  refine sorted_seq (swo_of fun v => (k v).cps.toList) hl hz (fun h2 h₁ a ha kk => ?_) h
  refine sp_sortable (s := { s with heap := h₁ }) (by omega) hm (fun v hm => ?_) fun o e => ?_
  · obtain ⟨y, h1, h2⟩ := hp v hm
    exact ⟨y, h1.keeps fun b o e _ => (kk b o e).2, h2⟩
  · have e' : some o = some (seqObj "list" vs.toArray 0) := e.symm.trans ha
    cases e'
    intro c
    exact absurd (Value.type.inj c) (by decide)
end
end SrtT
namespace Wk
open PySem PySem.Spec PyProof.Rows L2 Evl SrtT
/-- what row stands at a reference -/
def rowAt (H : Hp) : V → Row
  | .ref t => match H t with
    | some (.tup [.str z, v]) => (z.cps.toList, v)
    | _ => ([], .non)
  | _ => ([], .non)
theorem rowAt_of {H : Hp} {b : Addr} {e : Row} (h : H b = some (.tup [.str (T e.1), e.2])) : rowAt H (.ref b) = e := by
  unfold rowAt
  dsimp only
  rw [h]
theorem EsT.rows {H : Hp} : ∀ {us : List V} {es : List Row}, EsT H us es → us.map (rowAt H) = es ∧ ∀ u ∈ us, ∃ b, u = .ref b ∧ H b = some (.tup [.str (T (rowAt H u).1), (rowAt H u).2])
  | _, _, .nil => ⟨rfl, fun _ h => by cases h⟩
  | _, _, .cons (b := b) (us := us) (e := e) h t => by
    obtain ⟨h1, h2⟩ := t.rows
    refine ⟨by rw [List.map_cons, h1, rowAt_of h], fun u hu => ?_⟩
    rcases List.mem_cons.mp hu with rfl | hu
    · exact ⟨b, rfl, by rw [rowAt_of h]; exact h⟩
    · exact h2 u hu
theorem est_of {H : Hp} : ∀ {us : List V}, (∀ u ∈ us, ∃ b, u = .ref b ∧ H b = some (.tup [.str (T (rowAt H u).1), (rowAt H u).2])) → EsT H us (us.map (rowAt H))
  | [], _ => .nil
  | u :: us, h => by
    obtain ⟨b, rfl, hb⟩ := h u List.mem_cons_self
    exact .cons hb (est_of fun x hx => h x (List.mem_cons_of_mem _ hx))
/-- rows by their texts -/
abbrev ltR (x y : Row) : Bool := ltX x.1 y.1
/-- es' is es sorted -/
def SrR (es' es : List Row) : Prop := SrtO.Srtd ltR es' ∧ SrtO.Stb ltR es' es
theorem SrR.uniq {a b es : List Row} (h : SrR a es) (k : SrR b es) : a = b :=
  SrtO.stb_uniq (swo_of fun e : Row => e.1) h.1 k.1 (h.2.trans ⟨k.2.perm.symm, fun x => (k.2.cls x).symm⟩)
def rSortR (K : PySem.W.Frag) : List V → Hp → VK → Prop := fun vs H Q => ∃ (a : Addr) (xs : List V) (es : List Row), vs = [V.ref a] ∧ (SqL K H a xs ∨ SqT K H a xs) ∧ EsT H xs es ∧ (es.map (·.1)).Nodup ∧ (∀ e ∈ es, Flat2 e.2) ∧
  ∀ ys es' p, SrR es' es → EsT H ys es' → H p = none → Q (.ref p) (upd H p (.lst ys))
theorem valE_mem {es : List Row} {e : Row} (nd : (es.map (·.1)).Nodup) (h : e ∈ es) : valV es e.1 = some e.2 := by
  obtain ⟨i, hi⟩ := List.getElem?_of_mem h
  exact val_at nd hi
section
variable {X : Cx}
theorem cr_sortedR {K : PySem.W.Frag} (hK : X.K = K) : CallR X (.builtin "sorted") (rSortR K) := by
  subst hK
  intro pins s σ H vs us Q I r h
  obtain ⟨a, xs, es, rfl, hs, he, nd, hf, q⟩ := h
  have hseq : ∃ its, Vals xs its ∧ IsSeq s.heap a its ∧ xs.length ≤ sizeLine := by
    rcases hs with hs | hs
    · obtain ⟨its, rv, hl, hz⟩ := I.list hs
      obtain ⟨o, h1, h2, n, h3⟩ := hl.isList
      exact ⟨its, rv, ⟨"list", o, n, .inl rfl, h1, h2, h3⟩, hz⟩
    · obtain ⟨its, rv, hl, hz⟩ := I.tuple hs
      obtain ⟨o, h1, h2, n, h3⟩ := hl
      exact ⟨its, rv, ⟨"tuple", o, n, .inr rfl, h1, h2, h3⟩, hz⟩
  obtain ⟨its, rv, hl, hz⟩ := hseq
  obtain ⟨u, rfl, ru⟩ := vals1 r
  obtain rfl : u = Value.ref a := ru
  obtain ⟨hr1, hr2⟩ := he.rows
  obtain ⟨e1, e2⟩ := refs_back rv fun x m => by
    obtain ⟨t, e, _⟩ := hr2 x m
    exact ⟨t, e⟩
  have hmem : ∀ x ∈ xs, rowAt H x ∈ es := fun x hx => by rw [← hr1]; exact List.mem_map.mpr ⟨x, hx, rfl⟩
  have hback : ∀ v ∈ its, backV v ∈ xs := fun v hv => by rw [e1]; exact List.mem_map.mpr ⟨v, hv, rfl⟩
  have hval : ∀ v ∈ its, (match valV es (rowAt H (backV v)).1 with | some z => z | none => V.non) = (rowAt H (backV v)).2 := fun v hv => by
    rw [valE_mem nd (hmem _ (hback v hv))]
  refine sorted_sp (k := fun u => T (rowAt H (backV u)).1) (m := fun z => match valV es z.cps.toList with | some z => z | none => V.non) hl (by rw [← rv.length]; exact hz) (fun v hv => ?_) (fun v hv => ?_) fun h' d out h1 h2 kp hd hn => ?_
  · show Flat2 (match valV es (rowAt H (backV v)).1 with | some z => z | none => V.non)
    rw [hval v hv]
    exact hf _ (hmem _ (hback v hv))
  · obtain ⟨t, rfl⟩ := e2 v hv
    obtain ⟨t', e, ht⟩ := hr2 _ (hback _ hv)
    cases e
    obtain ⟨_, its2, r2, o, ho, hc, n, hd⟩ := I.hok _ _ ht
    obtain ⟨u1, u2, rfl, ri, rj⟩ := vals2 r2
    obtain ⟨t1, rfl⟩ := ri
    refine ⟨u2, ⟨t, o, t1, n, rfl, ho, hc, hd⟩, ?_⟩
    show RelV (match valV es (rowAt H (backV (.ref t))).1 with | some z => z | none => V.non) u2
    rw [hval _ hv]
    exact rj
  · have h3 : ∀ u ∈ out, ∃ a, u = Value.ref a := fun u hu => e2 u (h2.perm.mem_iff.mp hu)
    obtain ⟨n, hn⟩ := hn
    have hb0 : SrtO.Stb (fun x y => ltX (rowAt H x).1 (rowAt H y).1) (out.map backV) xs := by
      rw [e1]
      exact SrtO.Stb.map (swo_of fun x => (rowAt H x).1) backV h2
    have hb : SrtO.Stb ltR ((out.map backV).map (rowAt H)) (xs.map (rowAt H)) := SrtO.Stb.map (swo_of fun e : Row => e.1) (rowAt H) hb0
    rw [hr1] at hb
    have hsr : SrtO.Srtd ltR ((out.map backV).map (rowAt H)) := SrtO.srtd_map (SrtO.srtd_map h1)
    refine ⟨.ref d, upd H d (.lst (out.map backV)), I.laidN (t' := s.toks) kp hd (I.hok.gone hd) ⟨?_, out, n, vals_back h3, hn⟩, rfl, q _ _ d ⟨hsr, hb⟩ (est_of fun u hu => hr2 u (hb0.perm.mem_iff.mp hu)) (I.hok.gone hd)⟩
    rw [hb0.perm.length_eq]
    exact hz
end
end Wk

set_option Elab.async false
set_option linter.all false
set_option maxRecDepth 100000
set_option maxHeartbeats 4000000
namespace Wk
open PySem PySem.Spec PyProof.Rows L2 Evl
/-- no text, whatever is laid -/
def NSt (K : PySem.W.Frag) (H : Hp) (v : V) : Prop := ∀ H', Ex H H' → ∃ t, TyX K H' v t ∧ PySem.W.kitOne K t (.type "str") = some false
theorem NSt.mono {K : PySem.W.Frag} {H H' : Hp} {v : V} (e : Ex H H') (h : NSt K H v) : NSt K H' v := fun H2 e2 => h H2 (e.trans e2)
theorem nst_dq {K : PySem.W.Frag} {H : Hp} {v : V} {d : PyData} (h : Dq H v d) (hs : isStr d = false) : NSt K H v := fun H' e => ⟨_, (h.mono e).ty, kit_ty (by rw [kit_str, hs])⟩
def bitB (c : Nat) : Bool := decide (c = 48) || decide (c = 49)
def rngB (l : List Nat) : Bool := decide (l.length ≤ 10) && l.all bitB
def adrB (l : List Nat) : Bool := rngB l && decide (l.length = 10)
theorem all_bits {l : List Nat} (h : IsB l) : l.all bitB = true := by
  rw [List.all_eq_true]
  intro c hc
  unfold bitB
  rcases h c hc with z | z <;> simp [z]
theorem rng_yes {l : List Nat} (h : IsB l) (hl : l.length ≤ 10) : rngB l = true := by
  unfold rngB
  rw [all_bits h, Bool.and_true]
  exact decide_eq_true hl
theorem adr_yes {l : List Nat} (h : IsB l) (hl : l.length = 10) : adrB l = true := by
  unfold adrB
  rw [rng_yes h (by omega), Bool.true_and]
  exact decide_eq_true hl
theorem bit_in (c : Nat) : inV (.str (T [c])) [.str "0", .str "1"] = bitB c := by
  have e0 : (Str.ofString "0") = T [48] := by decide +kernel
  have e1 : (Str.ofString "1") = T [49] := by decide +kernel
  show (eqV (.str (Str.ofString "0")) (.str (T [c])) || (eqV (.str (Str.ofString "1")) (.str (T [c])) || false)) = _
  rw [e0, e1]
  show ((T [48] == T [c]) || ((T [49] == T [c]) || false)) = _
  unfold bitB
  have b : ∀ a : Nat, (T [a] == T [c]) = decide (c = a) := fun a => by
    by_cases z : c = a
    · rw [z]; simp
    · rw [decide_eq_false z]
      exact beq_eq_false_iff_ne.mpr fun y => z (by have := T_inj y; simpa using this.symm)
  rw [b, b, Bool.or_false]
section
variable {K : PySem.W.Frag} {σ : L2.St} {H : Hp} {ta te : TE}
theorem ev_isiN {v : V} (h : Ev ta σ H v) (hn : NSt K H v) : Ev (tCB (rIsi K) (tCons ta (tCons (tC (.ty "str")) tNil))) σ H (.bl false) := fun H1 e Q q =>
  h H1 e _ fun H2 e2 => by
    obtain ⟨t, ht, hk⟩ := hn H2 (e.trans e2)
    exact ⟨v, .ty "str", t, .type "str", false, rfl, .ty "str", ht, hk, q H2 e2⟩
theorem ev_isiS {x : Str} (h : Ev ta σ H (.str x)) : Ev (tCB (rIsi K) (tCons ta (tCons (tC (.ty "str")) tNil))) σ H (.bl true) := ev_isi h (.str x) (kit_str (.str x))
abbrev rLenStr : List V → Hp → VK → Prop := fun xs H Q => ∃ z : Str, xs = [.str z] ∧ z.length ≤ sizeLine ∧ Q (.int z.length) H
theorem ev_lenS {l : List Nat} (h : Ev ta σ H (.str (T l))) (hl : l.length ≤ 1000) : Ev (tCB rLenStr (tCons ta tNil)) σ H (.int (l.length : Int)) := fun H1 e Q q =>
  h H1 e _ fun H2 e2 => ⟨T l, rfl, by rw [T_len]; exact sz_of (by omega), by rw [T_len]; exact q H2 e2⟩
/-- a list comprehension over a text -/
theorem el_lcS {l : List Nat} {j : Nat} {vs : List Nat} (v : Nat → V) (h : Ev ta σ H (.str (T l))) (hl : l.length ≤ 1000) (hw : ∀ x, wipe ((wipe σ vs).set j (some x)) vs = wipe σ vs)
    (he : ∀ (i c : Nat) H1, Ex H H1 → l[i]? = some c → Ev te ((wipe σ vs).set j (some (.str (T [c])))) H1 (v i)) :
    EvL (tLc (iStr ta) (gName j) tYes te vs) σ H (given l.length (fun _ => true) v) := fun H0 e Q q => h H0 e _ fun H1 e1 => by
  have hsz : (T l).cps.size = l.length := by simp [T]
  refine ⟨T l, rfl, fun Dl hD => ?_⟩
  have w := walk_str (z := T l)
  rw [hsz] at w
  refine lc_it w (Cw H1 (fun _ => true) v Dl) ⟨hD, Ex.new hD, upd_same⟩ (fun _ _ _ _ => trivial) (fun i x H' H2 hi p y => ?_) (fun H' p => q Dl H' (fresh_back e1 p.1) (e1.trans p.2.1) p.2.2)
  obtain ⟨rfl, c, hc, rfl⟩ := y
  have hc' : l[i]? = some c := by simpa [T] using hc
  exact ⟨hw _, cw_turn p (by omega) et_yes (fun _ => he i c H1 (e.trans e1) hc')⟩
theorem rng_map (l : List Nat) (f : Nat → V) : (List.range l.length).map (fun i => f (l.getD i 0)) = l.map f := by
  apply List.ext_getElem
  · simp
  · intro i h1 h2
    have h3 : i < l.length := by simpa using h1
    simp [List.getD_eq_getElem?_getD, List.getElem?_eq_getElem h3]
end
theorem op_in_seqK {X : Cx} {K : PySem.W.Frag} (hK : X.K = K) : OpR X (compareOp .In) (rIn K false) := by
  subst hK
  exact op_in_seq
section
variable {P : Program} {w : World} {K : PySem.W.Frag} {mg : Str → Option Value} {base : Heap} {f : Addr} {fd : FuncData}
/-! is_range -/
abbrev spRange (K : PySem.W.Frag) : Sp := spP fun H vs z => ∃ v, vs = [v] ∧ ((∃ l, v = .str (T l) ∧ l.length ≤ 100 ∧ z = .bl (rngB l)) ∨ (NSt K H v ∧ z = .bl false))
abbrev sRange : Stmt := top 13
abbrev nRange : List Str := ["thing", "sign"]
theorem scRange : FnScope nRange ["thing"] (defScope sRange) := ⟨rfl, rfl, rfl, by decide +kernel, rfl, by decide +kernel, by decide +kernel⟩
theorem ok_range (B : Bl mg) {t1 : Tok} (hM : mg "ADDRESS_LENGTH" = some (.int 10 t1)) (F : FnP K "is_range" sRange f fd) : FnOk P w K mg base CX0 1 f fd ["thing"] (spRange K) := by
  refine F.ok scRange (fun vs H Q E h => ?_) (fun cdv A outer s H vs Q E hr h => ?_)
  · obtain ⟨z, ⟨v, rfl, _⟩, _⟩ := h
    rfl
  · obtain ⟨z, ⟨v, rfl, hv⟩, k⟩ := h
    refine ⟨_, pss_cons (ps_if (PW.pt (pw_or (pt_not (pt_val (pe_callB call_isi (by rfl) B.isi boot_isinstance (pa_cons (pv 0) (pa_cons (pe_bltn (v := .ty "str") (by rfl) B.str PyProof.Rows.boot_str rfl) pa_nil)))))
        (pw_or1 (pt_cmpR op_gt (pe_callB call_len_str (by rfl) B.len PySem.boot_len (pa_cons (pv 0) pa_nil)) (pe_glob (v := .int 10) (by rfl) hM ⟨_, rfl⟩) (nomark _))))) (pss_one (ps_ret pe_bl)) pss_nil)
      (pss_one (ps_ret (pe_callB (cr_all rfl) (by rfl) B.all boot_all (pa_cons (pe_lc (own := [("sign", 1)]) (g := gName 1) (tt := tYes) rfl scRange.nd (pi_str (pv 0)) (blkOk_by (N := nRange) (sc := defScope sRange) (by decide +kernel))
        (fun _ _ _ _ _ => pg_name (i := 1) scRange.nd rfl (Or.inl rfl)) (fun _ _ _ _ _ => pts_nil) (fun _ _ _ _ _ => pe_cmpR (op_in_seqK (K := K) rfl) (pv 1) (pe_tup (pa_cons pe_str (pa_cons pe_str pa_nil))) rfl)) pa_nil)))), ?_⟩
    rcases hv with ⟨l, rfl, hl, rfl⟩ | ⟨hn, rfl⟩
    · have v0 : ∀ {H1 : Hp}, Ev (tVar 0) (start nRange [V.str (T l)]) H1 (.str (T l)) := ev_var rfl
      refine q_when (b := !true || decide ((10 : Int) < (l.length : Int))) (et_or (et_not (et_B (ev_isiS (K := K) v0))) fun _ => et_test (ev_op (r := rI0 fun i j => .bl (decide (j < i))) (ev_lenS v0 (by omega)) ev_c rv_I0)) (fun hb H1 e1 => ?_) (fun hb H1 e1 => ?_)
      · have hb' : (10 : Int) < (l.length : Int) := of_decide_eq_true (by simpa using hb)
        have e : rngB l = false := by
          unfold rngB
          rw [decide_eq_false (by omega), Bool.false_and]
        rw [e] at k
        exact k H1 e1
      · have hb' : ¬ (10 : Int) < (l.length : Int) := of_decide_eq_false (by simpa using hb)
        have e : rngB l = (l.map bitB).all id := by
          unfold rngB
          rw [decide_eq_true (by omega), Bool.true_and, List.all_map]
          rfl
        rw [e] at k
        have hl := el_lcS (H := H1) (σ := start nRange [V.str (T l)]) (ta := tVar 0) (te := tOp (rIn K false) (tVar 1) (tTup (tCons (tC (.str "0")) (tCons (tC (.str "1")) tNil)))) (j := 1) (vs := [1]) (fun i => V.bl (bitB (l.getD i 0))) v0 (by omega) (fun x => rfl) (fun i c H2 e2 hc => by
          have z := ev_inS (K := K) (σ := (wipe (start nRange [V.str (T l)]) [1]).set 1 (some (.str (T [c])))) (H := H2) (ta := tVar 1) (x := .str (T [c])) (ev_var rfl) (es_tup (xs := [.str "0", .str "1"]) (ea_cons ev_c (ea_cons ev_c ea_nil)) (by show 2 ≤ 100000; decide)) rfl rfl
          rw [bit_in] at z
          rw [show l.getD i 0 = c by rw [List.getD_eq_getElem?_getD, hc]; rfl]
          exact z)
        rw [given_yesAll, rng_map l fun c => V.bl (bitB c)] at hl
        refine s_ret (v := .bl ((l.map bitB).all id)) (ev_allL (K := K) ?_) fun H2 e2 => k H2 (e1.trans e2)
        rw [List.map_map]
        exact hl
    · have v0 : ∀ {H1 : Hp}, Ev (tVar 0) (start nRange [v]) H1 v := ev_var rfl
      exact q_when (b := !false || false) (et_or (et_not (et_B (ev_isiN (K := K) v0 hn))) fun z => (by cases z)) (fun _ H1 e1 => k H1 e1) (fun z => (by cases z))
/-! is_address -/
abbrev spAddr (K : PySem.W.Frag) : Sp := spP fun H vs z => ∃ v, vs = [v] ∧ ((∃ l, v = .str (T l) ∧ l.length ≤ 100 ∧ z = .bl (adrB l)) ∨ (NSt K H v ∧ z = .bl false))
abbrev sAddr : Stmt := top 14
theorem scAddr : FnScope ["thing"] ["thing"] (defScope sAddr) := ⟨rfl, rfl, rfl, by decide +kernel, rfl, by decide +kernel, by decide +kernel⟩
theorem ok_addr (B : Bl mg) {t1 : Tok} (hM : mg "ADDRESS_LENGTH" = some (.int 10 t1)) (C : Cal P w K mg base "is_range" ["thing"] 1 (spRange K)) (F : FnP K "is_address" sAddr f fd) : FnOk P w K mg base CX0 2 f fd ["thing"] (spAddr K) := by
  refine F.ok scAddr (fun vs H Q E h => ?_) (fun cdv A outer s H vs Q E hr h => ?_)
  · obtain ⟨z, ⟨v, rfl, _⟩, _⟩ := h
    rfl
  · obtain ⟨z, ⟨v, rfl, hv⟩, k⟩ := h
    refine ⟨_, pss_one (ps_ret (pe_and (pe_cal C hr (by rfl) (pa_cons (pv 0) pa_nil)) (pe_one (pe_cmpR op_eq (pe_callB call_len_str (by rfl) B.len PySem.boot_len (pa_cons (pv 0) pa_nil)) (pe_glob (v := .int 10) (by rfl) hM ⟨_, rfl⟩) (nomark _))))), ?_⟩
    rcases hv with ⟨l, rfl, hl, rfl⟩ | ⟨hn, rfl⟩
    · have v0 : ∀ {H1 : Hp}, Ev (tVar 0) (start ["thing"] [V.str (T l)]) H1 (.str (T l)) := ev_var rfl
      refine s_ret (v := .bl (rngB l && decide (V.int (l.length : Int) = V.int 10))) (ev_andV (ev_call (ea_cons v0 ea_nil) (spP_v fun H1 e => ⟨_, rfl, .inl ⟨l, rfl, hl, rfl⟩⟩)) fun _ => ev_op (r := rEq) (ev_lenS v0 (by omega)) ev_c (rv_eq rfl)) ?_
      have e : decide (V.int (l.length : Int) = V.int 10) = decide (l.length = 10) := by
        refine decide_eq_decide.mpr ⟨fun z => ?_, fun z => by rw [z]; rfl⟩
        injection z with z
        omega
      rw [e]
      exact k
    · have v0 : ∀ {H1 : Hp}, Ev (tVar 0) (start ["thing"] [v]) H1 v := ev_var rfl
      exact s_ret (v := .bl (false && false)) (ev_andV (ev_call (ea_cons v0 ea_nil) (spP_v fun H1 e => ⟨_, rfl, .inr ⟨hn.mono e, rfl⟩⟩)) fun z => (by cases z)) k
/-! beginnings -/
def begs (l : List Nat) : List V := (List.range 11).map fun i => .str (T (l.take (10 - i)))
def spBeg : Sp := fun vs H Q _ => ∃ l : List Nat, vs = [.str (T l)] ∧ l.length ≤ 100 ∧ ∀ H' D, Ex H H' → H D = none → H' D = some (.lst (begs l)) → Q (.ref D) H'
abbrev sBeg : Stmt := top 16
abbrev nBeg : List Str := ["address", "length"]
theorem scBeg : FnScope nBeg ["address"] (defScope sBeg) := ⟨rfl, rfl, rfl, by decide +kernel, rfl, by decide +kernel, by decide +kernel⟩
theorem ok_beg (B : Bl mg) {t1 : Tok} (hM : mg "ADDRESS_LENGTH" = some (.int 10 t1)) (F : FnP K "beginnings" sBeg f fd) : FnOk P w K mg base CX0 1 f fd ["address"] spBeg := by
  refine F.ok scBeg (fun vs H Q E h => ?_) (fun cdv A outer s H vs Q E hr h => ?_)
  · obtain ⟨l, rfl, _⟩ := h
    rfl
  · obtain ⟨l, rfl, hl, k⟩ := h
    refine ⟨_, pss_one (ps_ret (pe_lc (own := [("length", 1)]) (g := gName 1) (tt := tYes) rfl scBeg.nd (pi_range3 (by rfl) B.range (pa_cons (pe_glob (v := .int 10) (by rfl) hM ⟨_, rfl⟩) (pa_cons (pe_un un_neg pe_int) (pa_cons (pe_un un_neg pe_int) pa_nil)))) (blkOk_by (N := nBeg) (sc := defScope sBeg) (by decide +kernel))
        (fun _ _ _ _ _ => pg_name (i := 1) scBeg.nd rfl (Or.inl rfl)) (fun _ _ _ _ _ => pts_nil) (fun _ _ _ _ _ => pe_slice sl_str (pv 0) po_none (po_some (pv 1))))), ?_⟩
    refine ⟨1, rfl, 1, rfl, 10, -1, -1, 11, rfl, RgC.neg (i := 10) (j := -1) (by decide) (by decide) (by decide) (by decide), fun Dl hD => ?_⟩
    refine lc_it (walk_rangeC (lo := 10) (c := -1) (n := 11)) (Cw H (fun _ => true) (fun i => V.str (T (l.take (10 - i)))) Dl) ⟨hD, Ex.new hD, upd_same⟩ (fun _ _ _ _ => trivial) (fun i x H' H2 hi p y => ?_) (fun H' p => ?_)
    · obtain ⟨rfl, rfl⟩ := y
      refine ⟨rfl, cw_turn p (by omega) et_yes (fun _ => ?_)⟩
      have z := ev_slS (H := H) (σ := (wipe (start nBeg [V.str (T l)]) [1]).set 1 (some (.int (10 + (i : Int) * -1)))) (l := l) (te := tVar 0) (tl := tNoPart) (th := tPart (tVar 1)) (lo := none) (hi := some (10 + (i : Int) * -1)) (ev_var rfl) eo_none (eo_some (ev_var rfl)) (by omega)
      rw [show (10 + (i : Int) * -1) = ((10 - i : Nat) : Int) by omega, cut_take] at z
      show Ev _ ((wipe (start nBeg [V.str (T l)]) [1]).set 1 (some (.int (10 + (i : Int) * -1)))) H _
      rw [show (10 + (i : Int) * -1) = ((10 - i : Nat) : Int) by omega]
      exact z
    · refine k H' Dl p.2.1 p.1 ?_
      rw [p.2.2, given_yesAll]
      rfl
end
end Wk

set_option Elab.async false
set_option linter.all false
set_option maxRecDepth 100000
set_option maxHeartbeats 4000000
namespace Wk
open PySem PySem.Spec PyProof.Rows L2 Evl
theorem g_two {i j : Nat} {x y : V} {σ : L2.St} {H : Hp} {k : L2.St → Hp → Prop} (h : k ((σ.set i (some x)).set j (some y)) H) : gCons (gName i) (gCons (gName j) gNil) [x, y] σ H k := ⟨_, _, rfl, ⟨_, _, rfl, ⟨rfl, h⟩⟩⟩
/-! rows as data -/
def nxD : V → PyData
  | .str z => .str z
  | .int i => .int i
  | _ => .none
theorem dq_nx {H : Hp} {v : V} (h : NxV v) : Dq H v (nxD v) := by
  rcases h with rfl | rfl | ⟨i, _, rfl⟩
  · exact .str _
  · exact .str _
  · exact .int _
theorem flat_nx {v : V} (h : NxV v) : SrtT.Flat2 v := by
  rcases h with rfl | rfl | ⟨i, _, rfl⟩
  · exact .inr ⟨_, rfl⟩
  · exact .inr ⟨_, rfl⟩
  · exact .inl ⟨_, rfl⟩
def rowD (e : Row) : PyData := .tuple [.str (T e.1), nxD e.2]
theorem EsT.dq {H : Hp} : ∀ {us : List V} {es : List Row}, EsT H us es → (∀ e ∈ es, NxV e.2) → DqA H us (es.map rowD)
  | _, _, .nil, _ => .nil
  | _, _, .cons h t, k => .cons (.tup h (.cons (.str _) (.cons (dq_nx (k _ List.mem_cons_self)) .nil))) (t.dq fun e he => k e (List.mem_cons_of_mem _ he))
/-- a row: a list or a tuple -/
def RowA (H : Hp) (a : Addr) (xs : List V) : Prop := H a = some (.lst xs) ∨ H a = some (.tup xs)
theorem RowA.mono {H H' : Hp} {a : Addr} {xs : List V} (e : Ex H H') (h : RowA H a xs) : RowA H' a xs := h.imp (e _ _) (e _ _)
def isLi : PyData → Bool
  | .list _ => true
  | _ => false
theorem kit_lst (d : PyData) : kitB (tyN d) "list" = some (isLi d) := by
  cases d with
  | none => exact show kitB "NoneType" "list" = some false by decide +kernel
  | bool b => exact show kitB "bool" "list" = some false by decide +kernel
  | int i => exact show kitB "int" "list" = some false by decide +kernel
  | str z => exact show kitB "str" "list" = some false by decide +kernel
  | list ds => exact show kitB "list" "list" = some true by decide +kernel
  | tuple ds => exact show kitB "tuple" "list" = some false by decide +kernel
  | dict ds => exact show kitB "dict" "list" = some false by decide +kernel
section
variable {K : PySem.W.Frag} {σ : L2.St} {H : Hp} {ta : TE}
theorem ev_isiD2 {v : V} {d : PyData} {n m : String} {b c : Bool} (h : Ev ta σ H v) (hd : Dq H v d) (h1 : kitB (tyN d) n = some b) (h2 : kitB (tyN d) m = some c) :
    Ev (tCB (rIsiT K) (tCons ta (tCons (tTup (tCons (tC (.ty n)) (tCons (tC (.ty m)) tNil))) tNil))) σ H (.bl (b || c)) := fun H1 e Q q =>
  h H1 e _ fun H2 e2 => ⟨by show 2 ≤ sizeLine; decide, fun p hp => ⟨v, p, [.ty n, .ty m], .type (tyN d), [.type n, .type m], b || c, rfl, upd_same, .cons (.ty n) (.cons (.ty m) .nil), (hd.mono ((e.trans e2).trans (Ex.new hp))).ty,
    kitAny_cons (kit_ty h1) (fun hb => kitAny_cons (kit_ty h2) (fun hc => by rw [hb, hc]; exact kitAny_nil) (fun hc => by rw [hc]; simp)) (fun hb => by rw [hb]; rfl), q _ (e2.trans (Ex.new hp))⟩⟩
end
/-! for i, x in enumerate(a list or a tuple); for x in a list or a tuple -/
theorem pi_either {X : Cx} {tg e : Expr} {w1 w2 : TI} (h1 : PI X tg e w1) (h2 : PI X tg e w2) : PI X tg e (fun σ H R => w1 σ H R ∨ w2 σ H R) := ⟨fun pins s σ H R I h => h.elim (h1.run pins s σ H R I) (h2.run pins s σ H R I)⟩
theorem pi_enumK {X : Cx} {K : PySem.W.Frag} (hK : X.K = K) {e : Expr} {ta : TA} {p pos tpos : Pos} {elts : List Expr} {kk : Nat} (hg : Gl X "enumerate") (hm : X.mg "enumerate" = none) (ha : PA X [e] ta) (hs : starEach [e] X.env = [(false, eval e X.env)] := by rfl) :
    PI X (.Tuple elts kk tpos) (.Call (.Name "enumerate" p) [e] [] pos) (fun σ H R => iEnum K ta σ H R ∨ iEnumT K ta σ H R) := by
  subst hK
  exact pi_either (pi_enum hg hm ha hs) (pi_enumT hg hm ha hs)
section
variable {K : PySem.W.Frag} {σ : L2.St} {H : Hp} {g : TG} {tu tz : TS} {D : Ends}
theorem s_forEnR {a : Addr} {xs : List V} {tl : TE} (h : Ev tl σ H (.ref a)) (hx : RowA H a xs) (Pv : Nat → L2.St → Hp → Prop) (h0 : ∀ H1, Ex H H1 → Pv 0 σ H1) (hl : ∀ i σ' H', i ≤ xs.length → Pv i σ' H' → RowA H a xs → (∀ o, H a = some o → H' a = some o))
    (hs : ∀ i y T σ' H', xs[i]? = some y → Pv i σ' H' → H' T = none → g (.ref T) σ' (upd H' T (.tup [.int (i : Nat), y])) fun σ2 H2 => tu { D with nx := Pv (i + 1), ct := Pv (i + 1), bk := D.nx } σ2 H2) (hd : ∀ σ' H', Pv xs.length σ' H' → D.nx σ' H') : tFor (fun σ H R => iEnum K (tCons tl tNil) σ H R ∨ iEnumT K (tCons tl tNil) σ H R) g tu D σ H := by
  rcases hx with hx | hx
  · exact .inl (h H (Ex.refl H) _ fun H1 e => ⟨a, xs, rfl, sq_of (e _ _ hx), for_it (walk_enum (K := K) (a := a) (xs := xs)) Pv (h0 H1 e) (fun i σ' H' hi p => sq_of (hl i σ' H' hi p (.inl hx) _ hx)) (fun i x σ' H2 H3 hi p y => by
      obtain ⟨T, u, y, rfl, hT, rfl, hu, hy⟩ := y
      cases hu
      exact hs i y T σ' H2 hy p hT) hd⟩)
  · exact .inr (h H (Ex.refl H) _ fun H1 e => ⟨a, xs, rfl, st_of (e _ _ hx), for_it (walk_enumT (K := K) (a := a) (xs := xs)) Pv (h0 H1 e) (fun i σ' H' hi p => st_of (hl i σ' H' hi p (.inr hx) _ hx)) (fun i x σ' H2 H3 hi p y => by
      obtain ⟨T, u, y, rfl, hT, rfl, hu, hy⟩ := y
      cases hu
      exact hs i y T σ' H2 hy p hT) hd⟩)
end
theorem val_none {l : List Nat} : ∀ {es : List Row}, l ∉ es.map (·.1) → valV es l = none
  | [], _ => rfl
  | e :: es, h => by
    obtain ⟨a, b⟩ := e
    rw [valV_neg (fun z => h (by rw [← z]; exact List.mem_cons_self))]
    exact val_none fun z => h (List.mem_cons_of_mem _ z)
theorem nd_at {es : List Row} {i : Nat} {e : Row} (nd : (es.map (·.1)).Nodup) (h : es[i]? = some e) : e.1 ∉ (es.take i).map (·.1) := by
  have z : ((es.take (i + 1)).map (·.1)).Nodup := List.Sublist.nodup ((List.take_sublist _ _).map _) nd
  rw [take_snoc h, List.map_append, List.nodup_append] at z
  exact fun hm => z.2.2 _ hm _ (by simp) rfl
section
variable {P : Program} {w : World} {K : PySem.W.Frag} {mg : Str → Option Value} {base : Heap} {f : Addr} {fd : FuncData}
/-! is_row, is_tuple_of -/
abbrev spIsRow : Sp := spP fun H vs z => ∃ (v : V) (d : PyData), vs = [v] ∧ Dq H v d ∧ z = .bl (isLi d || isTu d)
abbrev sIsRow : Stmt := top 8
theorem scIsRow : FnScope ["thing"] ["thing"] (defScope sIsRow) := ⟨rfl, rfl, rfl, by decide +kernel, rfl, by decide +kernel, by decide +kernel⟩
theorem ok_isRow (B : Bl mg) (F : FnP K "is_row" sIsRow f fd) : FnOk P w K mg base CX0 1 f fd ["thing"] spIsRow := by
  refine F.ok scIsRow (fun vs H Q E h => ?_) (fun cdv A outer s H vs Q E hr h => ?_)
  · obtain ⟨z, ⟨v, d, rfl, _⟩, _⟩ := h
    rfl
  · obtain ⟨z, ⟨v, d, rfl, hv, rfl⟩, k⟩ := h
    exact ⟨_, pss_one (ps_ret (pe_callB call_isiT (by rfl) B.isi boot_isinstance (pa_cons (pv 0) (pa_cons (pe_tup (pa_cons (pe_bltn (v := .ty "list") (by rfl) B.list PyProof.Rows.boot_list rfl) (pa_cons (pe_bltn (v := .ty "tuple") (by rfl) B.tuple PyProof.Rows.boot_tuple rfl) pa_nil))) pa_nil)))),
      s_ret (ev_isiD2 (ev_var rfl) hv (kit_lst d) (kit_tup d)) k⟩
abbrev sTupOf : Stmt := top 9
theorem scTupOf : FnScope ["many", "thing"] ["many", "thing"] (defScope sTupOf) := ⟨rfl, rfl, rfl, by decide +kernel, rfl, by decide +kernel, by decide +kernel⟩
abbrev spTupOf2 : Sp := spP fun H vs z => ∃ (m : Int) (v : V) (d : PyData), vs = [.int m, v] ∧ Dq H v d ∧ z = .bl (isTu d && decide (V.int ((itemsT d).length : Int) = V.int m))
theorem ok_tupOf2 (B : Bl mg) (F : FnP K "is_tuple_of" sTupOf f fd) : FnOk P w K mg base CX0 1 f fd ["many", "thing"] spTupOf2 := by
  refine F.ok scTupOf (fun vs H Q E h => ?_) (fun cdv A outer s H vs Q E hr h => ?_)
  · obtain ⟨z, ⟨m, v, d, rfl, _⟩, _⟩ := h
    rfl
  · obtain ⟨z, ⟨m, v, d, rfl, hv, rfl⟩, k⟩ := h
    refine ⟨_, pss_one (ps_ret (pe_and (pe_callB call_isi (by rfl) B.isi boot_isinstance (pa_cons (pv 1) (pa_cons (pe_bltn (v := .ty "tuple") (by rfl) B.tuple PyProof.Rows.boot_tuple rfl) pa_nil)))
      (pe_one (pe_cmpR op_eq (pe_callB call_len_seq (by rfl) B.len PySem.boot_len (pa_cons (pv 1) pa_nil)) (pv 0) (nomark _))))), ?_⟩
    refine s_ret (ev_andV (ev_isi (K := K) (ev_var rfl) hv (kit_tup d)) fun ht => ?_) k
    obtain ⟨t, xs, ds, rfl, rfl, hT, hxs⟩ := tu_inv hv ht
    have v1 : Ev (tVar 1) (start ["many", "thing"] [.int m, .ref t]) H (.ref t) := ev_var rfl
    have v0 : Ev (tVar 0) (start ["many", "thing"] [.int m, .ref t]) H (.int m) := ev_var rfl
    have z := ev_op (r := rEq) (ev_lenT (K := K) v1 (st_of hT)) v0 (rv_eq rfl)
    rw [hxs.length] at z
    exact z
/-! is_end -/
abbrev spEnd (K : PySem.W.Frag) : Sp := spP fun H vs z => ∃ x : Str, vs = [.str x] ∧ z = .bl (inV (.str x) [.str "here", .str "drop"])
abbrev sEnd : Stmt := top 24
theorem scEnd : FnScope ["thing"] ["thing"] (defScope sEnd) := ⟨rfl, rfl, rfl, by decide +kernel, rfl, by decide +kernel, by decide +kernel⟩
theorem ok_end (B : Bl mg) {t1 t2 : Tok} (hM1 : mg "HERE" = some (.str "here" t1)) (hM2 : mg "DROP" = some (.str "drop" t2)) (F : FnP K "is_end" sEnd f fd) : FnOk P w K mg base CX0 1 f fd ["thing"] (spEnd K) := by
  refine F.ok scEnd (fun vs H Q E h => ?_) (fun cdv A outer s H vs Q E hr h => ?_)
  · obtain ⟨z, ⟨x, rfl, _⟩, _⟩ := h
    rfl
  · obtain ⟨z, ⟨x, rfl, rfl⟩, k⟩ := h
    refine ⟨_, pss_one (ps_ret (pe_and (pe_callB call_isi (by rfl) B.isi boot_isinstance (pa_cons (pv 0) (pa_cons (pe_bltn (v := .ty "str") (by rfl) B.str PyProof.Rows.boot_str rfl) pa_nil)))
      (pe_one (pe_cmpR (op_in_seqK (K := K) rfl) (pv 0) (pe_tup (pa_cons (pe_glob (v := .str "here") (by rfl) hM1 ⟨_, rfl⟩) (pa_cons (pe_glob (v := .str "drop") (by rfl) hM2 ⟨_, rfl⟩) pa_nil))) rfl)))), ?_⟩
    have v0 : ∀ {H1 : Hp}, Ev (tVar 0) (start ["thing"] [V.str x]) H1 (.str x) := ev_var rfl
    exact s_ret (v := .bl (true && inV (.str x) [.str "here", .str "drop"])) (ev_andV (ev_isiS (K := K) v0) fun _ => ev_inS (K := K) v0 (es_tup (xs := [.str "here", .str "drop"]) (ea_cons ev_c (ea_cons ev_c ea_nil)) (by show 2 ≤ 100000; decide)) rfl rfl) k
/-! is_entry -/
abbrev spEntry : Sp := spP fun H vs z => ∃ (b : Addr) (e : Row), vs = [.ref b] ∧ H b = some (.tup [.str (T e.1), e.2]) ∧ IsB e.1 ∧ e.1.length ≤ 10 ∧ NxV e.2 ∧ z = .bl true
abbrev sEntry : Stmt := top 23
theorem scEntry : FnScope ["thing"] ["thing"] (defScope sEntry) := ⟨rfl, rfl, rfl, by decide +kernel, rfl, by decide +kernel, by decide +kernel⟩
theorem ok_entry {t1 : Tok} (hM : mg "MOST_ROUTERS" = some (.int 8 t1)) (CT : Cal P w K mg base "is_tuple_of" ["many", "thing"] 1 spTupOf2) (CR : Cal P w K mg base "is_range" ["thing"] 1 (spRange K)) (CO : Cal P w K mg base "is_router" ["size", "thing"] 3 spRouter)
    (CE : Cal P w K mg base "is_end" ["thing"] 1 (spEnd K)) (F : FnP K "is_entry" sEntry f fd) : FnOk P w K mg base CX0 4 f fd ["thing"] spEntry := by
  refine F.ok scEntry (fun vs H Q E h => ?_) (fun cdv A outer s H vs Q E hr h => ?_)
  · obtain ⟨z, ⟨b, e, rfl, _⟩, _⟩ := h
    rfl
  · obtain ⟨z, ⟨b, e, rfl, hb, hB, hl, hn, rfl⟩, k⟩ := h
    refine ⟨_, pss_cons (ps_if (PW.pt (pw_or (pt_not (pt_val (pe_cal CT hr (by rfl) (pa_cons pe_int (pa_cons (pv 0) pa_nil))))) (pw_or1 (pt_not (pt_val (pe_cal CR hr (by rfl) (pa_cons (pe_ix ix_tup (pv 0) pe_int (fun _ _ => rfl)) pa_nil))))))) (pss_one (ps_ret pe_bl)) pss_nil)
      (pss_one (ps_ret (pe_or (pe_cal CO hr (by rfl) (pa_cons (pe_glob (v := .int 8) (by rfl) hM ⟨_, rfl⟩) (pa_cons (pe_ix ix_tup (pv 0) pe_int (fun _ _ => rfl)) pa_nil))) (pe_one (pe_cal CE hr (by rfl) (pa_cons (pe_ix ix_tup (pv 0) pe_int (fun _ _ => rfl)) pa_nil)))))), ?_⟩
    have v0 : ∀ {H1 : Hp}, Ev (tVar 0) (start ["thing"] [V.ref b]) H1 (.ref b) := ev_var rfl
    have i0 : ∀ {H1 : Hp}, Ex H H1 → Ev (tOp (rIxT K) (tVar 0) (tC (.int 0))) (start ["thing"] [V.ref b]) H1 (.str (T e.1)) := fun {H1} e1 => ev_op v0 ev_c (rv_ixT (st_of (e1 _ _ hb)) rfl)
    have i1 : ∀ {H1 : Hp}, Ex H H1 → Ev (tOp (rIxT K) (tVar 0) (tC (.int 1))) (start ["thing"] [V.ref b]) H1 e.2 := fun {H1} e1 => ev_op v0 ev_c (rv_ixT (st_of (e1 _ _ hb)) rfl)
    have hd : Dq H (.ref b) (rowD e) := .tup hb (.cons (.str _) (.cons (dq_nx hn) .nil))
    have c1 : Ev (tCall spTupOf2 [] E0 (tCons (tC (.int 2)) (tCons (tVar 0) tNil))) (start ["thing"] [V.ref b]) H (.bl true) := ev_call (ea_cons ev_c (ea_cons v0 ea_nil)) (spP_v fun H1 e1 => ⟨2, _, rowD e, rfl, hd.mono e1, rfl⟩)
    have c2 : Ev (tCall (spRange K) [] E0 (tCons (tOp (rIxT K) (tVar 0) (tC (.int 0))) tNil)) (start ["thing"] [V.ref b]) H (.bl true) := ev_call (ea_cons (i0 (Ex.refl _)) ea_nil) (spP_v fun H1 e1 => ⟨_, rfl, .inl ⟨e.1, rfl, by omega, by rw [rng_yes hB hl]⟩⟩)
    refine q_when (b := !true || !true) (et_or (et_not (et_B c1)) fun _ => et_not (et_B c2)) (fun z => by cases z) fun _ H1 e1 => ?_
    have c3 : Ev (tCall spRouter [] E0 (tCons (tC (.int 8)) (tCons (tOp (rIxT K) (tVar 0) (tC (.int 1))) tNil))) (start ["thing"] [V.ref b]) H1 (.bl (isR 8 (nxD e.2))) := ev_call (ea_cons ev_c (ea_cons (i1 e1) ea_nil)) (spP_v fun H2 e2 => ⟨8, _, nxD e.2, rfl, dq_nx hn, rfl⟩)
    have hin : ∀ x : Str, e.2 = .str x → inV (.str x) [.str "here", .str "drop"] = true := fun x hx => by
      rcases hn with z | z | ⟨i, _, z⟩
      · rw [hx] at z
        injection z with z
        rw [z]
        decide +kernel
      · rw [hx] at z
        injection z with z
        rw [z]
        decide +kernel
      · rw [hx] at z
        cases z
    have key : ∀ q, isR 8 (nxD e.2) = q → ∃ q2, (q || q2) = true ∧ (q = false → Ev (tCall (spEnd K) [] E0 (tCons (tOp (rIxT K) (tVar 0) (tC (.int 1))) tNil)) (start ["thing"] [V.ref b]) H1 (.bl q2)) := fun q hq => by
      cases q with
      | true => exact ⟨true, rfl, fun z => by cases z⟩
      | false =>
        refine ⟨true, rfl, fun _ => ?_⟩
        have hs : ∃ x : Str, e.2 = .str x := by
          rcases hn with z | z | ⟨i, hi, z⟩
          · exact ⟨_, z⟩
          · exact ⟨_, z⟩
          · exfalso
            rw [z] at hq
            have : isR 8 (nxD (V.int (i : Int))) = true := by
              show (true && (decide ((0 : Int) ≤ (i : Int)) && decide ((i : Int) ≤ 8 - 1))) = true
              rw [decide_eq_true (by omega), decide_eq_true (by omega)]
              rfl
            rw [this] at hq
            cases hq
        obtain ⟨x, hx⟩ := hs
        exact ev_call (ea_cons (i1 e1) ea_nil) (spP_v fun H2 e2 => ⟨x, by rw [hx]; rfl, by rw [hin x hx]⟩)
    obtain ⟨q2, h1, h2⟩ := key _ rfl
    refine s_ret (v := .bl (isR 8 (nxD e.2) || q2)) (ev_orV c3 h2) fun H2 e2 => ?_
    rw [h1]
    exact k H2 (e1.trans e2)
/-! refuse_wrong_entries -/
def spRWE : Sp := fun vs H Q _ => ∃ (a : Addr) (us : List V) (es : List Row), vs = [.ref a] ∧ RowA H a us ∧ EsT H us es ∧ EsOk es 24 ∧ ∀ H', Ex H H' → Q .non H'
abbrev sRWE : Stmt := top 22
abbrev nRWE : List Str := ["entries", "ahead", "index", "item"]
theorem scRWE : FnScope nRWE ["entries"] (defScope sRWE) := ⟨rfl, rfl, rfl, by decide +kernel, rfl, by decide +kernel, by decide +kernel⟩
theorem ok_rwe (B : Bl mg) {t1 : Tok} (hM : mg "MOST_ENTRIES" = some (.int 24 t1)) (CI : Cal P w K mg base "is_row" ["thing"] 1 spIsRow) (CE : Cal P w K mg base "is_entry" ["thing"] 4 spEntry) (F : FnP K "refuse_wrong_entries" sRWE f fd) : FnOk P w K mg base CX0 5 f fd ["entries"] spRWE := by
  refine F.ok scRWE (fun vs H Q E h => ?_) (fun cdv A outer s H vs Q E hr h => ?_)
  · obtain ⟨a, us, es, rfl, _⟩ := h
    rfl
  · obtain ⟨a, us, es, rfl, hrow, hus, hes, k⟩ := h
    have hu : (A.deeper (envOfC "refuse_wrong_entries" (defScope sRWE) s.heap.objs.size f cdv)).units + 1 < cLine := by have := hr.un; omega
    refine ⟨_, pss_cons (ps_if (PW.pt (pw_or (pt_not (pt_val (pe_cal CI hr (by rfl) (pa_cons (pv 0) pa_nil)))) (pw_or1 (pt_cmpR op_gt (pe_callB call_len_seq (by rfl) B.len PySem.boot_len (pa_cons (pv 0) pa_nil)) (pe_glob (v := .int 24) (by rfl) hM ⟨_, rfl⟩) (nomark _))))) (pss_one ps_never) pss_nil)
      (pss_cons (ps_set (i := 1) scRWE.nd rfl (Or.inl rfl) pe_dnewK)
      (pss_one (ps_for (passes_of rfl) rfl (pi_enumK (K := K) rfl (by rfl) B.enum (pa_cons (pv 0) pa_nil)) (pg_tup rfl (pgs_cons (pg_name (i := 2) scRWE.nd rfl (.inl rfl)) (pgs_cons (pg_name (i := 3) scRWE.nd rfl (.inl rfl)) pgs_nil)))
        (pss_cons (ps_if (PW.pt (pw_or (pt_not (pt_val (pe_cal CE hr (by rfl) (pa_cons (pv 3) pa_nil)))) (pw_or1 (pt_cmp (pc_din hu (pe_ix ix_tup (pv 3) pe_int (fun _ _ => rfl)) (pv 1)))))) (pss_one ps_never) pss_nil)
        (pss_one (ps_asg pe_bl (pg_sub (pv 1) (pe_ix ix_tup (pv 3) pe_int (fun _ _ => rfl)) (set_dict hu)))))))), ?_⟩
    have hul := hus.length
    have hel := hes.len
    have hnx : ∀ e ∈ es, NxV e.2 := fun e he => (hes.it e he).2.2
    have v0 : ∀ {H1 : Hp}, Ev (tVar 0) (start nRWE [V.ref a]) H1 (.ref a) := ev_var rfl
    have c1 : Ev (tCall spIsRow [] E0 (tCons (tVar 0) tNil)) (start nRWE [V.ref a]) H (.bl true) := by
      rcases hrow with hx | hx
      · exact ev_call (ea_cons v0 ea_nil) (spP_v fun H1 e1 => ⟨_, .list (es.map rowD), rfl, .lst (e1 _ _ hx) ((hus.dq hnx).mono e1), rfl⟩)
      · exact ev_call (ea_cons v0 ea_nil) (spP_v fun H1 e1 => ⟨_, .tuple (es.map rowD), rfl, .tup (e1 _ _ hx) ((hus.dq hnx).mono e1), rfl⟩)
    have c2 : Ev (tCB (rLenS K) (tCons (tVar 0) tNil)) (start nRWE [V.ref a]) H (.int (us.length : Int)) := by
      rcases hrow with hx | hx
      · exact ev_len v0 (sq_of hx)
      · exact ev_lenT v0 (st_of hx)
    refine q_when (b := !true || decide ((24 : Int) < (us.length : Int))) (et_or (et_not (et_B c1)) fun _ => et_test (ev_op (r := rI0 fun i j => .bl (decide (j < i))) c2 ev_c rv_I0)) (fun hb H1 e1 => ?_) fun _ H1 e1 => ?_
    · have hb' : (24 : Int) < (us.length : Int) := of_decide_eq_true (by simpa using hb)
      omega
    intro D hD
    have eD := Ex.new (o := .dK []) hD
    have hD1 : (upd H1 D (.dK [])) D = some (.dK []) := upd_same
    have nHD := fresh_back e1 hD
    refine g_name ?_
    generalize hH2 : upd H1 D (.dK []) = H2 at *
    have e2 := e1.trans eD
    refine s_forEnR (K := K) (H := H2) (xs := us) (ev_var rfl) (hrow.mono e2) (fun i σ' H' => ∃ o1 o2 kvs, σ' = [some (.ref a), some (.ref D), o1, o2] ∧ Ex H H' ∧ H' D = some (.dK kvs) ∧ kvs.length ≤ i ∧ ∀ l, valV kvs (.inr (T l)) ≠ none → l ∈ (es.take i).map (·.1)) (fun H3 e3 => ⟨_, _, [], rfl, e2.trans e3, e3 _ _ hD1, Nat.le_refl _, fun l hl => absurd rfl hl⟩) (fun i σ' H' _ hp hr o ho => ?_) (fun i y T0 σ' H' hy hp hT0 => ?_) (fun σ' H' hp => ?_)
    · obtain ⟨_, _, _, _, e3, _⟩ := hp
      rcases hrow with hx | hx
      · rw [e2 _ _ hx] at ho; rw [← ho]; exact e3 _ _ hx
      · rw [e2 _ _ hx] at ho; rw [← ho]; exact e3 _ _ hx
    · obtain ⟨o1, o2, kvs, rfl, e3, hDk, hkl, hks⟩ := hp
      have eT := Ex.new (o := .tup [.int (i : Nat), y]) hT0
      have hTT : (upd H' T0 (.tup [.int (i : Nat), y])) T0 = some (.tup [.int (i : Nat), y]) := upd_same
      generalize upd H' T0 (.tup [.int (i : Nat), y]) = H4 at *
      have e4 := e3.trans eT
      obtain ⟨b, e, rfl, he, hb⟩ := hus.at_ hy
      obtain ⟨hB, hl, hn⟩ := hes.it e (List.mem_of_getElem? he)
      refine ⟨T0, _, rfl, st_of hTT, rfl, g_two ?_⟩
      change tSeq _ _ _ [some (.ref a), some (.ref D), some (.int (i : Nat)), some (.ref b)] H4
      have hDk4 := eT _ _ hDk
      have hnot := nd_at hes.nd he
      have hval : valV kvs (.inr (T e.1)) = none := by
        cases hv : valV kvs (.inr (T e.1)) with
        | none => rfl
        | some v => exact absurd (hks e.1 (by rw [hv]; exact fun z => by cases z)) hnot
      have i0 : ∀ {H1 : Hp}, Ex H H1 → Ev (tOp (rIxT K) (tVar 3) (tC (.int 0))) [some (.ref a), some (.ref D), some (.int (i : Nat)), some (.ref b)] H1 (.str (T e.1)) := fun {H1} e1 => ev_op (ev_var rfl) ev_c (rv_ixT (st_of (e1 _ _ hb)) rfl)
      have d1 : Ev (tCall spEntry [] E0 (tCons (tVar 3) tNil)) [some (.ref a), some (.ref D), some (.int (i : Nat)), some (.ref b)] H4 (.bl true) := ev_call (ea_cons (ev_var rfl) ea_nil) (spP_v fun H5 e5 => ⟨b, e, rfl, e5 _ _ (e4 _ _ hb), hB, hl, hn, rfl⟩)
      have d2 : Ev (tDIn (tOp (rIxT K) (tVar 3) (tC (.int 0))) (tVar 1)) [some (.ref a), some (.ref D), some (.int (i : Nat)), some (.ref b)] H4 (.bl false) := fun H5 e5 Q q => i0 e4 H5 e5 _ fun H6 e6 => ⟨.ref D, rfl, D, none, rfl, .inl ⟨kvs, .inr (T e.1), .inl (e6 _ _ (e5 _ _ hDk4)), rfl, hval.symm⟩, q H6 e6⟩
      refine q_when (b := !true || false) (et_or (et_not (et_B d1)) fun _ => et_B d2) (fun z => by cases z) fun _ H5 e5 => ?_
      refine ⟨.ref D, rfl, i0 (e4.trans e5) H5 (Ex.refl _) _ fun H6 e6 => ⟨D, _, rfl, DPut.k (k := .inr (T e.1)) (e6 _ _ (e5 _ _ hDk4)) (sz_lt (by have := (List.getElem?_eq_some_iff.mp hy).1; omega)), ?_⟩⟩
      refine ⟨_, _, _, rfl, Ex.mut ((e4.trans e5).trans e6) nHD, upd_same, by have := length_putK kvs (.inr (T e.1)) (V.bl true); omega, fun l hl => ?_⟩
      rw [take_snoc he, List.map_append]
      rw [valV_put] at hl
      by_cases z : (.inr (T l) : L2.Key) = .inr (T e.1)
      · have z2 : l = e.1 := T_inj (by injection z)
        rw [z2]
        exact List.mem_append_right _ (by simp)
      · rw [if_neg z] at hl
        exact List.mem_append_left _ (hks l hl)
    · obtain ⟨_, _, _, rfl, e3, _⟩ := hp
      exact k H' e3
end
end Wk

set_option Elab.async false
set_option linter.all false
set_option maxRecDepth 100000
set_option maxHeartbeats 4000000
namespace Wk
open PySem PySem.Spec PyProof.Rows L2 Evl
abbrev FnM (K : PySem.W.Frag) (x q : Str) (st : Stmt) (f : Addr) (fd : FuncData) : Prop := FunD K x q (defArgs st) (defBody st) (defScope st) [] [] f fd
def Of1 (p : Addr) (H H' : Hp) : Prop := ∀ b o, b ≠ p → H b = some o → H' b = some o
theorem Of1.trans {p : Addr} {H H1 H2 : Hp} (a : Of1 p H H1) (b : Of1 p H1 H2) : Of1 p H H2 := fun c o h1 h => b c o h1 (a c o h1 h)
theorem Of1.ex {p : Addr} {H H1 : Hp} (e : Ex H H1) : Of1 p H H1 := fun c o _ h => e c o h
theorem Of1.upd (x : Addr) (H : Hp) (o : HO) : Of1 x H (L2.upd H x o) := fun b u hb h => by rw [upd_ne hb]; exact h
theorem lk_putF {f g : Str} {v : V} {fs : List (Str × V)} (h : ¬ g = f) : (putF f v fs).lookup g = fs.lookup g := by rw [lookup_putF, if_neg h]
theorem lk_putS {f : Str} {v : V} {fs : List (Str × V)} : (putF f v fs).lookup f = some v := by rw [lookup_putF, if_pos rfl]
theorem len_putF (f : Str) (v : V) : ∀ fs : List (Str × V), (putF f v fs).length ≤ fs.length + 1
  | [] => Nat.le_refl _
  | (g, x) :: r => by
    have ih := len_putF f v r
    unfold putF
    split
    · simp
    · simp only [List.length_cons]; omega
/-! for x in a list or a tuple -/
def iRowK (K : PySem.W.Frag) (tl : TE) : TI := fun σ H R => tl σ H fun x H1 => ∃ a, x = .ref a ∧ (((∃ xs, SqL K H1 a xs) ∧ R (Itl K a) H1) ∨ ((∃ xs, SqT K H1 a xs) ∧ R (Itt K a) H1))
theorem pi_rowK {X : Cx} {K : PySem.W.Frag} (hK : X.K = K) {tg l : Expr} {tl : TE} (hl : PE X l tl) : PI X tg l (iRowK K tl) := by
  subst hK
  refine ⟨fun pins s σ H R I h => ?_⟩
  refine thn (hl.run pins s σ H _ I h) fun v s1 ⟨x, H1, I1, r1, q1⟩ => ?_
  obtain ⟨a, e, q1⟩ := q1
  subst e
  cases r1
  rcases q1 with ⟨⟨xs, hq⟩, q⟩ | ⟨⟨xs, hq⟩, q⟩
  · obtain ⟨its, rv, p, hz⟩ := I1.list hq
    refine wpAny_pyIter_list p.isList ?_
    refine ⟨s1.heap.objs.size, [s1.heap.objs.size], _, _, H1, rfl, I1.kept (t' := s1.toks) fun b o e => Heap.get?_push_of_some _ e, turn_list a _, ⟨_, Heap.get?_push_size _ rfl, rfl, rfl⟩, fun b hb => ?_, q⟩
    have e : b = s1.heap.objs.size := by simpa using hb
    subst e
    exact I1.fpOk (Nat.le_refl _) (I1.hok.fresh (Nat.le_refl _))
  · obtain ⟨its, rv, p, hz⟩ := I1.tuple hq
    refine wpAny_pyIter_tuple (show s1.heap.IsTuple a its.toArray from p) ?_
    refine ⟨s1.heap.objs.size, [s1.heap.objs.size], _, _, H1, rfl, I1.kept (t' := s1.toks) fun b o e => Heap.get?_push_of_some _ e, turn_tuple a _, ⟨_, Heap.get?_push_size _ rfl, rfl, rfl⟩, fun b hb => ?_, q⟩
    have e : b = s1.heap.objs.size := by simpa using hb
    subst e
    exact I1.fpOk (Nat.le_refl _) (I1.hok.fresh (Nat.le_refl _))
/-- {k: v for k, v in rows} -/
theorem dc_rows {K : PySem.W.Frag} {J : It} {us : List V} {es : List Row} {Gd : Hp → Prop} {i1 i2 : Nat} {vs : List Nat} {σ : L2.St} {H : Hp} {D : Addr} {Qd : Hp → Prop} (w : Walk J us.length Gd (fun i H x H' => H' = H ∧ us[i]? = some x)) (hD : H D = none) (hus : EsT H us es) (nd : (es.map (·.1)).Nodup) (hn : us.length ≤ 1000)
    (hG : ∀ H', Ex H H' → Gd H') (hw : ∀ x y, wipe (((wipe σ vs).set i1 (some x)).set i2 (some y)) vs = wipe σ vs) (h1 : ∀ x y, (((wipe σ vs).set i1 (some x)).set i2 (some y))[i1]? = some (some x)) (h2 : ∀ x y, (((wipe σ vs).set i1 (some x)).set i2 (some y))[i2]? = some (some y))
    (hq : ∀ H', Ex H H' → H' D = some (.dK (kvOf es)) → Qd H') :
    ∃ W : Nat → Nat → Hp → Prop, (∃ m, W 0 m (upd H D (.dK []))) ∧ ∀ i m H, W i m H →
      (J.stop i H ∧ Qd H) ∨ (J.go i H ∧ ∃ Nx : Hp → Prop, (∀ H', Nx H' → ∃ m', m' < m ∧ W (i + 1) m' H') ∧ ∀ x H', J.yld i H x H' → gTup K 2 (gCons (gName i1) (gCons (gName i2) gNil)) x (wipe σ vs) H' fun σ2 H2 => wipe σ2 vs = wipe σ vs ∧ tYes σ2 H2 fun b H3 =>
        if b = true then tVar i1 σ2 H3 fun y H4 => tVar i2 σ2 H4 fun z H5 => ∃ kvs k, y = kV k ∧ H5 D = some (.dK kvs) ∧ kvs.length < sizeLine ∧ Nx (upd H5 D (.dK (putK kvs k z))) else Nx H3) := by
  refine ⟨fun i m H' => m = us.length - i ∧ i ≤ us.length ∧ Ex H H' ∧ H' D = some (.dK (kvOf (es.take i))), ⟨us.length, by simp, Nat.zero_le _, Ex.new hD, by rw [List.take_zero]; exact upd_same⟩, ?_⟩
  rintro i m H1 ⟨rfl, hi, e1, d1⟩
  by_cases lt : i < us.length
  · refine .inr ⟨w.goes i H1 lt (hG H1 e1), fun H' => Ex H H' ∧ H' D = some (.dK (kvOf (es.take (i + 1)))), fun H' p => ⟨us.length - (i + 1), by omega, rfl, lt, p⟩, fun x H' y => ?_⟩
    obtain ⟨rfl, hx⟩ := w.yields i H1 x H' lt (hG H1 e1) y
    obtain ⟨b, e, rfl, he, hb⟩ := hus.at_ hx
    refine ⟨b, _, rfl, st_of (e1 _ _ hb), rfl, g_two ⟨hw _ _, ?_⟩⟩
    refine et_yes H' (Ex.refl _) _ fun H3 e3 => ?_
    rw [if_pos rfl]
    refine ⟨_, h1 _ _, _, h2 _ _, kvOf (es.take i), .inr (T e.1), rfl, e3 _ _ d1, ?_, Ex.mut (e1.trans e3) hD, ?_⟩
    · rw [kv_len, List.length_take]
      exact sz_lt (by omega)
    · rw [upd_same, kv_put, putK_new e.2 (val_none (nd_at nd he)), take_snoc he]
  · have e : i = us.length := by omega
    subst e
    rw [List.take_of_length_le (by rw [hus.length]; omega)] at d1
    exact .inl ⟨w.stops H1 (hG H1 e1), hq H1 e1 d1⟩
theorem EsT.of1 {x C dx : Addr} {fs : List (Str × V)} {H H' : Hp} (o : Of1 x H H') (hx : H x = some (.ins C dx fs)) : ∀ {us : List V} {es : List Row}, EsT H us es → EsT H' us es
  | _, _, .nil => .nil
  | _, _, .cons h t => .cons (o _ _ (fun z => by rw [z, hx] at h; cases h) h) (t.of1 o hx)
theorem RowA.of1 {x C dx : Addr} {fs : List (Str × V)} {H H' : Hp} {l : Addr} {us : List V} (o : Of1 x H H') (hx : H x = some (.ins C dx fs)) (h : RowA H l us) : RowA H' l us :=
  h.imp (fun h => o _ _ (fun z => by rw [z, hx] at h; cases h) h) (fun h => o _ _ (fun z => by rw [z, hx] at h; cases h) h)
/-! tables -/
structure TX (K : PySem.W.Frag) (CT : Addr) : Prop where
  ic : C8.InsC K CT
  nE : NoAttr K CT "entries"
  nN : NoAttr K CT "_nexts"
  ks : PySem.W.kitOne K (.ref CT) (.type "str") = some false
/-- a table of the rows es -/
def Tb (CT : Addr) (H : Hp) (x : Addr) (es : List Row) : Prop := ∃ dx fs te nd us' es', H x = some (.ins CT dx fs) ∧ fs.lookup ("entries" : Str) = some (.ref te) ∧ fs.lookup ("_nexts" : Str) = some (.ref nd) ∧ fs.lookup ("onward" : Str) = none ∧
  H te = some (.tup us') ∧ EsT H us' es' ∧ SrR es' es ∧ H nd = some (.dK (kvOf es))
theorem Tb.mono {CT : Addr} {H H' : Hp} {x : Addr} {es : List Row} (e : Ex H H') (h : Tb CT H x es) : Tb CT H' x es := by
  obtain ⟨dx, fs, te, nd, us', es', h1, h2, h3, h4, h5, h6, h7, h8⟩ := h
  exact ⟨dx, fs, te, nd, us', es', e _ _ h1, h2, h3, h4, e _ _ h5, h6.mono e, h7, e _ _ h8⟩
section
variable {P : Program} {w : World} {K : PySem.W.Frag} {mg : Str → Option Value} {base : Heap} {f : Addr} {fd : FuncData} {CT : Addr}
def spInit (CT : Addr) : Sp := fun vs H Q _ => ∃ (x l dx : Addr) (us : List V) (es : List Row), vs = [.ref x, .ref l] ∧ H x = some (.ins CT dx []) ∧ RowA H l us ∧ EsT H us es ∧ EsOk es 24 ∧ ∀ H', Of1 x H H' → Tb CT H' x es → Q .non H'
abbrev sInit : Stmt := inClass (top 21) 0
abbrev nInit : List Str := ["self", "entries", "part", "onto"]
theorem scInit : FnScope nInit ["self", "entries"] (defScope sInit) := ⟨rfl, rfl, rfl, by decide +kernel, rfl, by decide +kernel, by decide +kernel⟩
theorem ok_init (B : Bl mg) (hso : mg "sorted" = none) (X : TX K CT) (CW : Cal P w K mg base "refuse_wrong_entries" ["entries"] 5 spRWE) (F : FnM K "__init__" "Table.__init__" sInit f fd) : FnOk P w K mg base CX0 6 f fd ["self", "entries"] (spInit CT) := by
  refine F.ok scInit (fun vs H Q E h => ?_) (fun cdv A outer s H vs Q E hr h => ?_)
  · obtain ⟨x, l, dx, us, es, rfl, _⟩ := h
    rfl
  · obtain ⟨x, l, dx, us, es, rfl, hx, hrow, hus, hes, k⟩ := h
    refine ⟨_, pss_cons (ps_expr (pe_cal CW hr (by rfl) (pa_cons (pv 1) pa_nil)))
      (pss_cons (ps_fld (pv 0) (pe_callTy (call_tupleK (K := K) rfl) (by rfl) B.tuple PyProof.Rows.boot_tuple (pa_cons (pe_callB (cr_sortedR (K := K) rfl) (by rfl) hso PyProof.Rows.boot_sorted (pa_cons (pv 1) pa_nil)) pa_nil)) rfl)
      (pss_one (ps_fld (pv 0) (pe_dc (own := [("part", 2), ("onto", 3)]) (g := gTup K 2 (gCons (gName 2) (gCons (gName 3) gNil))) (tt := tYes) (tk := tVar 2) (tv := tVar 3) rfl scInit.nd (pi_rowK (K := K) rfl (pv 1)) (blkOk_by (N := nInit) (sc := defScope sInit) (by decide +kernel))
        (fun _ _ _ _ _ => pg_tup rfl (pgs_cons (pg_name (i := 2) scInit.nd rfl (.inl rfl)) (pgs_cons (pg_name (i := 3) scInit.nd rfl (.inl rfl)) pgs_nil))) (fun _ _ _ _ _ => pts_nil) (fun _ _ _ _ _ => pv 2) (fun _ _ _ _ _ => pv 3)) rfl))), ?_⟩
    have hul := hus.length
    have hel := hes.len
    refine ⟨.ref l, rfl, l, us, es, rfl, hrow, hus, hes, fun H1 e1 => ?_⟩
    have hrow1 := hrow.mono e1
    have hus1 := hus.mono e1
    have hx1 := e1 _ _ hx
    refine ⟨.ref l, rfl, l, us, es, rfl, hrow1.imp sq_of st_of, hus1, hes.nd, fun e he => flat_nx (hes.it e he).2.2, fun ys es' p hsr hys hp => ?_⟩
    have e2 := Ex.new (o := .lst ys) hp
    have hpp : (upd H1 p (.lst ys)) p = some (.lst ys) := upd_same
    generalize upd H1 p (.lst ys) = H2 at *
    refine ⟨p, ys, rfl, .inl ⟨sq_of hpp, fun t ht => ?_⟩⟩
    have e3 := Ex.new (o := .tup ys) ht
    have htt : (upd H2 t (.tup ys)) t = some (.tup ys) := upd_same
    generalize upd H2 t (.tup ys) = H3 at *
    have hx3 := e3 _ _ (e2 _ _ hx1)
    refine ⟨.ref x, rfl, x, CT, dx, [], rfl, hx3, X.ic.cl, X.nE, by decide, ?_⟩
    have ln1 : (putF "entries" (.ref t) ([] : List (Str × V))).length ≤ 1 := len_putF _ _ _
    have lkE : (putF "entries" (.ref t) ([] : List (Str × V))).lookup ("entries" : Str) = some (.ref t) := lk_putS
    have lkO : (putF "entries" (.ref t) ([] : List (Str × V))).lookup ("onward" : Str) = none := by rw [lk_putF (by decide +kernel)]; rfl
    generalize putF "entries" (.ref t) ([] : List (Str × V)) = fs1 at *
    have o4 := Of1.upd x H3 (.ins CT dx fs1)
    have hx4 : (upd H3 x (.ins CT dx fs1)) x = some (.ins CT dx fs1) := upd_same
    have hus4 := (hus1.mono (e2.trans e3)).of1 o4 hx3
    have hys4 := (hys.mono (e2.trans e3)).of1 o4 hx3
    have hrow4 := (hrow1.mono (e2.trans e3)).of1 o4 hx3
    have ht4 := o4 t _ (fun z => by rw [z, hx3] at htt; cases htt) htt
    have o04 : Of1 x H (upd H3 x (.ins CT dx fs1)) := (Of1.ex ((e1.trans e2).trans e3)).trans o4
    generalize upd H3 x (.ins CT dx fs1) = H4 at *
    have fin : ∀ D, H4 D = none → ∀ H5, Ex H4 H5 → H5 D = some (.dK (kvOf es)) → (sFld K (tVar 0) (fun σ H Q => Q (.ref D) H) "_nexts") { nx := fun _ H' => Q .non H', rt := Q, bk := fun _ _ => False, ct := fun _ _ => False } [some (.ref x), some (.ref l), none, none] H5 := fun D hD H5 e5 hD5 => by
      have hx5 := e5 _ _ hx4
      refine ⟨.ref x, rfl, x, CT, dx, fs1, rfl, hx5, X.ic.cl, X.nN, Nat.lt_of_le_of_lt ln1 (by decide), ?_⟩
      have o5 := Of1.upd x H5 (.ins CT dx (putF "_nexts" (.ref D) fs1))
      refine k _ ((o04.trans (Of1.ex e5)).trans o5) ⟨dx, _, t, D, ys, es', upd_same, ?_, lk_putS, ?_, ?_, (hys4.mono e5).of1 o5 hx5, hsr, ?_⟩
      · rw [lk_putF (by decide +kernel)]; exact lkE
      · rw [lk_putF (by decide +kernel)]; exact lkO
      · exact o5 t _ (fun z => by have := e5 _ _ ht4; rw [z, hx5] at this; cases this) (e5 _ _ ht4)
      · exact o5 D _ (fun z => by rw [z, hx5] at hD5; cases hD5) hD5
    rcases hrow4 with hl4 | hl4
    · refine ⟨.ref l, rfl, l, rfl, .inl ⟨⟨us, sq_of hl4⟩, fun D hD => ?_⟩⟩
      exact dc_rows (K := K) (walk_list (K := K) (a := l) (xs := us)) hD hus4 hes.nd (by omega) (fun H' e => sq_of (e _ _ hl4)) (fun _ _ => rfl) (fun _ _ => rfl) (fun _ _ => rfl) fun H5 e5 hD5 => fin D hD H5 e5 hD5
    · refine ⟨.ref l, rfl, l, rfl, .inr ⟨⟨us, st_of hl4⟩, fun D hD => ?_⟩⟩
      exact dc_rows (K := K) (walk_tup (K := K) (a := l) (xs := us)) hD hus4 hes.nd (by omega) (fun H' e => st_of (e _ _ hl4)) (fun _ _ => rfl) (fun _ _ => rfl) (fun _ _ => rfl) fun H5 e5 hD5 => fin D hD H5 e5 hD5
/-! Table.onward -/
/-- the way of the longest beginning that the table knows -/
def LongIs (es : List Row) (l : List Nat) (v : V) : Prop := (∃ i, i ≤ 10 ∧ valV es (l.take (10 - i)) = some v ∧ ∀ j, j < i → valV es (l.take (10 - j)) = none) ∨ (v = .str "drop" ∧ ∀ j, j ≤ 10 → valV es (l.take (10 - j)) = none)
abbrev sOnw : Stmt := inClass (top 21) 2
abbrev nOnw : List Str := ["self", "address", "part"]
theorem scOnw : FnScope nOnw ["self", "address"] (defScope sOnw) := ⟨rfl, rfl, rfl, by decide +kernel, rfl, by decide +kernel, by decide +kernel⟩
end
end Wk

set_option Elab.async false
set_option linter.all false
set_option maxRecDepth 100000
set_option maxHeartbeats 4000000
namespace Wk
open PySem PySem.Spec PyProof.Rows L2 Evl
/-! list of a text -/
theorem vals_of : ∀ {ys : List V} {its : List Value}, ys.length = its.length → (∀ (j : Nat) (y : V), ys[j]? = some y → ∃ v, its[j]? = some v ∧ RelV y v) → Vals ys its
  | [], [], _, _ => .nil
  | [], _ :: _, h, _ => by cases h
  | _ :: _, [], h, _ => by cases h
  | y :: ys, v :: its, h, k => by
    obtain ⟨v', e, r⟩ := k 0 y rfl
    obtain rfl : v = v' := Option.some.inj e
    exact .cons r (vals_of (by simpa using h) fun j z hz => k (j + 1) z hz)
abbrev rListS : List V → Hp → VK → Prop := fun xs H Q => ∃ l : List Nat, xs = [.str (T l)] ∧ l.length ≤ 1000 ∧ ∀ a, H a = none → Q (.ref a) (upd H a (.lst (l.map fun c => .str (T [c]))))
theorem call_listS {X : Cx} (hc : X.calm = true) : CallR X (.type "list") rListS := by
  intro pins s σ H xs us Q I r h
  obtain ⟨l, rfl, hl, q⟩ := h
  obtain ⟨u, rfl, rx⟩ := vals1 r
  obtain ⟨t, rfl⟩ := rx
  have hsz : (T l).cps.size = l.length := by simp [T]
  refine call_list_str (I.ok.hd hc) (T l) t (fun h' tk acc' c' kp e hacc => ?_) (by rw [hsz, sizeLine_eq]; omega)
  refine ⟨.ref s.heap.objs.size, _, I.laid (t' := tk) kp (Nat.le_refl _) (show ObjOk X.prog X.w _ h' _ (.lst (l.map fun c => .str (T [c]))) from ⟨?_, acc'.toList, c', ?_, ?_⟩), rfl, q _ (I.hok.fresh (Nat.le_refl _))⟩
  · rw [List.length_map]; exact sz_of (by omega)
  · refine vals_of ?_ fun j y hj => ?_
    · have h1 := hacc.1
      rw [hsz] at h1
      rw [List.length_map, ← h1]
      simp
    · rw [List.getElem?_map] at hj
      cases hcj : l[j]? with
      | none => rw [hcj] at hj; cases hj
      | some c =>
        rw [hcj] at hj
        have hy := (Option.some.inj hj).symm
        subst hy
        have hjl := (List.getElem?_eq_some_iff.mp hcj).1
        have hja : j < acc'.size := by rw [hacc.1, hsz]; exact hjl
        obtain ⟨c2, u, h1, h2⟩ := hacc.2 j acc'[j] (Array.getElem?_eq_getElem hja)
        have : c2 = c := by
          have e2 : l[j]? = some c2 := by simpa [T] using h1
          rw [hcj] at e2
          exact (Option.some.inj e2).symm
        subst this
        refine ⟨acc'[j], by rw [Array.getElem?_toList, Array.getElem?_eq_getElem hja], ?_⟩
        rw [h2]
        exact ⟨u, rfl⟩
  · simpa using e
/-! the longest by the law's walk -/
def LawIs (es : List Row) (l : List Nat) (v : V) : Prop := (v = .str "drop" ∧ ∀ e ∈ es, l.take e.1.length ≠ e.1) ∨ ∃ e ∈ es, l.take e.1.length = e.1 ∧ v = e.2 ∧ ∀ e' ∈ es, l.take e'.1.length = e'.1 → e'.1.length ≤ e.1.length
theorem long_law {es : List Row} {l : List Nat} {v1 v2 : V} (nd : (es.map (·.1)).Nodup) (hl : l.length = 10) (h10 : ∀ e ∈ es, e.1.length ≤ 10) (h1 : LongIs es l v1) (h2 : LawIs es l v2) : v1 = v2 := by
  have key : ∀ e ∈ es, l.take e.1.length = e.1 → valV es (l.take (10 - (10 - e.1.length))) = some e.2 := fun e he hp => by
    have : 10 - (10 - e.1.length) = e.1.length := by have := h10 e he; omega
    rw [this, hp]
    exact valE_mem nd he
  have back : ∀ k v, valV es k = some v → (k, v) ∈ es := fun k v hv => by
    clear key h1 h2 h10 nd
    induction es with
    | nil => cases hv
    | cons e r ih =>
      obtain ⟨a, b⟩ := e
      by_cases c : a = k
      · rw [valV_pos c] at hv
        rw [← Option.some.inj hv, c]
        exact List.mem_cons_self
      · rw [valV_neg c] at hv
        exact List.mem_cons_of_mem _ (ih hv)
  rcases h1 with ⟨i, hi, hv, hno⟩ | ⟨rfl, hno⟩
  · have hm := back _ _ hv
    have hlen : (l.take (10 - i)).length = 10 - i := by rw [List.length_take]; omega
    have hpre : l.take (l.take (10 - i)).length = l.take (10 - i) := by rw [hlen]
    rcases h2 with ⟨_, h2⟩ | ⟨e, he, hp, rfl, hmax⟩
    · exact absurd hpre (h2 _ hm)
    · have h3 := hmax _ hm hpre
      rw [hlen] at h3
      have h4 := h10 e he
      by_cases c : e.1.length = 10 - i
      · have z := valE_mem nd he
        rw [← hp, c, hv] at z
        exact Option.some.inj z
      · have z := key e he hp
        rw [hno (10 - e.1.length) (by omega)] at z
        cases z
  · rcases h2 with ⟨rfl, _⟩ | ⟨e, he, hp, rfl, _⟩
    · rfl
    · have z := key e he hp
      rw [hno _ (by omega)] at z
      cases z
theorem law_nx {es : List Row} {l : List Nat} {v : V} {m : Nat} (hes : EsOk es m) (h : LawIs es l v) : NxV v := by
  rcases h with ⟨rfl, _⟩ | ⟨e, he, _, rfl, _⟩
  · exact .inr (.inl rfl)
  · exact (hes.it e he).2.2
end Wk

set_option Elab.async false
set_option linter.all false
set_option maxRecDepth 100000
set_option maxHeartbeats 4000000
namespace Wk
open PySem PySem.Spec PyProof.Rows L2 Evl
/-! tests with draws -/
def EvTP (p g c : Addr) (G : Hp) (t : TT) (σ : L2.St) : Prop := ∀ H, Pq G H p g c → ∀ Q : Bool → Hp → Prop, (∀ H' b, Gq p g c G H G H' → Q b H') → t σ H Q
section
variable {p g c : Addr} {G : Hp} {σ : L2.St} {te : TE} {t u : TT}
theorem etp_eq {i : Nat} {z : Int} {k : Int} {E : XK} (hp : σ[i]? = some (some (.ref p))) (hz : Ev te σ G (.int z)) (h0 : 0 < z) (h1 : z ≤ 1000000000) : EvTP p g c G (tTest (tOp rEq (tCall spDrw [] E (tCons (tVar i) (tCons te tNil))) (tC (.int k)))) σ := fun H hP Q q => by
  refine ep_drw hp hz h0 h1 H hP _ fun H' v g1 hv => ?_
  obtain ⟨j, rfl, _⟩ := hv
  exact ⟨rfl, _, rfl, q H' _ g1⟩
theorem etp_or {a : Bool} {H : Hp} {Q : Bool → Hp → Prop} (hP : Pq G H p g c) (h1 : EvT t σ G a) (h2 : a = false → EvTP p g c G u σ) (k : ∀ H' b, Gq p g c G H G H' → (b = false → a = false) → Q b H') : tOr t u σ H Q := by
  refine h1 H hP.ex _ fun H1 e1 => ?_
  have g1 := Gq.ext hP e1
  cases a with
  | true =>
    rw [if_pos rfl]
    exact k H1 true g1 (fun z => by cases z)
  | false =>
    rw [if_neg (by decide)]
    exact h2 rfl H1 g1.pl _ fun H2 b g2 => k H2 b (g1.trans g2) fun _ => rfl
end
end Wk

set_option Elab.async false
set_option linter.all false
set_option maxRecDepth 100000
set_option maxHeartbeats 4000000
namespace Wk
open PySem PySem.Spec PyProof.Rows L2 Evl
/-! rows as data that compare -/
theorem strOk_T {l : List Nat} (h : IsB l) : PyData.strOk (T l) = true := by
  unfold PyData.strOk
  rw [← Array.all_toList]
  show l.all _ = true
  rw [List.all_eq_true]
  intro c hc
  rcases h c hc with z | z <;> (rw [z]; decide)
theorem lay_nx {v : V} (h : NxV v) : (nxD v).canLay0 = true ∧ (nxD v).depth ≤ 1 := by
  rcases h with rfl | rfl | ⟨i, _, rfl⟩
  · exact ⟨by show PyData.strOk _ = true; decide +kernel, by show (PyData.str _).depth ≤ 1; simp [PyData.depth]⟩
  · exact ⟨by show PyData.strOk _ = true; decide +kernel, by show (PyData.str _).depth ≤ 1; simp [PyData.depth]⟩
  · exact ⟨by show (PyData.int _).canLay0 = true; simp [PyData.canLay0], by show (PyData.int _).depth ≤ 1; simp [PyData.depth]⟩
theorem lay_rows : ∀ {es : List Row}, (∀ e ∈ es, IsB e.1 ∧ NxV e.2) → PyData.canLayAll0 (es.map rowD) = true ∧ PyData.depthAll (es.map rowD) ≤ 3
  | [], _ => ⟨by simp [PyData.canLayAll0], by simp [PyData.depthAll]⟩
  | e :: es, h => by
    obtain ⟨h1, h2⟩ := lay_rows (es := es) fun x hx => h x (List.mem_cons_of_mem _ hx)
    obtain ⟨hb, hn⟩ := h e List.mem_cons_self
    obtain ⟨l1, l2⟩ := lay_nx hn
    have hs := strOk_T hb
    refine ⟨?_, ?_⟩
    · rw [List.map_cons]
      simp [PyData.canLayAll0, rowD, PyData.canLay0, hs, l1, h1]
    · rw [List.map_cons]
      simp only [PyData.depthAll, rowD, PyData.depth]
      omega
theorem rows_dp {K : PySem.W.Frag} {H : Hp} {t : Addr} {us : List V} {es : List Row} (ht : H t = some (.tup us)) (hus : EsT H us es) (hes : ∀ e ∈ es, IsB e.1 ∧ NxV e.2) : Dp K H (.ref t) (.tuple (es.map rowD)) := by
  refine Dq.dp ?_ (.tup ht (hus.dq fun e he => (hes e he).2))
  simp only [PyData.canLay0]
  exact (lay_rows hes).1
theorem rows_shaped {es : List Row} (hes : ∀ e ∈ es, IsB e.1 ∧ NxV e.2) : SeqAt.shaped (.tuple (es.map rowD)) = true := by
  unfold SeqAt.shaped
  obtain ⟨h1, h2⟩ := lay_rows hes
  rw [Bool.and_eq_true]
  refine ⟨by simp only [PyData.canLay0]; exact h1, decide_eq_true ?_⟩
  simp only [PyData.depth]
  omega
theorem rows_eqv {es : List Row} (hes : ∀ e ∈ es, IsB e.1 ∧ NxV e.2) : PyData.eqv (.tuple (es.map rowD)) (.tuple (es.map rowD)) = true :=
  SeqAt.eqv_refl _ (by simp only [PyData.canLay0]; exact (lay_rows hes).1)
/-! what stays, with all that stands beside the pool -/
theorem kv_ne_pl {es : List Row} (h : ∀ e ∈ es, IsB e.1) {c g : Addr} {a s m : Int} : kvOf es ≠ plV c g a s m := fun z => by
  cases es with
  | nil => cases z
  | cons e r =>
    have z1 : (.inr (T e.1) : L2.Key) = kC := congrArg Prod.fst (List.cons.inj z).1
    have z2 : T e.1 = Str.ofString "cells" := by injection z1
    have z3 : Str.ofString "cells" = T [99, 101, 108, 108, 115] := by decide +kernel
    rw [z3] at z2
    have z4 := T_inj z2
    have := h e List.mem_cons_self 99 (by rw [z4]; simp)
    omega
section
variable {G H : Hp} {p g c : Addr}
theorem Pq.tupH (h : Pq G H p g c) {b : Addr} {xs : List V} (hb : H b = some (.tup xs)) : Hd2 H p g b = some (.tup xs) := by
  obtain ⟨cs, gs, k, s, m, h1, h2, h3, h4, h5, r⟩ := h.at_
  rw [hd2_at (fun z => by rw [z, h4] at hb; cases hb) (fun z => by rw [z, h5] at hb; cases hb)]
  exact hb
theorem EsT.hd (h : Pq G H p g c) : ∀ {us : List V} {es : List Row}, EsT H us es → EsT (Hd2 H p g) us es
  | _, _, .nil => .nil
  | _, _, .cons hb t => .cons (h.tupH hb) (t.hd h)
theorem Tb.hd {CT x : Addr} {es : List Row} (h : Pq G H p g c) (hes : ∀ e ∈ es, IsB e.1) (hT : Tb CT H x es) : Tb CT (Hd2 H p g) x es := by
  obtain ⟨dx, fs, te, nd, us', es', h1, h2, h3, h4, h5, h6, h7, h8⟩ := hT
  obtain ⟨cs, gs, k, s, m, i1, i2, i3, i4, i5, r⟩ := id h.at_
  refine ⟨dx, fs, te, nd, us', es', ?_, h2, h3, h4, h.tupH h5, h6.hd h, h7, ?_⟩
  · rw [hd2_at (fun z => by rw [z, i4] at h1; cases h1) (fun z => by rw [z, i5] at h1; cases h1)]
    exact h1
  · rw [hd2_at (fun z => by rw [z, i4] at h8; injection h8 with h8; injection h8 with h8; exact kv_ne_pl hes h8.symm) (fun z => by rw [z, i5] at h8; cases h8)]
    exact h8
end
section
variable {P : Program} {w : World} {K : PySem.W.Frag} {mg : Str → Option Value} {base : Heap} {f : Addr} {fd : FuncData} {CT CB : Addr}
/-- the entries are the sorted rows -/
theorem ask_sorted {H : Hp} {σ : L2.St} {tx tr : TE} {x L : Addr} {us : List V} {es : List Row} (X : TX K CT) (hx : Ev tx σ H (.ref x)) (hT : Tb CT H x es) (hr : Ev tr σ H (.ref L)) (hL : H L = some (.lst us)) (hus : EsT H us es) (hes : EsOk es 24) :
    Ev (tOp (rEqD K) (tFld K tx "entries") (tCB (fun xs H Q => ∃ p ys, xs = [.ref p] ∧ ((SqL K H p ys ∧ ∀ l, H l = none → Q (.ref l) (upd H l (.tup ys))) ∨ (SqT K H p ys ∧ Q (.ref p) H))) (tCons (tCB (rSortR K) (tCons tr tNil)) tNil))) σ H (.bl true) := fun H1 e Q q => by
  refine hx H1 e _ fun H2 e2 => ?_
  obtain ⟨dx, fs, te, nd, us', es', h1, h2, h3, h4, h5, h6, h7, h8⟩ := id hT
  refine ⟨x, CT, dx, fs, .ref te, rfl, (e.trans e2) _ _ h1, X.ic.cl, X.nE, h2, ?_⟩
  refine hr H2 (e.trans e2) _ fun H3 e3 => ?_
  have e03 := (e.trans e2).trans e3
  refine ⟨L, us, es, rfl, .inl (sq_of (e03 _ _ hL)), hus.mono e03, hes.nd, fun e he => flat_nx (hes.it e he).2.2, fun ys es2 p hsr hys hp => ?_⟩
  obtain rfl := hsr.uniq h7
  have e4 := Ex.new (o := .lst ys) hp
  have hpp : (upd H3 p (.lst ys)) p = some (.lst ys) := upd_same
  generalize upd H3 p (.lst ys) = H4 at *
  refine ⟨p, ys, rfl, .inl ⟨sq_of hpp, fun t ht => ?_⟩⟩
  have e5 := Ex.new (o := .tup ys) ht
  have htt : (upd H4 t (.tup ys)) t = some (.tup ys) := upd_same
  generalize upd H4 t (.tup ys) = H5 at *
  have hok : ∀ e ∈ es2, IsB e.1 ∧ NxV e.2 := fun e he => by
    have := hes.it e (hsr.2.perm.mem_iff.mp he)
    exact ⟨this.1, this.2.2⟩
  exact ⟨_, _, rows_dp ((((e03.trans e4).trans e5)) _ _ h5) (h6.mono ((e03.trans e4).trans e5)) hok, rows_dp htt (hys.mono (e4.trans e5)) hok, rows_shaped hok, rows_shaped hok, by rw [rows_eqv hok]; exact q H5 (((e2.trans e3).trans e4).trans e5)⟩
theorem ev_ixR {σ : L2.St} {H : Hp} {ta tb : TE} {a : Addr} {xs : List V} {i : Nat} {v : V} (ha : Ev ta σ H (.ref a)) (hb : Ev tb σ H (.int (i : Int))) (h : H a = some (.lst xs)) (hv : xs[i]? = some v) : Ev (tOp (rIxL K) ta tb) σ H v := ev_op ha hb (rv_ixL (sq_of h) (atI_nat hv))
end
end Wk

set_option Elab.async false
set_option linter.all false
set_option maxRecDepth 100000
set_option maxHeartbeats 4000000
namespace Wk
open PySem PySem.Spec PyProof.Rows L2 Evl
section
variable {P : Program} {w : World} {K : PySem.W.Frag} {mg : Str → Option Value} {base : Heap} {f : Addr} {fd : FuncData} {CT : Addr}
structure MkT (P : Program) (w : World) (K : PySem.W.Frag) (mg : Str → Option Value) (base : Heap) (CT : Addr) : Prop where
  g : mg "Table" = some (.ref CT)
  ex : ∃ (fI : Addr) (fd : FuncData), Mk K CT fI ∧ FnOk P w K mg base CX0 6 fI fd ["self", "entries"] (spInit CT) ∧ Binds K fd ["self", "entries"] []
/-- a table made of a row: what stood stays -/
theorem mk_tab {W : XK} {H : Hp} {Q : Addr → Hp → Prop} {l : Addr} {us : List V} {es : List Row} (hrow : RowA H l us) (hus : EsT H us es) (hes : EsOk es 24) (k : ∀ x H', Ex H H' → H x = none → Tb CT H' x es → Q x H') :
    ∀ x dx, H x = none → H dx = none → dx ≠ x → spInit CT [.ref x, .ref l] (upd (upd H dx (.own x)) x (.ins CT dx [])) (fun v H2 => v = .non ∧ Q x H2) W := fun x dx hx hdx hne => by
  have e1 : Ex H (upd (upd H dx (.own x)) x (.ins CT dx [])) := (Ex.new hdx).trans (Ex.new (by rw [upd_ne (Ne.symm hne)]; exact hx))
  refine ⟨x, l, dx, us, es, rfl, upd_same, hrow.mono e1, hus.mono e1, hes, fun H' o hT => ⟨rfl, k x H' (fun b u hb => ?_) hx hT⟩⟩
  exact o b u (fun z => by rw [z, hx] at hb; cases hb) (e1 _ _ hb)
end
end Wk

set_option Elab.async false
set_option linter.all false
set_option maxRecDepth 100000
set_option maxHeartbeats 4000000
namespace Wk
open PySem PySem.Spec PyProof.Rows L2 Evl
section
variable {P : Program} {w : World} {K : PySem.W.Frag} {mg : Str → Option Value} {base : Heap} {f : Addr} {fd : FuncData} {CT CF : Addr}
def spOnw0 (CT : Addr) : Sp := fun vs H Q _ => ∃ (x : Addr) (l : List Nat) (es : List Row), vs = [.ref x, .str (T l)] ∧ Tb CT H x es ∧ l.length ≤ 100 ∧ adrB l = true ∧ ∀ H' z, Ex H H' → LongIs es l z → Q z H'
theorem ok_onw0 {t1 : Tok} (hM : mg "DROP" = some (.str "drop" t1)) (X : TX K CT) (CA : Cal P w K mg base "is_address" ["thing"] 2 (spAddr K)) (CG : Cal P w K mg base "beginnings" ["address"] 1 spBeg) (F : FnM K "onward" "Table.onward" sOnw f fd) : FnOk P w K mg base CX0 3 f fd ["self", "address"] (spOnw0 CT) := by
  refine F.ok scOnw (fun vs H Q E h => ?_) (fun cdv A outer s H vs Q E hr h => ?_)
  · obtain ⟨x, l, es, rfl, _⟩ := h
    rfl
  · obtain ⟨x, l, es, rfl, hT, hl, had, k⟩ := h
    have hu : (A.deeper (envOfC "Table.onward" (defScope sOnw) s.heap.objs.size f cdv)).units + 1 < cLine := by have := hr.un; omega
    refine ⟨_, pss_cons (ps_if (pt_not (pt_val (pe_cal CA hr (by rfl) (pa_cons (pv 1) pa_nil)))) (pss_one ps_never) pss_nil)
      (pss_cons (ps_for (passes_of rfl) rfl (pi_list (pe_cal CG hr (by rfl) (pa_cons (pv 1) pa_nil))) (pg_name (i := 2) scOnw.nd rfl (Or.inl rfl))
        (pss_one (ps_if (pt_cmp (pc_din hu (pv 2) (pe_fld (pv 0) rfl))) (pss_one (ps_ret (pe_dget hu (pe_fld (pv 0) rfl) (pv 2) (fun _ _ => rfl)))) pss_nil)))
      (pss_one (ps_ret (pe_glob (v := .str "drop") (by rfl) hM ⟨_, rfl⟩)))), ?_⟩
    obtain ⟨dx, fs, te, nd, us', es', hx, lE, lN, lO, hte, hus, hsr, hnd⟩ := hT
    have v1 : ∀ {H1 : Hp}, Ev (tVar 1) (start nOnw [V.ref x, .str (T l)]) H1 (.str (T l)) := ev_var rfl
    have c1 : Ev (tCall (spAddr K) [] E0 (tCons (tVar 1) tNil)) (start nOnw [V.ref x, .str (T l)]) H (.bl true) := ev_call (ea_cons v1 ea_nil) (spP_v fun H1 e1 => ⟨_, rfl, .inl ⟨l, rfl, hl, by rw [had]⟩⟩)
    refine q_when (b := !true) (et_not (et_B c1)) (fun z => by cases z) fun _ H1 e1 => ?_
    have c2 : EvL (tCall spBeg [] E0 (tCons (tVar 1) tNil)) (start nOnw [V.ref x, .str (T l)]) H1 (begs l) := fun H2 e2 Q2 q2 => ⟨_, rfl, l, rfl, hl, fun H3 D e3 hD hD3 => q2 D H3 hD e3 hD3⟩
    have hbl : (begs l).length = 11 := by unfold begs; simp
    refine q_forNLn (K := K) c2 (fun D i σ' H' => ∃ o, σ' = [some (.ref x), some (.str (T l)), o] ∧ Ex H H' ∧ H' D = some (.lst (begs l)) ∧ ∀ j, j < i → valV es (l.take (10 - j)) = none) (fun D H2 hD e2 hD2 => ⟨_, rfl, e1.trans e2, hD2, fun j hj => absurd hj (Nat.not_lt_zero _)⟩) (fun D i σ' H' _ hp => ?_) (fun D i y σ' H' hy hp => ?_) (fun D σ' H' hp => ?_)
    · obtain ⟨_, _, _, hD, _⟩ := hp
      exact sq_of hD
    · obtain ⟨o, rfl, e2, hD2, hno⟩ := hp
      have hi : i < 11 := by rw [← hbl]; exact (List.getElem?_eq_some_iff.mp hy).1
      have hyv : y = .str (T (l.take (10 - i))) := by
        unfold begs at hy
        rw [List.getElem?_map, List.getElem?_range hi] at hy
        exact (Option.some.inj hy).symm
      subst hyv
      change tIfS _ _ _ _ [some (.ref x), some (.str (T l)), some (.str (T (l.take (10 - i))))] H'
      have fN : ∀ {H3 : Hp}, Ex H H3 → Ev (tFld K (tVar 0) "_nexts") [some (.ref x), some (.str (T l)), some (.str (T (l.take (10 - i))))] H3 (.ref nd) := fun {H3} e3 H4 e4 Q4 q4 => ⟨.ref x, rfl, x, CT, dx, _, _, rfl, e4 _ _ (e3 _ _ hx), X.ic.cl, X.nN, lN, q4 H4 (Ex.refl H4)⟩
      have d1 : Ev (tDIn (tVar 2) (tFld K (tVar 0) "_nexts")) [some (.ref x), some (.str (T l)), some (.str (T (l.take (10 - i))))] H' (.bl (valV es (l.take (10 - i))).isSome) := fun H5 e5 Q5 q5 => ⟨_, rfl, fN e2 H5 e5 _ fun H6 e6 => ⟨nd, _, rfl, .inl ⟨kvOf es, .inr (T (l.take (10 - i))), .inl (e6 _ _ (e5 _ _ (e2 _ _ hnd))), rfl, rfl⟩, by rw [kv_val]; exact q5 H6 e6⟩⟩
      refine s_when (b := (valV es (l.take (10 - i))).isSome) (et_B d1) (fun hs H5 e5 => ?_) fun hs H5 e5 => ?_
      · obtain ⟨z, hz⟩ := Option.isSome_iff_exists.mp hs
        have g1 : Ev (tDGet (tFld K (tVar 0) "_nexts") (tVar 2)) [some (.ref x), some (.str (T l)), some (.str (T (l.take (10 - i))))] H5 z := fun H6 e6 Q6 q6 => fN (e2.trans e5) H6 e6 _ fun H7 e7 => ⟨_, rfl, nd, z, rfl, .inl ⟨kvOf es, .inr (T (l.take (10 - i))), .inl (e7 _ _ (e6 _ _ (e5 _ _ (e2 _ _ hnd)))), rfl, by rw [kv_val]; exact hz.symm⟩, q6 H7 e7⟩
        exact s_ret g1 fun H6 e6 => k H6 z ((e2.trans e5).trans e6) (.inl ⟨i, by omega, hz, hno⟩)
      · refine ⟨_, rfl, e2.trans e5, e5 _ _ hD2, fun j hj => ?_⟩
        by_cases c : j = i
        · rw [c]
          cases hz : valV es (l.take (10 - i)) with
          | none => rfl
          | some z => rw [hz] at hs; cases hs
        · exact hno j (by omega)
    · obtain ⟨o, rfl, e2, hD2, hno⟩ := hp
      rw [hbl] at hno
      exact k H' _ e2 (.inr ⟨rfl, fun j hj => hno j (by omega)⟩)
end
end Wk

set_option Elab.async false
set_option linter.all false
set_option maxRecDepth 100000
set_option maxHeartbeats 4000000
namespace Wk
/-! ranges as mathematics -/
theorem IsB.z {a : List Nat} (h : IsB a) : IsB (a ++ [48]) := h.app fun c hc => by rw [List.mem_singleton.mp hc]; exact .inl rfl
theorem IsB.o {a : List Nat} (h : IsB a) : IsB (a ++ [49]) := h.app fun c hc => by rw [List.mem_singleton.mp hc]; exact .inr rfl
/-- the number that bits tell -/
def vl (l : List Nat) : Nat := l.foldl (fun a c => 2 * a + (c - 48)) 0
theorem vl_snoc (l : List Nat) (c : Nat) : vl (l ++ [c]) = 2 * vl l + (c - 48) := by simp [vl]
theorem snoc_ind {P : List Nat → Prop} (h0 : P []) (h1 : ∀ l c, P l → P (l ++ [c])) (l : List Nat) : P l := by
  have key : ∀ r : List Nat, P r.reverse := fun r => by
    induction r with
    | nil => exact h0
    | cons c r ih => rw [List.reverse_cons]; exact h1 _ _ ih
  have := key l.reverse
  rwa [List.reverse_reverse] at this
/-- the bits of a number -/
def bN : Nat → Nat → List Nat
  | 0, _ => []
  | n + 1, i => bN n (i / 2) ++ [48 + i % 2]
theorem bN_succ (n i : Nat) : bN (n + 1) i = bN n (i / 2) ++ [48 + i % 2] := rfl
theorem bN_len : ∀ n i, (bN n i).length = n
  | 0, _ => rfl
  | n + 1, i => by simp [bN, bN_len n]
theorem bN_isB : ∀ n i, IsB (bN n i)
  | 0, _ => IsB.nil
  | n + 1, i => (bN_isB n _).app fun c hc => by
    rw [List.mem_singleton.mp hc]
    omega
theorem vl_bN : ∀ n i, i < 2 ^ n → vl (bN n i) = i
  | 0, i, h => by
    have : i = 0 := by simpa using h
    rw [this]; rfl
  | n + 1, i, h => by
    unfold bN
    rw [vl_snoc, vl_bN n (i / 2) (by rw [Nat.pow_succ] at h; omega)]
    omega
theorem bN_vl (l : List Nat) : IsB l → bN l.length (vl l) = l := by
  refine snoc_ind (P := fun l => IsB l → bN l.length (vl l) = l) (fun _ => rfl) (fun l c ih h => ?_) l
  have hl : IsB l := fun x hx => h x (List.mem_append_left _ hx)
  have hc := h c (List.mem_append_right _ (List.mem_singleton.mpr rfl))
  rw [List.length_append, List.length_singleton, vl_snoc]
  show bN l.length ((2 * vl l + (c - 48)) / 2) ++ [48 + (2 * vl l + (c - 48)) % 2] = _
  have e1 : (2 * vl l + (c - 48)) / 2 = vl l := by omega
  have e2 : 48 + (2 * vl l + (c - 48)) % 2 = c := by omega
  rw [e1, e2, ih hl]
theorem vl_lt (l : List Nat) : IsB l → vl l < 2 ^ l.length := by
  refine snoc_ind (P := fun l => IsB l → vl l < 2 ^ l.length) (fun _ => by decide) (fun l c ih h => ?_) l
  have hl : IsB l := fun x hx => h x (List.mem_append_left _ hx)
  have hc := h c (List.mem_append_right _ (List.mem_singleton.mpr rfl))
  rw [List.length_append, List.length_singleton, vl_snoc, Nat.pow_succ]
  have := ih hl
  omega
theorem vl_app (a b : List Nat) : vl (a ++ b) = vl a * 2 ^ b.length + vl b := by
  refine snoc_ind (P := fun b => vl (a ++ b) = vl a * 2 ^ b.length + vl b) (by simp [vl]) (fun b c ih => ?_) b
  rw [← List.append_assoc, vl_snoc, ih, vl_snoc, List.length_append, List.length_singleton, Nat.pow_succ]
  have : vl a * (2 ^ b.length * 2) = 2 * (vl a * 2 ^ b.length) := by rw [← Nat.mul_assoc, Nat.mul_comm]
  rw [this]
  omega
theorem take_bN : ∀ n k i, k ≤ n → (bN n i).take k = bN k (i / 2 ^ (n - k))
  | 0, k, i, h => by
    have : k = 0 := by omega
    subst this
    simp [bN]
  | n + 1, k, i, h => by
    by_cases hk : k = n + 1
    · subst hk
      rw [List.take_of_length_le (by rw [bN_len]; omega)]
      simp
    · rw [bN_succ]
      rw [List.take_append_of_le_length (by rw [bN_len]; omega), take_bN n k (i / 2) (by omega), Nat.div_div_eq_div_mul]
      congr 2
      rw [show n + 1 - k = (n - k) + 1 by omega, Nat.pow_succ, Nat.mul_comm]
/-- the first address of a range, and the one behind its last -/
def lo (r : List Nat) : Nat := vl r * 2 ^ (10 - r.length)
def hi (r : List Nat) : Nat := (vl r + 1) * 2 ^ (10 - r.length)
theorem lo_lt (r : List Nat) : lo r < hi r := by
  unfold lo hi
  exact Nat.mul_lt_mul_of_lt_of_le (by omega) (Nat.le_refl _) (Nat.pow_pos (by decide))
theorem hi_le {r : List Nat} (h : IsB r) (hl : r.length ≤ 10) : hi r ≤ 1024 := by
  unfold hi
  have h1 := vl_lt r h
  have : (2 : Nat) ^ r.length * 2 ^ (10 - r.length) = 1024 := by rw [← Nat.pow_add, show r.length + (10 - r.length) = 10 by omega]
  calc (vl r + 1) * 2 ^ (10 - r.length) ≤ 2 ^ r.length * 2 ^ (10 - r.length) := Nat.mul_le_mul_right _ h1
    _ = 1024 := this
/-- a range has an address -/
theorem take_iff {r : List Nat} {i : Nat} (h : IsB r) (hl : r.length ≤ 10) (hi' : i < 1024) : (bN 10 i).take r.length = r ↔ lo r ≤ i ∧ i < hi r := by
  rw [take_bN 10 r.length i hl]
  have hp : 0 < 2 ^ (10 - r.length) := Nat.pow_pos (by decide)
  have e : (2 : Nat) ^ r.length * 2 ^ (10 - r.length) = 1024 := by rw [← Nat.pow_add, show r.length + (10 - r.length) = 10 by omega]
  have hd : i / 2 ^ (10 - r.length) < 2 ^ r.length := by
    rw [Nat.div_lt_iff_lt_mul hp, e]
    exact hi'
  have key : bN r.length (i / 2 ^ (10 - r.length)) = r ↔ i / 2 ^ (10 - r.length) = vl r := by
    constructor
    · intro z
      have := vl_bN r.length _ hd
      rw [z] at this
      exact this.symm
    · intro z
      rw [z]
      exact bN_vl r h
  rw [key]
  unfold lo hi
  constructor
  · intro z
    rw [← z]
    refine ⟨Nat.div_mul_le_self _ _, ?_⟩
    rw [Nat.add_mul, Nat.one_mul]
    exact Nat.lt_div_mul_add hp
  · intro ⟨z1, z2⟩
    apply Nat.div_eq_of_lt_le z1 z2
/-- all texts of n bits, ascending -/
def AD : Nat → List (List Nat)
  | 0 => [[]]
  | n + 1 => (AD n).flatMap fun r => [r ++ [48], r ++ [49]]
theorem flat_at {α β : Type} (f g : α → β) : ∀ (l : List α) (i : Nat), (l.flatMap fun r => [f r, g r])[i]? = (l[i / 2]?).map fun r => if i % 2 = 0 then f r else g r
  | [], i => by simp
  | a :: l, 0 => by simp
  | a :: l, 1 => by simp
  | a :: l, i + 2 => by
    rw [List.flatMap_cons]
    show (l.flatMap fun r => [f r, g r])[i]? = _
    rw [flat_at f g l i]
    have e1 : (i + 2) / 2 = i / 2 + 1 := by omega
    have e2 : (i + 2) % 2 = i % 2 := by omega
    rw [e1, e2]
    rfl
theorem AD_len : ∀ n, (AD n).length = 2 ^ n
  | 0 => rfl
  | n + 1 => by
    unfold AD
    rw [List.length_flatMap]
    have : ((AD n).map fun a => [a ++ [48], a ++ [49]].length).sum = 2 * (AD n).length := by
      generalize AD n = l
      induction l with
      | nil => rfl
      | cons a l ih => rw [List.map_cons, List.sum_cons, ih]; simp; omega
    rw [this, AD_len n, Nat.pow_succ, Nat.mul_comm]
theorem AD_at : ∀ n i, i < 2 ^ n → (AD n)[i]? = some (bN n i)
  | 0, i, h => by
    have : i = 0 := by simpa using h
    rw [this]; rfl
  | n + 1, i, h => by
    unfold AD
    rw [flat_at, AD_at n (i / 2) (by rw [Nat.pow_succ] at h; omega)]
    rw [bN_succ]
    have : i % 2 = 0 ∨ i % 2 = 1 := by omega
    rcases this with e | e <;> simp [e]
theorem AD_eq (n : Nat) : AD n = (List.range (2 ^ n)).map (bN n) := by
  apply List.ext_getElem?
  intro i
  by_cases h : i < 2 ^ n
  · rw [AD_at n i h, List.getElem?_map, List.getElem?_range h]
    rfl
  · rw [List.getElem?_eq_none (by rw [AD_len]; omega), List.getElem?_eq_none (by simp; omega)]
/-! the widest ranges that have one worth -/
section
variable {α : Type} [DecidableEq α]
def oneB (ws : List α) : Bool := match ws with | [] => true | w :: t => t.all (fun x => decide (x = w))
def mrg : Nat → List α → List Nat → List (List Nat × α)
  | _, [], _ => []
  | 0, w :: _, a => [(a, w)]
  | n + 1, w :: t, a => if oneB (w :: t) = true then [(a, w)] else mrg n ((w :: t).take (2 ^ n)) (a ++ [48]) ++ mrg n ((w :: t).drop (2 ^ n)) (a ++ [49])
/-- a row of ranges that has all addresses from p to q, each range with one worth, and no wider one -/
inductive Prt (W : Nat → α) : Nat → List (List Nat × α) → Nat → Prop
  | nil {p : Nat} : Prt W p [] p
  | cons {r : List Nat} {x : α} {rest : List (List Nat × α)} {p q : Nat} : IsB r → r.length ≤ 10 → lo r = p → (∀ i, lo r ≤ i → i < hi r → W i = x) →
      (r ≠ [] → ∃ i, lo r.dropLast ≤ i ∧ i < hi r.dropLast ∧ W i ≠ x) → Prt W (hi r) rest q → Prt W p ((r, x) :: rest) q
theorem Prt.app {W : Nat → α} : ∀ {l m : List (List Nat × α)} {p q s : Nat}, Prt W p l q → Prt W q m s → Prt W p (l ++ m) s
  | [], _, _, _, _, .nil, k => k
  | _ :: _, _, _, _, _, .cons h1 h2 h3 h4 h5 t, k => .cons h1 h2 h3 h4 h5 (t.app k)
theorem one_all {ws : List α} {w : α} {t : List α} (e : ws = w :: t) (h : oneB ws = true) : ∀ (i : Nat) (x : α), ws[i]? = some x → x = w := by
  subst e
  intro i x hx
  cases i with
  | zero => exact (Option.some.inj hx).symm
  | succ i =>
    have := List.all_eq_true.mp h x (List.mem_of_getElem? (show t[i]? = some x from hx))
    exact of_decide_eq_true this
theorem one_not {w : α} {t : List α} (h : ¬ oneB (w :: t) = true) : ∃ (i : Nat) (x : α), (w :: t)[i]? = some x ∧ x ≠ w := by
  have h : ¬ t.all (fun x => decide (x = w)) = true := h
  rw [List.all_eq_true] at h
  have ⟨x, hx⟩ := Classical.not_forall.mp h
  have ⟨hm, hn⟩ := Classical.not_imp.mp hx
  obtain ⟨i, hi⟩ := List.getElem?_of_mem hm
  exact ⟨i + 1, x, hi, fun z => hn (decide_eq_true z)⟩
theorem mrg_prt {W : Nat → α} : ∀ (n : Nat) (ws : List α) (a : List Nat), IsB a → a.length + n = 10 → ws.length = 2 ^ n → (∀ i, i < 2 ^ n → ws[i]? = some (W (vl a * 2 ^ n + i))) →
    (a ≠ [] → ∀ x, ∃ i, lo a.dropLast ≤ i ∧ i < hi a.dropLast ∧ W i ≠ x) → Prt W (vl a * 2 ^ n) (mrg n ws a) ((vl a + 1) * 2 ^ n)
  | n, [], a, ha, hn, hl, hw, hx => by
    have : 0 < 2 ^ n := Nat.pow_pos (by decide)
    simp at hl
    omega
  | 0, w :: t, a, ha, hn, hl, hw, hx => by
    have el : lo a = vl a * 2 ^ 0 := by unfold lo; rw [show 10 - a.length = 0 by omega]
    have eh : hi a = (vl a + 1) * 2 ^ 0 := by unfold hi; rw [show 10 - a.length = 0 by omega]
    have w0 : w = W (vl a * 2 ^ 0 + 0) := Option.some.inj (hw 0 (by decide))
    refine .cons ha (by omega) el (fun i h1 h2 => ?_) (fun z => hx z w) (by rw [eh]; exact .nil)
    rw [el] at h1
    rw [eh] at h2
    have : i = vl a * 2 ^ 0 + 0 := by omega
    rw [this, ← w0]
  | n + 1, w :: t, a, ha, hn, hl, hw, hx => by
    have el : lo a = vl a * 2 ^ (n + 1) := by unfold lo; rw [show 10 - a.length = n + 1 by omega]
    have eh : hi a = (vl a + 1) * 2 ^ (n + 1) := by unfold hi; rw [show 10 - a.length = n + 1 by omega]
    have hp : 0 < 2 ^ n := Nat.pow_pos (by decide)
    have hp2 : (2 : Nat) ^ (n + 1) = 2 * 2 ^ n := by rw [Nat.pow_succ, Nat.mul_comm]
    have w0 : w = W (vl a * 2 ^ (n + 1) + 0) := Option.some.inj (hw 0 (by omega))
    unfold mrg
    split
    · rename_i h1
      refine .cons ha (by omega) el (fun i k1 k2 => ?_) (fun z => hx z w) (by rw [eh]; exact .nil)
      rw [el] at k1
      rw [eh, Nat.add_mul, Nat.one_mul] at k2
      have hz := hw (i - vl a * 2 ^ (n + 1)) (by omega)
      rw [show vl a * 2 ^ (n + 1) + (i - vl a * 2 ^ (n + 1)) = i by omega] at hz
      exact one_all rfl h1 _ _ hz
    · rename_i h1
      obtain ⟨j, y, hj, hy⟩ := one_not h1
      have hjl : j < 2 ^ (n + 1) := by
        have := (List.getElem?_eq_some_iff.mp hj).1
        omega
      have hjw := hw j hjl
      have ey : y = W (vl a * 2 ^ (n + 1) + j) := Option.some.inj (hj.symm.trans hjw)
      have wide : ∀ x, ∃ i, lo a ≤ i ∧ i < hi a ∧ W i ≠ x := fun x => by
        rw [el, eh, Nat.add_mul, Nat.one_mul]
        by_cases hw2 : w = x
        · exact ⟨vl a * 2 ^ (n + 1) + j, by omega, by omega, by rw [← ey, ← hw2]; exact hy⟩
        · exact ⟨vl a * 2 ^ (n + 1) + 0, by omega, by omega, by rw [← w0]; exact hw2⟩
      have v0 : vl (a ++ [48]) = 2 * vl a := by rw [vl_snoc]; omega
      have v1 : vl (a ++ [49]) = 2 * vl a + 1 := by rw [vl_snoc]
      have e1 : 2 * vl a * 2 ^ n = vl a * 2 ^ (n + 1) := by rw [hp2, Nat.mul_comm 2 (vl a), Nat.mul_assoc]
      have e2 : (2 * vl a + 1) * 2 ^ n = vl a * 2 ^ (n + 1) + 2 ^ n := by rw [Nat.add_mul, e1, Nat.one_mul]
      have e3 : (2 * vl a + 1 + 1) * 2 ^ n = (vl a + 1) * 2 ^ (n + 1) := by rw [Nat.add_mul, e2, Nat.one_mul, Nat.add_mul, Nat.one_mul]; omega
      have p1 := mrg_prt (W := W) n ((w :: t).take (2 ^ n)) (a ++ [48]) ha.z (by simp; omega) (by rw [List.length_take]; omega) (fun i h => by
        rw [List.getElem?_take_of_lt h, hw i (by omega), v0, e1]) (fun _ x => by rw [List.dropLast_concat]; exact wide x)
      have p2 := mrg_prt (W := W) n ((w :: t).drop (2 ^ n)) (a ++ [49]) ha.o (by simp; omega) (by rw [List.length_drop]; omega) (fun i h => by
        rw [List.getElem?_drop, hw (2 ^ n + i) (by omega), v1, e2, Nat.add_assoc]) (fun _ x => by rw [List.dropLast_concat]; exact wide x)
      rw [v0, e1, e2] at p1
      rw [v1, e2, e3] at p2
      exact p1.app p2
theorem mrg_all {W : Nat → α} {ws : List α} (hl : ws.length = 1024) (hw : ∀ i, i < 1024 → ws[i]? = some (W i)) : Prt W 0 (mrg 10 ws []) 1024 := by
  have := mrg_prt (W := W) 10 ws [] IsB.nil rfl hl (fun i h => by rw [hw i h]; simp [vl]) (fun z => absurd rfl z)
  simpa [vl] using this
theorem Prt.le {W : Nat → α} : ∀ {l : List (List Nat × α)} {p q : Nat}, Prt W p l q → p ≤ q
  | [], _, _, .nil => Nat.le_refl _
  | _ :: _, _, _, .cons (r := r) h1 h2 h3 h4 h5 t => by
    have := lo_lt r
    have := t.le
    omega
theorem mrg_len : ∀ (n : Nat) (ws : List α) (a : List Nat), (mrg n ws a).length ≤ 2 ^ n
  | _, [], _ => by simp [mrg]
  | 0, w :: _, a => by simp [mrg]
  | n + 1, w :: t, a => by
    unfold mrg
    split
    · have : 0 < 2 ^ n := Nat.pow_pos (by decide)
      rw [Nat.pow_succ]
      simp
      omega
    · rw [List.length_append, Nat.pow_succ]
      have := mrg_len n ((w :: t).take (2 ^ n)) (a ++ [48])
      have := mrg_len n ((w :: t).drop (2 ^ n)) (a ++ [49])
      omega
end
/-! the fewest ranges -/
inductive Cov (F : Nat → Bool) : Nat → List (List Nat) → Prop
  | nil {p : Nat} : (∀ i, p ≤ i → i < 1024 → F i = false) → Cov F p []
  | cons {r : List Nat} {rest : List (List Nat)} {p : Nat} : IsB r → r.length ≤ 10 → p ≤ lo r → (∀ i, p ≤ i → i < lo r → F i = false) → (∀ i, lo r ≤ i → i < hi r → F i = true) →
      (r ≠ [] → ∃ i, lo r.dropLast ≤ i ∧ i < hi r.dropLast ∧ F i = false) → Cov F (hi r) rest → Cov F p (r :: rest)
theorem Cov.of {F : Nat → Bool} : ∀ {l : List (List Nat × Bool)} {p q : Nat}, q ≤ p → (∀ i, q ≤ i → i < p → F i = false) → Prt F p l 1024 → Cov F q ((l.filter (·.2)).map (·.1))
  | [], _, _, h1, h2, .nil => .nil h2
  | (r, x) :: rest, p, q, h1, h2, .cons k1 k2 k3 k4 k5 t => by
    have lt := lo_lt r
    cases x with
    | false =>
      rw [List.filter_cons_of_neg (by simp)]
      refine Cov.of (by omega) (fun i a b => ?_) t
      by_cases c : i < lo r
      · exact h2 i a (by omega)
      · exact k4 i (by omega) b
    | true =>
      rw [List.filter_cons_of_pos (by simp), List.map_cons]
      have k3 : lo r = p := k3
      show Cov F q (r :: _)
      refine .cons k1 k2 (by omega) (fun i a b => h2 i a (by omega)) k4 (fun z => ?_) (Cov.of (Nat.le_refl _) (fun i a b => by omega) t)
      obtain ⟨i, a, b, c⟩ := k5 z
      exact ⟨i, a, b, by simpa using c⟩
/-- some of the ranges has an address -/
def covB (rs : List (List Nat)) (i : Nat) : Bool := rs.any fun r => decide (lo r ≤ i ∧ i < hi r)
theorem covB_iff {rs : List (List Nat)} {i : Nat} : covB rs i = true ↔ ∃ r ∈ rs, lo r ≤ i ∧ i < hi r := by
  unfold covB
  rw [List.any_eq_true]
  constructor
  · rintro ⟨r, h1, h2⟩
    exact ⟨r, h1, of_decide_eq_true h2⟩
  · rintro ⟨r, h1, h2⟩
    exact ⟨r, h1, decide_eq_true h2⟩
theorem covB_same {rs ss : List (List Nat)} (h : ∀ r, r ∈ rs ↔ r ∈ ss) (i : Nat) : covB rs i = covB ss i := by
  have : covB rs i = true ↔ covB ss i = true := by
    rw [covB_iff, covB_iff]
    exact ⟨fun ⟨r, a, b⟩ => ⟨r, (h r).mp a, b⟩, fun ⟨r, a, b⟩ => ⟨r, (h r).mpr a, b⟩⟩
  cases h1 : covB rs i <;> cases h2 : covB ss i <;> simp_all
theorem Cov.has {F : Nat → Bool} : ∀ {rs : List (List Nat)} {p : Nat}, Cov F p rs → ∀ i, p ≤ i → i < 1024 → covB rs i = F i
  | [], _, .nil h, i, a, b => by rw [h i a b]; rfl
  | r :: rest, p, .cons k1 k2 k3 k4 k5 k6 t, i, a, b => by
    have lt := lo_lt r
    have e : covB (r :: rest) i = (decide (lo r ≤ i ∧ i < hi r) || covB rest i) := rfl
    rw [e]
    by_cases c : i < lo r
    · rw [k4 i a c, decide_eq_false (by omega), Bool.false_or]
      by_cases z : covB rest i = true
      · have low : ∀ {ss : List (List Nat)} {q : Nat}, Cov F q ss → ∀ s ∈ ss, q ≤ lo s := by
          intro ss
          induction ss with
          | nil => intro q _ s hs; cases hs
          | cons s ss ih =>
            intro q hq u hu
            cases hq with
            | cons m1 m2 m3 m4 m5 m6 t =>
              rcases List.mem_cons.mp hu with e | e
              · rw [e]; exact m3
              · have := ih t u e
                have := lo_lt s
                omega
        obtain ⟨s, hs, h1, h2⟩ := covB_iff.mp z
        have := low t s hs
        omega
      · simpa using z
    · by_cases d : i < hi r
      · rw [k5 i (by omega) d, decide_eq_true ⟨by omega, d⟩, Bool.true_or]
      · rw [decide_eq_false (by omega), Bool.false_or]
        exact t.has i (by omega) b
def fewR (F : Nat → Bool) : List (List Nat) := ((mrg 10 ((List.range 1024).map F) []).filter (·.2)).map (·.1)
theorem fewR_cov (F : Nat → Bool) : Cov F 0 (fewR F) := Cov.of (Nat.le_refl _) (fun i a b => by omega) (mrg_all (by simp) fun i h => by rw [List.getElem?_map, List.getElem?_range h]; rfl)
theorem fewR_congr {F G : Nat → Bool} (h : ∀ i, i < 1024 → F i = G i) : fewR F = fewR G := by
  unfold fewR
  rw [List.map_congr_left fun i hi => h i (List.mem_range.mp hi)]
theorem fewR_len (F : Nat → Bool) : (fewR F).length ≤ 1024 := by
  unfold fewR
  rw [List.length_map]
  exact Nat.le_trans (List.length_filter_le _ _) (mrg_len 10 _ _)
theorem Cov.bits {F : Nat → Bool} : ∀ {rs : List (List Nat)} {p : Nat}, Cov F p rs → ∀ r ∈ rs, IsB r ∧ r.length ≤ 10
  | [], _, _, r, h => by cases h
  | s :: rest, p, .cons k1 k2 k3 k4 k5 k6 t, r, h => (List.mem_cons.mp h).elim (fun e => by rw [e]; exact ⟨k1, k2⟩) (t.bits r)
end Wk

set_option Elab.async false
set_option linter.all false
set_option maxRecDepth 100000
set_option maxHeartbeats 4000000
namespace Wk
theorem Prt.map {α β : Type} [DecidableEq α] [DecidableEq β] {W : Nat → α} {g : α → β} (hg : ∀ a b, g a = g b → a = b) : ∀ {l : List (List Nat × α)} {p q : Nat}, Prt W p l q → Prt (fun i => g (W i)) p (l.map fun e => (e.1, g e.2)) q
  | [], _, _, .nil => .nil
  | _ :: _, _, _, .cons h1 h2 h3 h4 h5 t => by
    rw [List.map_cons]
    refine .cons h1 h2 h3 (fun i a b => congrArg g (h4 i a b)) (fun z => ?_) (t.map hg)
    obtain ⟨i, a, b, c⟩ := h5 z
    exact ⟨i, a, b, fun y => c (hg _ _ y)⟩
theorem Prt.bits {α : Type} {W : Nat → α} : ∀ {l : List (List Nat × α)} {p q : Nat}, Prt W p l q → ∀ e ∈ l, IsB e.1 ∧ e.1.length ≤ 10 ∧ p ≤ lo e.1 ∧ W (lo e.1) = e.2
  | [], _, _, _, e, he => by cases he
  | _ :: _, p, _, .cons (r := r) h1 h2 h3 h4 h5 t, e, he => by
    rcases List.mem_cons.mp he with z | z
    · rw [z]
      exact ⟨h1, h2, by rw [h3]; exact Nat.le_refl _, h4 _ (Nat.le_refl _) (lo_lt r)⟩
    · obtain ⟨a, b, c, d⟩ := t.bits e z
      have := lo_lt r
      exact ⟨a, b, by omega, d⟩
theorem Prt.nd {α : Type} {W : Nat → α} : ∀ {l : List (List Nat × α)} {p q : Nat}, Prt W p l q → (l.map (·.1)).Nodup
  | [], _, _, _ => List.nodup_nil
  | _ :: _, p, _, .cons (r := r) h1 h2 h3 h4 h5 t => by
    rw [List.map_cons, List.nodup_cons]
    refine ⟨fun hm => ?_, t.nd⟩
    obtain ⟨e, he, hr⟩ := List.mem_map.mp hm
    obtain ⟨_, _, h, _⟩ := t.bits e he
    have := lo_lt r
    have hr : e.1 = r := hr
    rw [hr] at h
    omega
/-! painting -/
section
variable {β : Type}
def hit (e : List Nat × β) (i : Nat) : Prop := lo e.1 ≤ i ∧ i < hi e.1
instance (e : List Nat × β) (i : Nat) : Decidable (hit e i) := inferInstanceAs (Decidable (_ ∧ _))
def pn1 (s : Nat) (F : Nat → β) (e : List Nat × β) : Nat → β := fun i => if e.1.length = s ∧ hit e i then e.2 else F i
def pnS (es : List (List Nat × β)) (F : Nat → β) (s : Nat) : Nat → β := es.foldl (pn1 s) F
def pnN (d : β) (es : List (List Nat × β)) : Nat → Nat → β
  | 0 => fun _ => d
  | n + 1 => pnS es (pnN d es n) n
def pnt (d : β) (es : List (List Nat × β)) : Nat → β := pnN d es 11
theorem pnS_at (s : Nat) (i : Nat) : ∀ (es : List (List Nat × β)) (F : Nat → β), (∃ e ∈ es, e.1.length = s ∧ hit e i ∧ es.foldl (pn1 s) F i = e.2) ∨ (es.foldl (pn1 s) F i = F i ∧ ∀ e ∈ es, e.1.length = s → ¬ hit e i)
  | [], F => .inr ⟨rfl, fun _ h => by cases h⟩
  | e :: es, F => by
    rw [List.foldl_cons]
    rcases pnS_at s i es (pn1 s F e) with ⟨e', h1, h2, h3, h4⟩ | ⟨h1, h2⟩
    · exact .inl ⟨e', List.mem_cons_of_mem _ h1, h2, h3, h4⟩
    · by_cases c : e.1.length = s ∧ hit e i
      · refine .inl ⟨e, List.mem_cons_self, c.1, c.2, ?_⟩
        rw [h1]
        exact if_pos c
      · refine .inr ⟨?_, fun e' he' => (List.mem_cons.mp he').elim (fun z => by rw [z]; exact fun a b => c ⟨a, b⟩) (h2 e')⟩
        rw [h1]
        exact if_neg c
theorem pnN_at (d : β) (es : List (List Nat × β)) (i : Nat) : ∀ s : Nat, (pnN d es s i = d ∧ ∀ e ∈ es, e.1.length < s → ¬ hit e i) ∨ ∃ e ∈ es, e.1.length < s ∧ hit e i ∧ pnN d es s i = e.2 ∧ ∀ e' ∈ es, e'.1.length < s → hit e' i → e'.1.length ≤ e.1.length
  | 0 => .inl ⟨rfl, fun e _ h => absurd h (Nat.not_lt_zero _)⟩
  | s + 1 => by
    have ih := pnN_at d es i s
    have st : pnN d es (s + 1) i = es.foldl (pn1 s) (pnN d es s) i := rfl
    rw [st]
    rcases pnS_at s i es (pnN d es s) with ⟨e, h1, h2, h3, h4⟩ | ⟨h1, h2⟩
    · exact .inr ⟨e, h1, by omega, h3, h4, fun e' _ h' _ => by omega⟩
    · rw [h1]
      rcases ih with ⟨i1, i2⟩ | ⟨e, i1, i2, i3, i4, i5⟩
      · refine .inl ⟨i1, fun e he hl => ?_⟩
        by_cases c : e.1.length = s
        · exact h2 e he c
        · exact i2 e he (by omega)
      · refine .inr ⟨e, i1, by omega, i3, i4, fun e' he hl hh => ?_⟩
        by_cases c : e'.1.length = s
        · exact absurd hh (h2 e' he c)
        · exact i5 e' he (by omega) hh
theorem pnt_at (d : β) {es : List (List Nat × β)} (h : ∀ e ∈ es, e.1.length ≤ 10) (i : Nat) : (pnt d es i = d ∧ ∀ e ∈ es, ¬ hit e i) ∨ ∃ e ∈ es, hit e i ∧ pnt d es i = e.2 ∧ ∀ e' ∈ es, hit e' i → e'.1.length ≤ e.1.length := by
  rcases pnN_at d es i 11 with ⟨h1, h2⟩ | ⟨e, h1, h2, h3, h4, h5⟩
  · exact .inl ⟨h1, fun e he => h2 e he (by have := h e he; omega)⟩
  · exact .inr ⟨e, h1, h3, h4, fun e' he => h5 e' he (by have := h e' he; omega)⟩
end
theorem Prt.congr {α : Type} {W U : Nat → α} (h : ∀ i, i < 1024 → W i = U i) : ∀ {l : List (List Nat × α)} {p q : Nat}, Prt W p l q → Prt U p l q
  | [], _, _, .nil => .nil
  | _ :: _, _, _, .cons (r := r) h1 h2 h3 h4 h5 t => by
    have hh := hi_le h1 h2
    refine .cons h1 h2 h3 (fun i a b => by rw [← h i (by omega)]; exact h4 i a b) (fun z => ?_) (t.congr h)
    obtain ⟨i, a, b, c⟩ := h5 z
    have h6 : IsB r.dropLast := fun c hc => h1 c (by rw [List.dropLast_eq_take] at hc; exact List.mem_of_mem_take hc)
    have h7 := hi_le h6 (by rw [List.length_dropLast]; omega)
    exact ⟨i, a, b, by rw [← h i (by omega)]; exact c⟩
/-- the wider range has the range -/
theorem wide_in {r : List Nat} (hB : IsB r) (hne : r ≠ []) (hl : r.length ≤ 10) : lo r.dropLast ≤ lo r ∧ hi r ≤ hi r.dropLast := by
  obtain ⟨s, c, rfl⟩ : ∃ s c, r = s ++ [c] := ⟨r.dropLast, r.getLast hne, (List.dropLast_concat_getLast hne).symm⟩
  rw [List.dropLast_concat]
  have hc := hB c (List.mem_append_right _ (List.mem_singleton.mpr rfl))
  rw [List.length_append, List.length_singleton] at hl
  unfold lo hi
  rw [vl_snoc, List.length_append, List.length_singleton]
  have e : 10 - s.length = (10 - (s.length + 1)) + 1 := by omega
  rw [e, Nat.pow_succ]
  generalize 2 ^ (10 - (s.length + 1)) = x
  have h1 : vl s * (x * 2) = (2 * vl s) * x := by rw [Nat.mul_comm x 2, ← Nat.mul_assoc, Nat.mul_comm (vl s) 2]
  have h2 : (vl s + 1) * (x * 2) = (2 * vl s + 2) * x := by rw [Nat.mul_comm x 2, ← Nat.mul_assoc]; congr 1; omega
  rw [h1, h2]
  exact ⟨Nat.mul_le_mul_right _ (by omega), Nat.mul_le_mul_right _ (by omega)⟩
theorem Prt.hits {α : Type} {W : Nat → α} : ∀ {l : List (List Nat × α)} {p q : Nat}, Prt W p l q → (∀ i, p ≤ i → i < q → ∃ e ∈ l, hit e i) ∧ ∀ e ∈ l, ∀ i, hit e i → W i = e.2
  | [], p, _, .nil => ⟨fun i h1 h2 => by omega, fun _ h => by cases h⟩
  | _ :: _, p, q, .cons (r := r) h1 h2 h3 h4 h5 t => by
    obtain ⟨a, b⟩ := t.hits
    refine ⟨fun i k1 k2 => ?_, fun e he i hh => ?_⟩
    · by_cases c : i < hi r
      · exact ⟨_, List.mem_cons_self, by rw [← h3] at k1; exact ⟨k1, c⟩⟩
      · obtain ⟨e, he, hh⟩ := a i (by omega) k2
        exact ⟨e, List.mem_cons_of_mem _ he, hh⟩
    · rcases List.mem_cons.mp he with z | z
      · rw [z] at hh ⊢
        exact h4 i hh.1 hh.2
      · exact b e z i hh
theorem Prt.pnt {β : Type} {W : Nat → β} {l : List (List Nat × β)} (d : β) (h : Prt W 0 l 1024) {i : Nat} (hi : i < 1024) : pnt d l i = W i := by
  obtain ⟨a, b⟩ := h.hits
  rcases pnt_at d (fun e he => (h.bits e he).2.1) i with ⟨h1, h2⟩ | ⟨e, h1, h2, h3, _⟩
  · obtain ⟨e, he, hh⟩ := a i (Nat.zero_le _) hi
    exact absurd hh (h2 e he)
  · rw [h3, b e h1 i h2]
open PySem PySem.Spec PyProof.Rows L2 Evl
/-- the painted way is that of the longest range that has the address -/
theorem pnt_law {es : List Row} {i : Nat} (h : ∀ e ∈ es, IsB e.1 ∧ e.1.length ≤ 10) (hi : i < 1024) : LawIs es (bN 10 i) (pnt (.str "drop") es i) := by
  have key : ∀ e ∈ es, (bN 10 i).take e.1.length = e.1 ↔ hit e i := fun e he => take_iff (h e he).1 (h e he).2 hi
  rcases pnt_at (V.str "drop") (fun e he => (h e he).2) i with ⟨h1, h2⟩ | ⟨e, h1, h2, h3, h4⟩
  · exact .inl ⟨h1, fun e he z => h2 e he ((key e he).mp z)⟩
  · exact .inr ⟨e, h1, (key e h1).mpr h2, h3, fun e' he z => h4 e' he ((key e' he).mp z)⟩
theorem pnt_way {es : List Row} {m i : Nat} {v : V} (hes : EsOk es m) (hi : i < 1024) (h : LongIs es (bN 10 i) v) : v = pnt (.str "drop") es i :=
  long_law hes.nd (bN_len 10 i) (fun e he => (hes.it e he).2.1) h (pnt_law (fun e he => ⟨(hes.it e he).1, (hes.it e he).2.1⟩) hi)
theorem pnt_nx {es : List Row} {m i : Nat} (hes : EsOk es m) (hi : i < 1024) : NxV (pnt (.str "drop") es i) := law_nx hes (pnt_law (fun e he => ⟨(hes.it e he).1, (hes.it e he).2.1⟩) hi)
/-! 1024 values -/
def fV (F : Nat → V) : List V := (List.range 1024).map F
theorem fV_len (F : Nat → V) : (fV F).length = 1024 := by unfold fV; rw [List.length_map, List.length_range]
theorem fV_at (F : Nat → V) (i : Nat) : (fV F)[i]? = if i < 1024 then some (F i) else none := by
  unfold fV
  rw [List.getElem?_map]
  by_cases h : i < 1024
  · rw [List.getElem?_range h, if_pos h]; rfl
  · rw [List.getElem?_eq_none (by rw [List.length_range]; omega), if_neg h]; rfl
theorem fV_put {F : Nat → V} {a c : Nat} {x : V} (hac : a ≤ c) (hc : c ≤ 1024) : (fV F).take a ++ List.replicate (c - a) x ++ (fV F).drop c = fV fun i => if a ≤ i ∧ i < c then x else F i := by
  apply List.ext_getElem?
  intro i
  have hl := fV_len F
  rw [fV_at]
  have lt : ((fV F).take a).length = a := by rw [List.length_take]; omega
  by_cases h1 : i < a
  · rw [List.append_assoc, List.getElem?_append_left (by omega), List.getElem?_take_of_lt h1, fV_at]
    rw [if_neg (show ¬ (a ≤ i ∧ i < c) by omega)]
  · by_cases h2 : i < c
    · rw [List.append_assoc, List.getElem?_append_right (by omega), lt, List.getElem?_append_left (by rw [List.length_replicate]; omega), List.getElem?_replicate, if_pos (by omega), if_pos (by omega), if_pos ⟨by omega, h2⟩]
    · rw [List.getElem?_append_right (by rw [List.length_append, lt, List.length_replicate]; omega), List.length_append, lt, List.length_replicate, List.getElem?_drop, fV_at]
      rw [show c + (i - (a + (c - a))) = i by omega, if_neg (show ¬ (a ≤ i ∧ i < c) by omega)]
theorem fV_const (x : V) : List.replicate 1024 x = fV fun _ => x := by
  apply List.ext_getElem?
  intro i
  rw [fV_at, List.getElem?_replicate]
theorem fV_congr {F G : Nat → V} (h : ∀ i, F i = G i) : fV F = fV G := by
  have : F = G := funext h
  rw [this]
end Wk

set_option Elab.async false
set_option linter.all false
set_option maxRecDepth 100000
set_option maxHeartbeats 4000000
namespace Wk
open PySem PySem.Spec PyProof.Rows L2 Evl
/-! [f(x, y) for x in a list for y in a tuple] -/
def Lw (D : Addr) (H : Hp) (acc : List V) (H' : Hp) : Prop := H D = none ∧ Ex H H' ∧ H' D = some (.lst acc)
theorem Lw.ext {D : Addr} {H H' H2 : Hp} {acc : List V} (h : Lw D H acc H') (e : Ex H' H2) : Lw D H acc H2 := ⟨h.1, h.2.1.trans e, e _ _ h.2.2⟩
theorem Lw.put {D : Addr} {H H' : Hp} {acc : List V} {u : V} (h : Lw D H acc H') : Lw D H (acc ++ [u]) (upd H' D (.lst (acc ++ [u]))) := ⟨h.1, Ex.mut h.2.1 h.1, upd_same⟩
theorem flat_take {xs ys : List V} {v : V → V → V} {i : Nat} {x : V} (h : xs[i]? = some x) : (xs.take (i + 1)).flatMap (fun x => ys.map (v x)) = (xs.take i).flatMap (fun x => ys.map (v x)) ++ ys.map (v x) := by
  rw [take_snoc h, List.flatMap_append]
  simp
theorem flat_len {xs ys : List V} {v : V → V → V} : (xs.flatMap fun x => ys.map (v x)).length = xs.length * ys.length := by
  induction xs with
  | nil => simp
  | cons x xs ih => rw [List.flatMap_cons, List.length_append, ih, List.length_map, List.length_cons, Nat.add_mul, Nat.one_mul, Nat.add_comm]
theorem el_lc2 {K : PySem.W.Frag} {a : Addr} {xs ys : List V} {tl tu te : TE} {i j : Nat} {vs vs1 : List Nat} {σ : L2.St} {H : Hp} (v : V → V → V) (h : Ev tl σ H (.ref a)) (hx : SqL K H a xs) (hz : xs.length * ys.length ≤ 40000)
    (hw : ∀ x, wipe ((wipe σ vs).set i (some x)) vs = wipe σ vs) (hw1 : ∀ x y, wipe ((wipe ((wipe σ vs).set i (some x)) vs1).set j (some y)) vs1 = wipe ((wipe σ vs).set i (some x)) vs1)
    (hu : ∀ x, EvS tu ((wipe σ vs).set i (some x)) H ys) (he : ∀ x y, x ∈ xs → y ∈ ys → Ev te ((wipe ((wipe σ vs).set i (some x)) vs1).set j (some y)) H (v x y)) :
    EvL (tLc2 (iList K tl) (gName i) tYes (iTup K tu) (gName j) tYes te vs vs1) σ H (xs.flatMap fun x => ys.map (v x)) := fun H0 e Q q => h H0 e _ fun H1 e1 => by
  have e01 := e.trans e1
  refine ⟨a, rfl, ⟨xs, ex_l e01 hx⟩, fun D hD => ?_⟩
  refine ⟨fun k m Hx => m = xs.length - k ∧ k ≤ xs.length ∧ Lw D H1 ((xs.take k).flatMap fun x => ys.map (v x)) Hx, ⟨xs.length, by simp, Nat.zero_le _, hD, Ex.new hD, upd_same⟩, ?_⟩
  rintro k m H2 ⟨rfl, hk, lw⟩
  have s2 : SqL K H2 a xs := ex_l lw.2.1 (ex_l e01 hx)
  by_cases lt : k < xs.length
  · refine .inr ⟨walk_list.goes k H2 lt s2, fun Hx => Lw D H1 ((xs.take (k + 1)).flatMap fun x => ys.map (v x)) Hx, fun Hx p => ⟨xs.length - (k + 1), by omega, rfl, lt, p⟩, fun x H3 hy => ?_⟩
    obtain ⟨rfl, hxk⟩ := walk_list.yields k H2 x H3 lt s2 hy
    have hxm : x ∈ xs := List.mem_of_getElem? hxk
    rw [flat_take hxk]
    have hpl : ((xs.take k).flatMap fun x => ys.map (v x)).length + ys.length ≤ 40000 := by
      rw [flat_len, List.length_take]
      have : (min k xs.length + 1) * ys.length ≤ xs.length * ys.length := Nat.mul_le_mul_right _ (by omega)
      rw [Nat.add_mul, Nat.one_mul] at this
      omega
    generalize ((xs.take k).flatMap fun x => ys.map (v x)) = pre at *
    refine ⟨hw _, et_yes H3 (Ex.refl _) _ fun H4 e4 => ?_⟩
    rw [if_pos rfl]
    have lw4 := lw.ext e4
    refine hu x H4 (e01.trans lw4.2.1) _ fun T H5 e5 hT => ?_
    have lw5 := lw4.ext e5
    have hne : T ≠ D := fun z => by rw [z, lw5.2.2] at hT; cases hT
    refine ⟨T, rfl, ⟨ys, st_of hT⟩, fun j' m' Hx => m' = ys.length - j' ∧ j' ≤ ys.length ∧ Lw D H1 (pre ++ (ys.take j').map (v x)) Hx ∧ Hx T = some (.tup ys), ⟨ys.length, by simp, Nat.zero_le _, by simpa using lw5, hT⟩, ?_⟩
    rintro j' m' H6 ⟨rfl, hj, lw6, hT6⟩
    by_cases ltj : j' < ys.length
    · refine .inr ⟨walk_tup.goes j' H6 ltj (st_of hT6), fun Hx => Lw D H1 (pre ++ (ys.take (j' + 1)).map (v x)) Hx ∧ Hx T = some (.tup ys), fun Hx p => ⟨ys.length - (j' + 1), by omega, rfl, ltj, p.1, p.2⟩, fun y H7 hyy => ?_⟩
      obtain ⟨rfl, hyk⟩ := walk_tup.yields j' H6 y H7 ltj (st_of hT6) hyy
      refine ⟨hw1 _ _, et_yes H7 (Ex.refl _) _ fun H8 e8 => ?_⟩
      rw [if_pos rfl]
      have lw8 := lw6.ext e8
      refine he x y hxm (List.mem_of_getElem? hyk) H8 (e01.trans lw8.2.1) _ fun H9 e9 => ?_
      have lw9 := lw8.ext e9
      refine ⟨_, lw9.2.2, ?_, ?_, ?_⟩
      · rw [List.length_append, List.length_map, List.length_take]
        exact sz_lt (by omega)
      · rw [take_snoc hyk, List.map_append, ← List.append_assoc]
        exact lw9.put
      · rw [upd_ne hne]
        exact e9 _ _ (e8 _ _ hT6)
    · have ej : j' = ys.length := by omega
      subst ej
      refine .inl ⟨walk_tup.stops H6 (st_of hT6), ?_⟩
      rw [List.take_of_length_le (Nat.le_refl _)] at lw6
      exact lw6
  · have ek : k = xs.length := by omega
    subst ek
    rw [List.take_of_length_le (Nat.le_refl _)] at lw
    exact .inl ⟨walk_list.stops H2 s2, q D H2 (fresh_back e1 hD) (e1.trans lw.2.1) lw.2.2⟩
theorem pi_tupK {X : Cx} {K : PySem.W.Frag} {tg l : Expr} {tl : TE} (hK : X.K = K) (hl : PE X l tl) : PI X tg l (iTup K tl) := by
  subst hK
  exact pi_tup hl
section
variable {P : Program} {w : World} {K : PySem.W.Frag} {mg : Str → Option Value} {base : Heap} {f : Addr} {fd : FuncData}
/-! addresses -/
def adV (n : Nat) : List V := (AD n).map fun l => V.str (T l)
theorem adV_len (n : Nat) : (adV n).length = 2 ^ n := by unfold adV; rw [List.length_map, AD_len]
theorem adV_succ (n : Nat) (v : V → V → V) (hv : ∀ l ∈ AD n, v (.str (T l)) (.str "0") = .str (T (l ++ [48])) ∧ v (.str (T l)) (.str "1") = .str (T (l ++ [49]))) : ((adV n).flatMap fun x => [V.str "0", V.str "1"].map (v x)) = adV (n + 1) := by
  have e : adV (n + 1) = (AD n).flatMap fun r => [V.str (T (r ++ [48])), V.str (T (r ++ [49]))] := by
    unfold adV
    show ((AD n).flatMap fun r => [r ++ [48], r ++ [49]]).map _ = _
    rw [List.map_flatMap]
    rfl
  rw [e]
  unfold adV
  rw [List.flatMap_map]
  clear e
  generalize AD n = A at *
  induction A with
  | nil => rfl
  | cons l A ih =>
    rw [List.flatMap_cons, List.flatMap_cons, ih fun x hx => hv x (List.mem_cons_of_mem _ hx)]
    obtain ⟨h1, h2⟩ := hv l List.mem_cons_self
    congr 1
    show [v _ _, v _ _] = _
    rw [h1, h2]
def spAds : Sp := fun vs H Q _ => vs = [] ∧ ∀ H' D, H D = none → Ex H H' → H' D = some (.lst (adV 10)) → Q (.ref D) H'
abbrev sAds : Stmt := top 15
abbrev nAds : List Str := ["rows", "_", "row", "sign"]
theorem scAds : FnScope nAds [] (defScope sAds) := ⟨rfl, rfl, rfl, by decide +kernel, rfl, by decide +kernel, by decide +kernel⟩
def addV : V → V → V
  | .str a, .str b => .str (a ++ b)
  | _, _ => .non
theorem AD_lenOf {n : Nat} {l : List Nat} (h : l ∈ AD n) : l.length = n := by
  rw [AD_eq] at h
  obtain ⟨i, _, rfl⟩ := List.mem_map.mp h
  exact bN_len n i
theorem ok_ads (B : Bl mg) {t1 : Tok} (hM : mg "ADDRESS_LENGTH" = some (.int 10 t1)) (F : FnP K "addresses" sAds f fd) : FnOk P w K mg base CX0 1 f fd [] spAds := by
  refine F.ok scAds (fun vs H Q E h => ?_) (fun cdv A outer s H vs Q E hr h => ?_)
  · obtain ⟨rfl, _⟩ := h
    rfl
  · obtain ⟨rfl, k⟩ := h
    refine ⟨_, pss_cons (ps_set (i := 0) scAds.nd rfl (Or.inl rfl) (pe_lst (pa_cons pe_str pa_nil)))
      (pss_cons (ps_for (passes_of rfl) rfl (pi_range1 (by rfl) B.range (pa_cons (pe_glob (v := .int 10) (by rfl) hM ⟨_, rfl⟩) pa_nil)) (pg_name (i := 1) scAds.nd rfl (.inl rfl))
        (pss_one (ps_setLc2 (i := 0) (own := [("row", 2), ("sign", 3)]) (vs1 := [3]) (g := gName 2) (g1 := gName 3) (tt := tYes) (tt1 := tYes) rfl scAds.nd rfl rfl (sw_true rfl rfl rfl (by decide +kernel)) (pi_list (pv 0)) (blkOk_by (N := nAds) (sc := defScope sAds) (by decide +kernel)) (by decide)
          (fun _ _ _ _ _ => pg_name (i := 2) scAds.nd rfl (Or.inl rfl)) (fun _ _ _ _ _ => pts_nil)
          (fun _ _ _ _ _ => pi_tupK (K := K) rfl (pe_tup (pa_cons pe_str (pa_cons pe_str pa_nil))))
          (fun _ _ _ _ _ => pg_name (i := 3) scAds.nd rfl (Or.inl rfl)) (fun _ _ _ _ _ => pts_nil) (fun _ _ _ _ _ => pe_op op_add_str (pv 2) (pv 3)))))
      (pss_one (ps_ret (pv 0)))), ?_⟩
    refine q_asgL (xs := [V.str ""]) (el_lst (ea_cons ev_c ea_nil) (by decide)) fun D0 H0 hD0 e0 h0 => ?_
    refine q_forR1 (n := 10) (ea_cons ev_c ea_nil) (by omega) (fun i σ' H' => ∃ (D : Addr) (o1 : Option V), σ' = [some (.ref D), o1, none, none] ∧ Ex H H' ∧ H D = none ∧ H' D = some (.lst (adV i))) (fun H1 e1 => ⟨D0, none, rfl, e0.trans e1, hD0, e1 _ _ (by rw [h0]; show some (HO.lst [V.str (Str.ofString "")]) = _; rw [t_empty]; rfl)⟩) (fun i σ' H' hi hp => ?_) (fun σ' H' hp => ?_)
    · obtain ⟨D, o1, rfl, e1, hD, h1⟩ := hp
      have hi2 : i < 10 := by omega
      have hp2 : (2 : Nat) ^ i ≤ 512 := Nat.pow_le_pow_right (by decide) (show i ≤ 9 by omega)
      have lit : (Str.ofString "0" = T [48]) ∧ (Str.ofString "1" = T [49]) := by decide +kernel
      change tAsg _ _ _ [some (.ref D), some (.int (i : Int)), none, none] H'
      have z := el_lc2 (K := K) (a := D) (xs := adV i) (ys := [V.str "0", V.str "1"]) (tl := tVar 0) (tu := tTup (tCons (tC (.str "0")) (tCons (tC (.str "1")) tNil))) (te := tOp rAddS (tVar 2) (tVar 3)) (i := 2) (j := 3) (vs := [2, 3]) (vs1 := [3]) (σ := [some (.ref D), some (.int (i : Int)), none, none]) (H := H') addV (ev_var rfl) (sq_of h1) (by rw [adV_len]; show _ * 2 ≤ _; omega) (fun x => rfl) (fun x y => rfl)
        (fun x => es_tup (ea_cons ev_c (ea_cons ev_c ea_nil)) (by decide)) (fun x y hx hy => by
          unfold adV at hx
          obtain ⟨l, hl, rfl⟩ := List.mem_map.mp hx
          have hll := AD_lenOf hl
          have hy2 : ∃ c, y = .str (T [c]) := by
            rcases List.mem_cons.mp hy with e | e
            · exact ⟨48, by rw [e]; exact congrArg V.str lit.1⟩
            · exact ⟨49, by rw [List.mem_singleton.mp e]; exact congrArg V.str lit.2⟩
          obtain ⟨c, rfl⟩ := hy2
          show Ev _ _ _ (V.str (T l ++ T [c]))
          rw [T_cat]
          exact ev_addS (ev_var rfl) (ev_var rfl) (by simp; omega))
      rw [adV_succ i addV (fun l hl => ⟨by show V.str (T l ++ Str.ofString "0") = _; rw [lit.1, T_cat], by show V.str (T l ++ Str.ofString "1") = _; rw [lit.2, T_cat]⟩)] at z
      exact s_asgL z fun D2 H2 hD2 e2 h2 => ⟨D2, _, rfl, e1.trans e2, fresh_back e1 hD2, h2⟩
    · obtain ⟨D, o1, rfl, e1, hD, h1⟩ := hp
      exact s_ret (v := .ref D) (ev_var rfl) fun H2 e2 => k H2 D hD (e1.trans e2) (e2 _ _ h1)
end
end Wk

set_option Elab.async false
set_option linter.all false
set_option maxRecDepth 100000
set_option maxHeartbeats 4000000
namespace Wk
open PySem PySem.Spec PyProof.Rows L2 Evl
theorem pe_ads {X : Cx} {x : Str} {p pos : Pos} {k j : Nat} {sp : Sp} (C : Cal X.prog X.w X.K X.mg X.base x [] k sp) (hr : Room j X.A) (hg : Gl X x) (hk : k ≤ j := by decide) (hdb : (x == ("__debug__" : Str)) = false := by decide) : PE X (.Call (.Name x p) [] [] pos) (tCall sp [] E0 tNil) := by
  obtain ⟨f, fd, F, g, kp, b⟩ := C.ex
  exact pe_call0 F (hr.mono hk) hg g kp b .nil pass0 hdb
theorem pi_listK {X : Cx} {K : PySem.W.Frag} {tg l : Expr} {tl : TE} (hK : X.K = K) (hl : PE X l tl) : PI X tg l (iList K tl) := by
  subst hK
  exact pi_list hl
theorem cr_anyK {X : Cx} {K : PySem.W.Frag} (hK : X.K = K) (hc : X.calm = true) : CallR X (.builtin "any") (rAny K) := by
  subst hK
  exact cr_any hc
end Wk

set_option Elab.async false
set_option linter.all false
set_option maxRecDepth 100000
set_option maxHeartbeats 4000000
namespace Wk
open PySem PySem.Spec PyProof.Rows L2 Evl
/-! int(bits, 2) -/
section
open PySem.NumText PySem.Calls
theorem bit_hex {l : List Nat} (h : IsB l) : ∀ c ∈ l, Hx.IsHex c := fun c hc => by
  unfold Hx.IsHex
  rcases h c hc with e | e <;> omega
theorem b2_step {ds : Array Nat} {b : Bool} {c : Nat} (h : c = 48 ∨ c = 49) : NumText.step 2 (ds, b) c = some (ds.push (c - 48), true) := by
  rcases h with rfl | rfl <;> rfl
theorem b2_fold : ∀ (l : List Nat) (ds : Array Nat), IsB l → l.foldlM (NumText.step 2) (ds, true) = some (l.foldl (fun a c => a.push (c - 48)) ds, true)
  | [], _, _ => rfl
  | c :: l, ds, h => by
    rw [List.foldlM_cons, b2_step (h c List.mem_cons_self)]
    exact b2_fold l _ fun x hx => h x (List.mem_cons_of_mem _ hx)
theorem b2_digits {l : List Nat} (h : IsB l) (hne : l ≠ []) : digits? 2 l = some (l.foldl (fun a c => a.push (c - 48)) #[]) := by
  cases l with
  | nil => exact absurd rfl hne
  | cons c l =>
    unfold digits?
    rw [List.foldlM_cons, b2_step (h c List.mem_cons_self)]
    show (l.foldlM (NumText.step 2) ((#[] : Array Nat).push (c - 48), true)).bind _ = _
    rw [b2_fold l _ fun x hx => h x (List.mem_cons_of_mem _ hx)]
    rfl
theorem b2_worth : ∀ (l : List Nat) (ds : Array Nat), (l.foldl (fun a c => a.push (c - 48)) ds).foldl (fun acc d => acc * 2 + d) 0 = l.foldl (fun a c => 2 * a + (c - 48)) (ds.foldl (fun acc d => acc * 2 + d) 0)
  | [], _ => rfl
  | c :: l, ds => by
    rw [List.foldl_cons, b2_worth l, List.foldl_cons]
    congr 1
    simp
    omega
theorem b2_based : ∀ {l : List Nat}, IsB l → based 2 l = (2, false, l)
  | [], _ => rfl
  | [c], h => by
    rcases h c List.mem_cons_self with rfl | rfl <;> rfl
  | c :: d :: l, h => by
    rcases h c List.mem_cons_self with rfl | rfl
    · rcases h d (List.mem_cons_of_mem _ List.mem_cons_self) with rfl | rfl <;> rfl
    · rfl
theorem b2_read {l : List Nat} (h : IsB l) (hne : l ≠ []) : (int_private% "readNumeral") 0 2 l = (int_private% "Numeral.value") ((vl l : Nat) : Int) := by
  have hx := bit_hex h
  have hr : ∀ c ∈ l.reverse, Hx.IsHex c := fun c hc => hx c (List.mem_reverse.mp hc)
  have hb := b2_based h
  refine (readNumeral_eq 0 2 l).trans ?_
  rw [Hx.dropB hx, Hx.signH hx]
  show judge 0 false (based 2 l).1 (based 2 l).2.1 (digits? (based 2 l).1 (((based 2 l).2.2.reverse.dropWhile blank).reverse)) = _
  rw [hb]
  show judge 0 false 2 false (digits? 2 ((l.reverse.dropWhile blank).reverse)) = _
  rw [Hx.dropB hr, List.reverse_reverse, b2_digits h hne]
  show (int_private% "Numeral.value") (((l.foldl (fun a c => a.push (c - 48)) (#[] : Array Nat)).foldl (fun acc d => acc * 2 + d) 0 : Nat) : Int) = _
  rw [b2_worth]
  rfl
theorem b2_gives {l : List Nat} {u t : Tok} (hl : l.length ≤ 640) (h : IsB l) (hne : l ≠ []) :
    Gives (Builtin.«int.__new__» ⟨[.type "int", .str (T l) u, .int 2 t], []⟩) (.int ((vl l : Nat) : Int)) :=
  .of_wp fun M A E s Q hQ => by
    obtain ⟨hp, g, d, tk, os⟩ := s
    have f1 := F.conv_sub_int
    have f2 := F.madeHere_int
    have f6 : typeOf (.str (T l) u) = pure (.type "str") := rfl
    obtain ⟨e1, e2⟩ := Hx.seen_hex (x := T l) (bit_hex h)
    have e2' : numSeenOf (T l) = l := e2
    have e1' : numTextOf (T l) = l := e1
    have hk : Hx.Hid ((numSeenOf (T l)).length ≤ 640 ∧ (int_private% "readNumeral") 0 2 (numSeenOf (T l)) = (int_private% "Numeral.value") ((vl l : Nat) : Int) ∧ ((numSeenOf (T l)).length == (numTextOf (T l)).length) = true) :=
      ⟨by rw [e2']; exact hl, by rw [e2']; exact b2_read h hne, by rw [e1', e2']; exact beq_self_eq_true _⟩
    clear e1 e2 e1' e2' hl hne h
    repeat (any_goals (first
      | assumption
      | ((with_reducible show wpAny _ _ ((int_private% "intFromText") _ _ _) _ _ _); refine Hx.wp_textB hk.out.1 hk.out.2.1 hk.out.2.2 ?_)
      | wp_step))
    all_goals first | exact ⟨_, rfl, hQ⟩ | skip
theorem b2_call {prog : Program} {w : World} {A : Around} {E : Value → Shared → Prop} {s : Shared} {Q : Value → Shared → Prop} {l : List Nat} {u t : Tok} (hl : l.length ≤ 640) (h : IsB l) (hne : l ≠ [])
    (hQ : Q (.int ((vl l : Nat) : Int) s.toks) { s with toks := s.toks + 1 }) : wpAny (model prog w) A (call (.type "int") [.str (T l) u, .int 2 t]) Q E s :=
  callType_new F.called_int F.newNe_int (Hx.typeCall_int_2 _ _) (Hx.newCall_int_2 _ _) (fun obj => F.initArgs_range_2 obj _ _) F.entry_int_new (b2_gives hl h hne).meets (show (Made.int ((vl l : Nat) : Int)).post _ s from ⟨rfl, hQ⟩)
end
def rInt2 : List V → Hp → VK → Prop := fun xs H Q => ∃ l : List Nat, xs = [.str (T l), .int 2] ∧ l ≠ [] ∧ l.length ≤ 640 ∧ IsB l ∧ Q (.int ((vl l : Nat) : Int)) H
theorem call_int2 {X : Cx} : CallR X (.type "int") rInt2 := by
  intro pins s σ H xs us Q I r h
  obtain ⟨l, rfl, hne, hl, hx, q⟩ := h
  obtain ⟨u, w', rfl, r1, r2⟩ := vals2 r
  obtain ⟨t1, rfl⟩ := r1
  obtain ⟨t2, rfl⟩ := r2
  exact b2_call hl hx hne ⟨.int ((vl l : Nat) : Int), H, I.tok _, ⟨_, rfl⟩, q⟩
/-! a sign times a number -/
def rMulS : R2 := fun x y H Q => ∃ c k : Nat, x = .str (T [c]) ∧ y = .int (k : Int) ∧ k ≤ 10 ∧ Q (.str (T (List.replicate k c))) H
theorem mul_T (c : Nat) : ∀ k : Nat, k ≤ 10 → Txt.mul (T [c]) (k : Int) = T (List.replicate k c)
  | 0, _ => rfl
  | 1, _ => rfl
  | 2, _ => rfl
  | 3, _ => rfl
  | 4, _ => rfl
  | 5, _ => rfl
  | 6, _ => rfl
  | 7, _ => rfl
  | 8, _ => rfl
  | 9, _ => rfl
  | 10, _ => rfl
  | k + 11, h => by omega
theorem mul_ok (c : Nat) : ∀ k : Nat, k ≤ 10 → MulOk (T [c]) (k : Int) := fun k hk => by
  have h1 : (T [c]).length = 1 := rfl
  have key : ∀ k : Nat, k ≤ 10 → ((decide ((k : Int) < -(2 ^ 63 : Int)) || decide ((k : Int) ≥ 2 ^ 63)) = false ∧ (¬ (k : Int) < 1 → ((k : Int) == 1 || (1 : Nat) == 0) = false → ¬ (((1 : Nat) : Int) > (2 ^ 63 - 1) / (k : Int))) ∧
    (¬ (k : Int) < 1 → ((k : Int) == 1 || (1 : Nat) == 0) = false → Builtin.Str.tooLong (1 * (k : Int).toNat) = false)) := by decide +kernel
  exact key k hk
theorem op_mulS {X : Cx} : OpR X (binaryOp .Mult) rMulS := by
  intro pins s σ H x y v u Q I rx ry h
  obtain ⟨c, k, rfl, rfl, hk, q⟩ := h
  obtain ⟨t, rfl⟩ := rx
  obtain ⟨t', rfl⟩ := ry
  refine PySem.SB.mul (mul_ok c k hk) fun t2 tk => ?_
  rw [mul_T c k hk]
  exact ⟨.str (T (List.replicate k c)), H, I.tok _, ⟨_, rfl⟩, q⟩
/-! xs[a:b] = ys, ys another list -/
def gSl (to tl th : TE) : TG := fun v σ H Q => to σ H fun o H1 => tl σ H1 fun i H2 => th σ H2 fun j H3 => ∃ (l b : Addr) (xs ys : List V) (a c : Int), o = .ref l ∧ i = .int a ∧ j = .int c ∧ v = .ref b ∧ H3 l = some (.lst xs) ∧ H3 b = some (.lst ys) ∧ l ≠ b ∧ 0 ≤ a ∧ a ≤ c ∧ c ≤ xs.length ∧ xs.length + ys.length ≤ sizeLine ∧
  Q σ (upd H3 l (.lst (xs.take a.toNat ++ ys ++ xs.drop c.toNat)))
theorem pg_slice {X : Cx} {o lo hi : Expr} {p2 pos : Pos} {to tl th : TE} (ho : PE X o to) (hl : PE X lo tl) (hh : PE X hi th)
    (ha : ∀ v, assign (.Subscript o (.Slice (some lo) (some hi) none p2) pos) X.env v = (do
      let ov ← holding [v] (eval o X.env)
      let iv ← holding [v, ov] (eval (.Slice (some lo) (some hi) none p2) X.env)
      standAt pos
      holding [v, ov, iv] (setItem ov iv v)
      release [iv, v, ov] []) := by intro _; rfl) : PG X (.Subscript o (.Slice (some lo) (some hi) none p2) pos) (gSl to tl th) := by
  refine ⟨fun pins s σ H v u Q I r h => ?_⟩
  rw [ha]
  refine wpAny_bind (wpAny_holding (thn (ho.run pins s σ H _ I h) fun ov s1 ⟨x, H1, I1, r1, q1⟩ => ?_))
  refine wpAny_bind (wpAny_holding ?_)
  refine wpAny_Slice (thn (hl.run pins s1 σ H1 _ I1 q1) fun vl s2 ⟨y, H2, I2, r2, q2⟩ => thn (hh.run pins s2 σ H2 _ I2 q2) fun vh s3 ⟨z, H3, I3, r3, q3⟩ => ?_)
  rw [evalPart_none]
  refine wpAny_pure ?_
  obtain ⟨l, b, xs, ys, a, c, rfl, rfl, rfl, rfl, hx, hy, hne, h0, hac, hc, hz, q⟩ := q3
  cases (show ov = Value.ref l from r1)
  cases (show u = Value.ref b from r)
  have I4 : Inv X pins σ H3 { s3 with heap := s3.heap.push { cls := .type "slice", data := .fields #[vl, vh, .none] } } := I3.kept (t' := s3.toks) fun b ob q => Heap.get?_push_of_some _ q
  refine wpAny_bind (wpAny_standAt (wpAny_bind (wpAny_holding ?_)))
  exact set_slice I4 hx hy hne (Heap.IsSliceOf.new ..) r2 r3 h0 hac hc hz fun s' I' => wpAny_release ⟨σ, _, I', q⟩
end Wk

set_option Elab.async false
set_option linter.all false
set_option maxRecDepth 100000
set_option maxHeartbeats 4000000
namespace Wk
open PySem PySem.Spec PyProof.Rows L2 Evl
theorem dbl (x y : Nat) : x * (y * 2) = 2 * (x * y) := by rw [← Nat.mul_assoc, Nat.mul_comm]
theorem vl_zeros (r : List Nat) : ∀ k : Nat, vl (r ++ List.replicate k 48) = vl r * 2 ^ k
  | 0 => by simp
  | k + 1 => by
    rw [List.replicate_succ', ← List.append_assoc, vl_snoc, vl_zeros r k, Nat.pow_succ, dbl]
    rfl
theorem vl_ones (r : List Nat) : ∀ k : Nat, vl (r ++ List.replicate k 49) + 1 = (vl r + 1) * 2 ^ k
  | 0 => by simp
  | k + 1 => by
    rw [List.replicate_succ', ← List.append_assoc, vl_snoc, Nat.pow_succ, dbl, ← vl_ones r k]
    omega
theorem lo_eq (r : List Nat) : vl (r ++ List.replicate (10 - r.length) 48) = lo r := vl_zeros r _
theorem hi_eq (r : List Nat) : vl (r ++ List.replicate (10 - r.length) 49) + 1 = hi r := vl_ones r _
theorem isB_rep {c : Nat} (hc : c = 48 ∨ c = 49) (k : Nat) : IsB (List.replicate k c) := fun x hx => by
  rw [(List.mem_replicate.mp hx).2]
  exact hc
theorem cut_nat (xs : List V) (a b : Nat) (hab : a ≤ b) (hb : b ≤ xs.length) : cutV xs (some (a : Int)) (some (b : Int)) = (xs.drop a).take (b - a) := by
  unfold cutV
  rw [HT.sIx_nat, HT.sIx_nat, Nat.min_eq_left hb, Nat.min_eq_left (Nat.le_trans hab hb)]
section
variable {σ : L2.St} {H : Hp} {tr : TE}
/-- int(r + '0' * (10 - len(r)), 2) -/
abbrev tEnd (tr : TE) (z : Str) : TE := tCB rInt2 (tCons (tOp rAddS tr (tOp rMulS (tC (.str z)) (tOp (rI0 fun i j => .int (i - j)) (tC (.int 10)) (tCB rLenStr (tCons tr tNil))))) (tCons (tC (.int 2)) tNil))
theorem ev_end {r : List Nat} {z : Str} {c : Nat} (hz : z = T [c]) (hc : c = 48 ∨ c = 49) (h : Ev tr σ H (.str (T r))) (hB : IsB r) (hl : r.length ≤ 10) : Ev (tEnd tr z) σ H (.int ((vl (r ++ List.replicate (10 - r.length) c) : Nat) : Int)) := by
  have hk : ((10 : Int) - (r.length : Int)) = ((10 - r.length : Nat) : Int) := by omega
  have e1 : Ev (tOp rMulS (tC (.str z)) (tOp (rI0 fun i j => .int (i - j)) (tC (.int 10)) (tCB rLenStr (tCons tr tNil)))) σ H (.str (T (List.replicate (10 - r.length) c))) := ev_op ev_c (ev_op (r := rI0 fun i j => .int (i - j)) ev_c (ev_lenS h (by omega)) rv_I0) fun H1 _ Q q => by
    subst hz
    exact ⟨c, 10 - r.length, rfl, by rw [hk], by omega, q H1 (Ex.refl _)⟩
  have e2 := ev_addS h e1 (by rw [List.length_replicate]; omega)
  intro H1 e Q q
  refine e2 H1 e _ fun H2 x2 => ⟨_, rfl, ?_, ?_, hB.app (isB_rep hc _), q H2 x2⟩
  · intro y
    have := congrArg List.length y
    rw [List.length_append, List.length_replicate, List.length_nil] at this
    omega
  · rw [List.length_append, List.length_replicate]
    omega
end
end Wk

set_option Elab.async false
set_option linter.all false
set_option maxRecDepth 100000
set_option maxHeartbeats 4000000
namespace Wk
open PySem PySem.Spec PyProof.Rows L2 Evl
section
variable {σ : L2.St} {H : Hp} {tr tk : TE}
/-- int(r + '0' * k, 2) -/
theorem ev_endK {r : List Nat} {z : Str} {c k : Nat} (hz : z = T [c]) (hc : c = 48 ∨ c = 49) (h : Ev tr σ H (.str (T r))) (hk : Ev tk σ H (.int (k : Int))) (hB : IsB r) (hl : r.length + k = 10) :
    Ev (tCB rInt2 (tCons (tOp rAddS tr (tOp rMulS (tC (.str z)) tk)) (tCons (tC (.int 2)) tNil))) σ H (.int ((vl (r ++ List.replicate k c) : Nat) : Int)) := by
  have e1 : Ev (tOp rMulS (tC (.str z)) tk) σ H (.str (T (List.replicate k c))) := ev_op ev_c hk fun H1 _ Q q => by
    subst hz
    exact ⟨c, k, rfl, rfl, by omega, q H1 (Ex.refl _)⟩
  have e2 := ev_addS h e1 (by rw [List.length_replicate]; omega)
  intro H1 e Q q
  refine e2 H1 e _ fun H2 x2 => ⟨_, rfl, ?_, ?_, hB.app (isB_rep hc _), q H2 x2⟩
  · intro y
    have := congrArg List.length y
    rw [List.length_append, List.length_replicate, List.length_nil] at this
    omega
  · rw [List.length_append, List.length_replicate]
    omega
end
theorem rep_flat (x : V) (n : Nat) : (List.replicate n [x]).flatten = List.replicate n x := by
  induction n with
  | zero => rfl
  | succ n ih => rw [List.replicate_succ, List.flatten_cons, ih, List.replicate_succ]; rfl
section
variable {P : Program} {w : World} {K : PySem.W.Frag} {mg : Str → Option Value} {base : Heap} {f : Addr} {fd : FuncData}
/-! _law_painted -/
def spPnt : Sp := fun vs H Q _ => ∃ (a : Addr) (us : List V) (es : List Row) (m : Nat), vs = [.ref a] ∧ H a = some (.lst us) ∧ EsT H us es ∧ EsOk es m ∧ m ≤ 100 ∧ ∀ H' D, H D = none → Ex H H' → H' D = some (.lst (fV (pnt (.str "drop") es))) → Q (.ref D) H'
abbrev sPnt : Stmt := top 31
abbrev nPnt : List Str := ["_law_entries_here", "_law_painted_here", "_law_size", "_law_bits_here", "_law_there", "_law_first", "_law_last"]
theorem scPnt : FnScope nPnt ["_law_entries_here"] (defScope sPnt) := ⟨rfl, rfl, rfl, by decide +kernel, rfl, by decide +kernel, by decide +kernel⟩
theorem ok_pnt (B : Bl mg) (F : FnP K "_law_painted" sPnt f fd) : FnOk P w K mg base CX0 1 f fd ["_law_entries_here"] spPnt := by
  refine F.ok scPnt (fun vs H Q E h => ?_) (fun cdv A outer s H vs Q E hr h => ?_)
  · obtain ⟨a, us, es, m, rfl, _⟩ := h
    rfl
  · obtain ⟨a, us, es, m, rfl, ha, hus, hes, hm, k⟩ := h
    refine ⟨_, pss_cons (ps_set (i := 1) scPnt.nd rfl (Or.inl rfl) (pe_op op_rep (pe_lst (pa_cons pe_str pa_nil)) pe_int))
      (pss_cons (ps_for (passes_of rfl) rfl (pi_range1 (by rfl) B.range (pa_cons pe_int pa_nil)) (pg_name (i := 2) scPnt.nd rfl (.inl rfl))
        (pss_one (ps_for (passes_of rfl) rfl (pi_list (pv 0)) (pg_tup rfl (pgs_cons (pg_name (i := 3) scPnt.nd rfl (.inl rfl)) (pgs_cons (pg_name (i := 4) scPnt.nd rfl (.inl rfl)) pgs_nil)))
          (pss_one (ps_if (pt_cmpR op_eq (pe_callB call_len_str (by rfl) B.len PySem.boot_len (pa_cons (pv 3) pa_nil)) (pv 2) (nomark _))
            (pss_cons (ps_set (i := 5) scPnt.nd rfl (Or.inl rfl) (pe_callTy call_int2 (by rfl) B.int PyProof.Rows.boot_int (pa_cons (pe_op op_add_str (pv 3) (pe_op op_mulS pe_str (pe_op op_sub pe_int (pv 2)))) (pa_cons pe_int pa_nil))))
            (pss_cons (ps_set (i := 6) scPnt.nd rfl (Or.inl rfl) (pe_op op_add (pe_callTy call_int2 (by rfl) B.int PyProof.Rows.boot_int (pa_cons (pe_op op_add_str (pv 3) (pe_op op_mulS pe_str (pe_op op_sub pe_int (pv 2)))) (pa_cons pe_int pa_nil))) pe_int))
            (pss_one (ps_asg (pe_op op_rep (pe_lst (pa_cons (pv 4) pa_nil)) (pe_op op_sub (pv 6) (pv 5))) (pg_slice (pv 1) (pv 5) (pv 6)))))) pss_nil)))))
      (pss_one (ps_ret (pv 1)))), ?_⟩
    have lit : (Str.ofString "0" = T [48]) ∧ (Str.ofString "1" = T [49]) := by decide +kernel
    have hul := hus.length
    have hel := hes.len
    refine q_asgW ?_
    refine ⟨by show 1 ≤ sizeLine; decide, fun p0 hp0 => ?_⟩
    have e0 := Ex.new (o := .lst [V.str "drop"]) hp0
    have h0 : (upd H p0 (.lst [V.str "drop"])) p0 = some (.lst [V.str "drop"]) := upd_same
    generalize upd H p0 (.lst [V.str "drop"]) = H0 at *
    refine ⟨p0, 1024, [V.str "drop"], rfl, rfl, h0, by decide, by decide, by show 1 * 1024 ≤ sizeLine; decide, fun D hD => ?_⟩
    rw [rep_flat, show (1024 : Int).toNat = 1024 from rfl, fV_const]
    have e1 := Ex.new (o := .lst (fV fun _ => V.str "drop")) hD
    have h1 : (upd H0 D (.lst (fV fun _ => V.str "drop"))) D = some (.lst (fV fun _ => V.str "drop")) := upd_same
    generalize upd H0 D (.lst (fV fun _ => V.str "drop")) = H1 at *
    have e01 := e0.trans e1
    have nHD := fresh_back e0 hD
    change tSeq (tFor _ _ _) _ _ [some (.ref a), some (.ref D), none, none, none, none, none] H1
    refine q_forR1 (n := 11) (ea_cons ev_c ea_nil) (by omega) (fun n σ' H' => ∃ o2 o3 o4 o5 o6, σ' = [some (.ref a), some (.ref D), o2, o3, o4, o5, o6] ∧ Ex H H' ∧ H' D = some (.lst (fV (pnN (.str "drop") es n)))) (fun H2 e2 => ⟨_, _, _, _, _, rfl, e01.trans e2, e2 _ _ h1⟩) (fun n σ' H' hn hp => ?_) (fun σ' H' hp => ?_)
    · obtain ⟨o2, o3, o4, o5, o6, rfl, e2, hD2⟩ := hp
      have hn11 : n < 11 := by omega
      change tFor _ _ _ _ [some (.ref a), some (.ref D), some (.int (n : Int)), o3, o4, o5, o6] H'
      refine s_forL (K := K) (a := a) (xs := us) (ev_var rfl) (sq_of (e2 _ _ ha)) (fun j σ2 H2 => ∃ o3 o4 o5 o6, σ2 = [some (.ref a), some (.ref D), some (.int (n : Int)), o3, o4, o5, o6] ∧ Ex H H2 ∧ H2 D = some (.lst (fV ((es.take j).foldl (pn1 n) (pnN (.str "drop") es n))))) (fun H2 e3 => ⟨_, _, _, _, rfl, e2.trans e3, by rw [List.take_zero]; exact e3 _ _ hD2⟩) (fun j σ2 H2 _ hp => ?_) (fun j x σ2 H2 hx hp => ?_) (fun σ2 H2 hp => ?_)
      · obtain ⟨_, _, _, _, _, e3, _⟩ := hp
        exact sq_of (e3 _ _ ha)
      · obtain ⟨o3, o4, o5, o6, rfl, e3, hD3⟩ := hp
        obtain ⟨b, e, rfl, he, hb⟩ := hus.at_ hx
        obtain ⟨hB, hl10, hnx⟩ := hes.it e (List.mem_of_getElem? he)
        refine ⟨b, _, rfl, st_of (e3 _ _ hb), rfl, g_two ?_⟩
        change tIfS _ _ _ _ [some (.ref a), some (.ref D), some (.int (n : Int)), some (.str (T e.1)), some e.2, o5, o6] H2
        rw [take_snoc he, List.foldl_append]
        generalize (es.take j).foldl (pn1 n) (pnN (.str "drop") es n) = F at *
        have ef : [e].foldl (pn1 n) F = pn1 n F e := rfl
        rw [ef]
        refine s_when (b := decide (V.int (e.1.length : Int) = V.int (n : Int))) (et_test (ev_op (r := rEq) (ev_lenS (ev_var rfl) (by omega)) (ev_var rfl) (rv_eq rfl))) (fun hb1 H3 e4 => ?_) (fun hb1 H3 e4 => ?_)
        · have hlen : e.1.length = n := by
            have := of_decide_eq_true hb1
            injection this with this
            omega
          have hk : ∀ {o5 o6 : Option V} {Hx : Hp}, Ev (tOp (rI0 fun i j => .int (i - j)) (tC (.int 10)) (tVar 2)) [some (.ref a), some (.ref D), some (.int (n : Int)), some (.str (T e.1)), some e.2, o5, o6] Hx (.int ((10 - n : Nat) : Int)) := fun {o5 o6 Hx} => by
            have z := ev_op (r := rI0 fun i j => .int (i - j)) (σ := [some (.ref a), some (.ref D), some (.int (n : Int)), some (.str (T e.1)), some e.2, o5, o6]) (H := Hx) (ev_c (v := .int 10)) (ev_var (i := 2) (v := .int (n : Int)) rfl) rv_I0
            rw [show ((10 : Int) - (n : Int)) = ((10 - n : Nat) : Int) by omega] at z
            exact z
          have elo : vl (e.1 ++ List.replicate (10 - n) 48) = lo e.1 := by rw [← hlen]; exact lo_eq e.1
          have ehi : vl (e.1 ++ List.replicate (10 - n) 49) + 1 = hi e.1 := by rw [← hlen]; exact hi_eq e.1
          have lt := lo_lt e.1
          have hh := hi_le hB hl10
          refine q_asg (ev_endK (σ := [some (.ref a), some (.ref D), some (.int (n : Int)), some (.str (T e.1)), some e.2, o5, o6]) (tr := tVar 3) (k := 10 - n) lit.1 (.inl rfl) (ev_var rfl) hk hB (by omega)) fun H4 e5 => ?_
          rw [elo]
          change tSeq (tAsg _ _) _ _ [some (.ref a), some (.ref D), some (.int (n : Int)), some (.str (T e.1)), some e.2, some (.int ((lo e.1 : Nat) : Int)), o6] H4
          refine q_asg (ev_op (r := rI0 fun i j => .int (i + j)) (ev_endK (σ := [some (.ref a), some (.ref D), some (.int (n : Int)), some (.str (T e.1)), some e.2, some (.int ((lo e.1 : Nat) : Int)), o6]) (tr := tVar 3) (k := 10 - n) lit.2 (.inr rfl) (ev_var rfl) hk hB (by omega)) (ev_c (v := .int 1)) rv_I0) fun H5 e6 => ?_
          rw [show (((vl (e.1 ++ List.replicate (10 - n) 49) : Nat) : Int) + 1) = ((hi e.1 : Nat) : Int) by rw [← ehi]; omega]
          change tAsg _ _ _ [some (.ref a), some (.ref D), some (.int (n : Int)), some (.str (T e.1)), some e.2, some (.int ((lo e.1 : Nat) : Int)), some (.int ((hi e.1 : Nat) : Int))] H5
          have e05 := ((e3.trans e4).trans e5).trans e6
          have hD5 := ((e4.trans e5).trans e6) _ _ hD3
          refine ⟨e.2, rfl, by show 1 ≤ sizeLine; decide, fun p4 hp4 => ?_⟩
          have x4 := Ex.new (o := .lst [e.2]) hp4
          have h4 : (upd H5 p4 (.lst [e.2])) p4 = some (.lst [e.2]) := upd_same
          generalize upd H5 p4 (.lst [e.2]) = H6 at *
          refine ⟨_, rfl, _, rfl, _, _, rfl, rfl, ?_⟩
          have hk2 : (((hi e.1 : Nat) : Int) - ((lo e.1 : Nat) : Int)) = ((hi e.1 - lo e.1 : Nat) : Int) := by omega
          refine ⟨p4, _, [e.2], rfl, rfl, h4, by omega, by omega, by rw [hk2]; show 1 * (hi e.1 - lo e.1) ≤ _; rw [sizeLine_eq]; omega, fun p6 hp6 => ?_⟩
          rw [rep_flat, hk2, Int.toNat_natCast]
          have x6 := Ex.new (o := .lst (List.replicate (hi e.1 - lo e.1) e.2)) hp6
          have h6 : (upd H6 p6 (.lst (List.replicate (hi e.1 - lo e.1) e.2))) p6 = some (.lst (List.replicate (hi e.1 - lo e.1) e.2)) := upd_same
          generalize upd H6 p6 (.lst (List.replicate (hi e.1 - lo e.1) e.2)) = H7 at *
          have hne : D ≠ p6 := fun z => by
            have := x4 _ _ hD5
            rw [z, hp6] at this
            cases this
          refine ⟨.ref D, rfl, _, rfl, _, rfl, D, p6, _, _, ((lo e.1 : Nat) : Int), ((hi e.1 : Nat) : Int), rfl, rfl, rfl, rfl, (x4.trans x6) _ _ hD5, h6, hne, by omega, by omega, by rw [fV_len]; omega, by rw [fV_len, List.length_replicate, sizeLine_eq]; omega, ?_⟩
          rw [Int.toNat_natCast, Int.toNat_natCast, fV_put (by omega) hh]
          refine ⟨_, _, _, _, rfl, Ex.mut ((e05.trans x4).trans x6) nHD, ?_⟩
          rw [upd_same]
          congr 2
          refine fV_congr fun i => ?_
          unfold pn1 hit
          by_cases c : lo e.1 ≤ i ∧ i < hi e.1
          · rw [if_pos c, if_pos ⟨hlen, c⟩]
          · rw [if_neg c, if_neg (fun z => c z.2)]
        · have hlen : e.1.length ≠ n := fun z => by
            rw [z] at hb1
            rw [decide_eq_true rfl] at hb1
            cases hb1
          refine ⟨_, _, _, _, rfl, e3.trans e4, ?_⟩
          rw [e4 _ _ hD3]
          congr 2
          refine fV_congr fun i => ?_
          unfold pn1
          rw [if_neg (fun z => hlen z.1)]
      · obtain ⟨o3, o4, o5, o6, rfl, e3, hD3⟩ := hp
        rw [hul, List.take_of_length_le (Nat.le_refl _)] at hD3
        exact ⟨_, _, _, _, _, rfl, e3, hD3⟩
    · obtain ⟨o2, o3, o4, o5, o6, rfl, e2, hD2⟩ := hp
      exact s_ret (v := .ref D) (ev_var rfl) fun H3 e3 => k H3 D nHD (e2.trans e3) (e3 _ _ hD2)
end
end Wk

set_option Elab.async false
set_option linter.all false
set_option maxRecDepth 100000
set_option maxHeartbeats 4000000
namespace Wk
open PySem PySem.Spec PyProof.Rows L2 Evl
/-! the least address with unlike ways -/
def ptg (F G : Nat → V) : Option Nat := (List.range 1024).find? fun i => !decide (F i = G i)
def adrV : Option Nat → V
  | none => .non
  | some i => .str (T (bN 10 i))
theorem ptg_none {F G : Nat → V} (h : ∀ i, i < 1024 → F i = G i) : ptg F G = none := by
  unfold ptg
  rw [List.find?_eq_none]
  intro i hi
  rw [h i (List.mem_range.mp hi)]
  simp
theorem ptg_some {F G : Nat → V} {i : Nat} (h : ∀ j, j < i → F j = G j) (hi : i < 1024) (hn : F i ≠ G i) : ptg F G = some i := by
  unfold ptg
  rw [List.find?_range_eq_some]
  refine ⟨by simp [hn], List.mem_range.mpr hi, fun j hj => ?_⟩
  rw [h j hj]
  simp
theorem ptg_comm (F G : Nat → V) : ptg F G = ptg G F := by
  unfold ptg
  congr 1
  funext i
  congr 1
  exact decide_eq_decide.mpr ⟨fun h => h.symm, fun h => h.symm⟩
theorem nx_scal {a b : V} (ha : NxV a) (hb : NxV b) : scal a b = true := by
  rcases ha with rfl | rfl | ⟨i, _, rfl⟩ <;> rcases hb with rfl | rfl | ⟨j, _, rfl⟩ <;> rfl
section
variable {P : Program} {w : World} {K : PySem.W.Frag} {mg : Str → Option Value} {base : Heap} {f : Addr} {fd : FuncData} {CT : Addr}
structure MskO (P : Program) (w : World) (K : PySem.W.Frag) (mg : Str → Option Value) (base : Heap) (CS : Addr) (m : Str) (ps : List Str) (n : Nat) (sp : Sp) : Prop where
  ex : ∃ (fM : Addr) (fd : FuncData), Meth K CS m fM ∧ FnOk P w K mg base CX0 n fM fd ps sp ∧ Binds K fd ps []
/-- table.onward(address) -/
theorem ev_onw {σ : L2.St} {H : Hp} {ta tb : TE} {x : Addr} {es : List Row} {m i : Nat} (hx : Ev ta σ H (.ref x)) (hT : Tb CT H x es) (hes : EsOk es m) (hi : i < 1024) (hb : Ev tb σ H (.str (T (bN 10 i)))) : Ev (tMeth CT "onward" (spOnw0 CT) [] E0 ta (tCons tb tNil)) σ H (pnt (.str "drop") es i) := fun H1 e Q q =>
  hx H1 e _ fun H2 e2 => by
    obtain ⟨dx, fs, te, nd, us', es', h1, h2, h3, h4, h5⟩ := id hT
    exact ⟨x, dx, fs, rfl, (e.trans e2) _ _ h1, h4, hb H2 (e.trans e2) _ fun H3 e3 => ⟨x, bN 10 i, es, rfl, hT.mono ((e.trans e2).trans e3), by rw [bN_len]; decide, adr_yes (bN_isB 10 i) (bN_len 10 i), fun H4 z e4 hz => by
      rw [pnt_way hes hi hz]
      exact q H4 ((e2.trans e3).trans e4)⟩⟩
/-! table_parting -/
def spPg (CT : Addr) : Sp := fun vs H Q _ => ∃ (x y : Addr) (e1 e2 : List Row), vs = [.ref x, .ref y] ∧ Tb CT H x e1 ∧ Tb CT H y e2 ∧ EsOk e1 24 ∧ EsOk e2 24 ∧ ∀ H', Ex H H' → Q (adrV (ptg (pnt (.str "drop") e1) (pnt (.str "drop") e2))) H'
abbrev sPg : Stmt := top 25
abbrev nPg : List Str := ["one", "other", "address"]
theorem scPg : FnScope nPg ["one", "other"] (defScope sPg) := ⟨rfl, rfl, rfl, by decide +kernel, rfl, by decide +kernel, by decide +kernel⟩
theorem ok_pg (X : TX K CT) (CA : Cal P w K mg base "addresses" [] 1 spAds) (MO : MskO P w K mg base CT "onward" ["self", "address"] 3 (spOnw0 CT)) (F : FnP K "table_parting" sPg f fd) : FnOk P w K mg base CX0 4 f fd ["one", "other"] (spPg CT) := by
  obtain ⟨f2, fd2, me2, F2, b2⟩ := MO.ex
  refine F.ok scPg (fun vs H Q E h => ?_) (fun cdv A outer s H vs Q E hr h => ?_)
  · obtain ⟨x, y, e1, e2, rfl, _⟩ := h
    rfl
  · obtain ⟨x, y, es1, es2, rfl, hT1, hT2, o1, o2, k⟩ := h
    have r3 : Room 3 _ := hr.mono (by decide)
    refine ⟨_, pss_cons (ps_for (passes_of rfl) rfl (pi_list (pe_ads CA hr (by rfl))) (pg_name (i := 2) scPg.nd rfl (.inl rfl))
        (pss_one (ps_if (pt_cmpR op_ne (pe_meth (pv 0) X.ic.cl me2 F2 r3 b2 .nil pass0 (pa_cons (pv 2) pa_nil)) (pe_meth (pv 1) X.ic.cl me2 F2 r3 b2 .nil pass0 (pa_cons (pv 2) pa_nil)) (nomark _)) (pss_one (ps_ret (pv 2))) pss_nil)))
      (pss_one (ps_ret pe_non)), ?_⟩
    refine q_forNLn (K := K) (xs := adV 10) (tl := tCall spAds [] E0 tNil) (fun H2 e2 Q2 q2 => ⟨rfl, fun H3 D3 hD3 e3 h3 => q2 D3 H3 hD3 e3 h3⟩) (fun D i σ' H' => ∃ o, σ' = [some (.ref x), some (.ref y), o] ∧ Ex H H' ∧ H' D = some (.lst (adV 10)) ∧ ∀ j, j < i → pnt (V.str "drop") es1 j = pnt (V.str "drop") es2 j) (fun D H1 _ e1 h1 => ⟨_, rfl, e1, h1, fun j hj => absurd hj (Nat.not_lt_zero _)⟩) (fun D i σ' H' _ hp => ?_) (fun D i v σ' H' hv hp => ?_) (fun D σ' H' hp => ?_)
    · obtain ⟨_, _, _, h, _⟩ := hp
      exact sq_of h
    · obtain ⟨o, rfl, e1, hD, hj⟩ := hp
      have hi : i < 1024 := by have := (List.getElem?_eq_some_iff.mp hv).1; rw [adV_len] at this; exact this
      have ev : v = .str (T (bN 10 i)) := by
        unfold adV at hv
        rw [List.getElem?_map, AD_at 10 i hi] at hv
        exact (Option.some.inj hv).symm
      subst ev
      change tIfS _ _ _ _ [some (.ref x), some (.ref y), some (.str (T (bN 10 i)))] H'
      have c1 := ev_onw (σ := [some (.ref x), some (.ref y), some (.str (T (bN 10 i)))]) (H := H') (ta := tVar 0) (tb := tVar 2) (ev_var rfl) (hT1.mono e1) o1 hi (ev_var rfl)
      have c2 := ev_onw (σ := [some (.ref x), some (.ref y), some (.str (T (bN 10 i)))]) (H := H') (ta := tVar 1) (tb := tVar 2) (ev_var rfl) (hT2.mono e1) o2 hi (ev_var rfl)
      refine s_when (b := !decide (pnt (V.str "drop") es1 i = pnt (V.str "drop") es2 i)) (et_test (ev_op (r := rNe) c1 c2 (rv_ne (nx_scal (pnt_nx o1 hi) (pnt_nx o2 hi))))) (fun hb H2 e2 => ?_) fun hb H2 e2 => ?_
      · have hne : pnt (V.str "drop") es1 i ≠ pnt (V.str "drop") es2 i := fun z => by rw [decide_eq_true z] at hb; cases hb
        refine s_ret (v := .str (T (bN 10 i))) (ev_var rfl) fun H3 e3 => ?_
        have kk := k H3 ((e1.trans e2).trans e3)
        rw [ptg_some hj hi hne] at kk
        exact kk
      · have heq : pnt (V.str "drop") es1 i = pnt (V.str "drop") es2 i := by
          cases c : decide (pnt (V.str "drop") es1 i = pnt (V.str "drop") es2 i) with
          | true => exact of_decide_eq_true c
          | false => rw [c] at hb; cases hb
        refine ⟨_, rfl, e1.trans e2, e2 _ _ hD, fun j hjj => ?_⟩
        by_cases c : j = i
        · rw [c]; exact heq
        · exact hj j (by omega)
    · obtain ⟨o, rfl, e1, hD, hj⟩ := hp
      rw [adV_len] at hj
      refine s_ret (v := .non) ev_c fun H3 e3 => ?_
      have kk := k H3 (e1.trans e3)
      rw [ptg_none hj] at kk
      exact kk
/-! _law_before -/
def spBf : Sp := fun vs H Q _ => ∃ (a : Addr) (us : List V) (es : List Row) (l : List Nat) (m : Nat), vs = [.ref a, .str (T l)] ∧ H a = some (.lst us) ∧ EsT H us es ∧ EsOk es m ∧ l.length ≤ 100 ∧ ∀ H' v, Ex H H' → NxV v → Q v H'
abbrev sBf : Stmt := top 32
abbrev nBf : List Str := ["_law_entries_here", "_law_bits_here", "_law_found", "_law_size", "_law_start", "_law_there"]
theorem scBf : FnScope nBf ["_law_entries_here", "_law_bits_here"] (defScope sBf) := ⟨rfl, rfl, rfl, by decide +kernel, rfl, by decide +kernel, by decide +kernel⟩
theorem ok_bf (B : Bl mg) (F : FnP K "_law_before" sBf f fd) : FnOk P w K mg base CX0 1 f fd ["_law_entries_here", "_law_bits_here"] spBf := by
  refine F.ok scBf (fun vs H Q E h => ?_) (fun cdv A outer s H vs Q E hr h => ?_)
  · obtain ⟨a, us, es, l, m, rfl, _⟩ := h
    rfl
  · obtain ⟨a, us, es, l, m, rfl, ha, hus, hes, hl, k⟩ := h
    refine ⟨_, pss_cons (ps_set (i := 2) scBf.nd rfl (Or.inl rfl) pe_str)
      (pss_cons (ps_set (i := 3) scBf.nd rfl (Or.inl rfl) (pe_un un_neg pe_int))
      (pss_cons (ps_for (passes_of rfl) rfl (pi_list (pv 0)) (pg_tup rfl (pgs_cons (pg_name (i := 4) scBf.nd rfl (.inl rfl)) (pgs_cons (pg_name (i := 5) scBf.nd rfl (.inl rfl)) pgs_nil)))
        (pss_one (ps_if (PW.pt (pw_and (pt_cmpR op_gt (pe_callB call_len_str (by rfl) B.len PySem.boot_len (pa_cons (pv 4) pa_nil)) (pv 3) (nomark _)) (pw_and1 (pt_cmpR op_eq (pe_slice sl_str (pv 1) po_none (po_some (pe_callB call_len_str (by rfl) B.len PySem.boot_len (pa_cons (pv 4) pa_nil)))) (pv 4) (nomark _)))))
          (pss_cons (ps_set (i := 2) scBf.nd rfl (Or.inl rfl) (pv 5)) (pss_one (ps_set (i := 3) scBf.nd rfl (Or.inl rfl) (pe_callB call_len_str (by rfl) B.len PySem.boot_len (pa_cons (pv 4) pa_nil))))) pss_nil)))
      (pss_one (ps_ret (pv 2))))), ?_⟩
    refine q_c ?_
    refine q_asg (v := .int (-1)) (ev_un ev_c ru_neg) fun H0 e0 => ?_
    refine q_forL (K := K) (a := a) (xs := us) (ev_var rfl) (sq_of (e0 _ _ ha)) (fun i σ' H' => ∃ (fnd : V) (sz : Int) (o4 o5 : Option V), σ' = [some (.ref a), some (.str (T l)), some fnd, some (.int sz), o4, o5] ∧ Ex H H' ∧ NxV fnd) (fun H1 e1 => ⟨_, _, _, _, rfl, e0.trans e1, .inr (.inl rfl)⟩) (fun i σ' H' _ hp => ?_) (fun i y σ' H' hy hp => ?_) (fun σ' H' hp => ?_)
    · obtain ⟨_, _, _, _, _, e1, _⟩ := hp
      exact sq_of (e1 _ _ ha)
    · obtain ⟨fnd, sz, o4, o5, rfl, e1, hinv⟩ := hp
      obtain ⟨b, e, rfl, he, hb⟩ := hus.at_ hy
      obtain ⟨hB, hle, hn⟩ := hes.it e (List.mem_of_getElem? he)
      refine ⟨b, _, rfl, st_of (e1 _ _ hb), rfl, g_two ?_⟩
      change tIfS _ _ _ _ [some (.ref a), some (.str (T l)), some fnd, some (.int sz), some (.str (T e.1)), some e.2] H'
      have ln : ∀ {H1 : Hp} {x y : V}, Ev (tCB rLenStr (tCons (tVar 4) tNil)) [some (.ref a), some (.str (T l)), some x, some y, some (.str (T e.1)), some e.2] H1 (.int (e.1.length : Int)) := fun {H1 x y} => ev_lenS (ev_var rfl) (by omega)
      have sl := ev_slS (H := H') (σ := [some (.ref a), some (.str (T l)), some fnd, some (.int sz), some (.str (T e.1)), some e.2]) (l := l) (te := tVar 1) (tl := tNoPart) (th := tPart (tCB rLenStr (tCons (tVar 4) tNil))) (lo := none) (hi := some (e.1.length : Int)) (ev_var rfl) eo_none (eo_some ln) (by omega)
      refine s_when (b := decide (sz < (e.1.length : Int)) && decide (V.str (cutS (T l) none (some (e.1.length : Int))) = V.str (T e.1))) (et_and (et_test (ev_op (r := rI0 fun i j => .bl (decide (j < i))) ln (ev_var rfl) rv_I0)) fun _ => et_test (ev_op (r := rEq) sl (ev_var rfl) (rv_eq rfl))) (fun _ H1 x1 => ?_) (fun _ H1 x1 => ⟨_, _, _, _, rfl, e1.trans x1, hinv⟩)
      refine q_asg (v := e.2) (ev_var rfl) fun H2 x2 => ?_
      change tAsg _ _ _ [some (.ref a), some (.str (T l)), some e.2, some (.int sz), some (.str (T e.1)), some e.2] H2
      exact s_asg ln fun H3 x3 => ⟨_, _, _, _, rfl, ((e1.trans x1).trans x2).trans x3, hn⟩
    · obtain ⟨fnd, sz, o4, o5, rfl, e1, hinv⟩ := hp
      exact s_ret (v := fnd) (ev_var rfl) fun H2 x2 => k H2 fnd (e1.trans x2) hinv
/-! _law_told -/
def spTo : Sp := fun vs H Q _ => ∃ (o : Option Nat), vs = [adrV o, adrV o] ∧ ∀ H', Ex H H' → Q (.bl true) H'
abbrev sTo : Stmt := top 36
abbrev nTo : List Str := ["_law_told_here", "_law_due_here"]
theorem scTo : FnScope nTo nTo (defScope sTo) := ⟨rfl, rfl, rfl, by decide +kernel, rfl, by decide +kernel, by decide +kernel⟩
theorem ok_to (B : Bl mg) (F : FnP K "_law_told" sTo f fd) : FnOk P w K mg base CX0 1 f fd nTo spTo := by
  refine F.ok scTo (fun vs H Q E h => ?_) (fun cdv A outer s H vs Q E hr h => ?_)
  · obtain ⟨o, rfl, _⟩ := h
    rfl
  · obtain ⟨o, rfl, k⟩ := h
    refine ⟨_, pss_cons (ps_if (pt_cmp (pc_isN (pv 1))) (pss_one (ps_ret (pe_cmp (pc_isN (pv 0))))) pss_nil)
      (pss_one (ps_ret (pe_and (pe_callB call_isi (by rfl) B.isi boot_isinstance (pa_cons (pv 0) (pa_cons (pe_bltn (v := .ty "str") (by rfl) B.str PyProof.Rows.boot_str rfl) pa_nil))) (pe_one (pe_cmpR op_eq (pv 0) (pv 1) (nomark _)))))), ?_⟩
    have i1 : ∀ {o : Option Nat} {j : Nat} {H1 : Hp} {σ : L2.St}, σ[j]? = some (some (adrV o)) → Ev (tIsN (tVar j)) σ H1 (.bl (decide (adrV o = .non))) := fun {o j H1 σ} h H2 e Q2 q2 => ⟨_, h, q2 H2 (Ex.refl _)⟩
    cases o with
    | none =>
      refine q_when (b := decide (adrV none = V.non)) (et_B (i1 (j := 1) (o := none) rfl)) (fun _ H1 e1 => ?_) fun hb => by cases hb
      exact s_ret (i1 (j := 0) (o := none) rfl) fun H2 e2 => k H2 (e1.trans e2)
    | some i =>
      refine q_when (b := decide (adrV (some i) = V.non)) (et_B (i1 (j := 1) (o := some i) rfl)) (fun hb => by cases of_decide_eq_true hb) fun _ H1 e1 => ?_
      refine s_ret (v := .bl (true && decide (V.str (T (bN 10 i)) = V.str (T (bN 10 i))))) (ev_andV (ev_isiS (K := K) (ev_var rfl)) fun _ => ev_op (r := rEq) (ev_var rfl) (ev_var rfl) (rv_eq rfl)) fun H2 e2 => ?_
      rw [decide_eq_true rfl]
      exact k H2 (e1.trans e2)
end
end Wk

set_option Elab.async false
set_option linter.all false
set_option maxRecDepth 100000
set_option maxHeartbeats 4000000
namespace Wk
open PySem PySem.Spec PyProof.Rows L2 Evl
/-! the bits of a place -/
def pows : List Nat := [512, 256, 128, 64, 32, 16, 8, 4, 2, 1]
theorem bN_pows (i : Nat) : bN 10 i = pows.map fun p => 48 + i / p % 2 := by
  simp [bN, pows, Nat.div_div_eq_div_mul]
theorem t_bit (b : Nat) (h : b < 2) : (Str.ofString (toString (b : Int))) = T [48 + b] := by
  have : b = 0 ∨ b = 1 := by omega
  rcases this with rfl | rfl
  · exact t_zero
  · exact t_one
/-- a comprehension over a new tuple -/
theorem el_lcU {K : PySem.W.Frag} {σ : L2.St} {H : Hp} {xs : List V} {tl te : TE} {t : TT} {j : Nat} {vs : List Nat} (f : Nat → Bool) (v : Nat → V) (h : EvS tl σ H xs) (hz : xs.length ≤ 40000) (hw : ∀ x, wipe ((wipe σ vs).set j (some x)) vs = wipe σ vs)
    (ht : ∀ (i : Nat) (x : V) H1, Ex H H1 → xs[i]? = some x → EvT t ((wipe σ vs).set j (some x)) H1 (f i)) (he : ∀ (i : Nat) (x : V) H1, Ex H H1 → xs[i]? = some x → f i = true → Ev te ((wipe σ vs).set j (some x)) H1 (v i)) :
    EvL (tLc (iTup K tl) (gName j) t te vs) σ H (given xs.length f v) := fun H0 e Q q => h H0 e _ fun a H1 e1 hx => ⟨a, rfl, ⟨xs, st_of hx⟩, fun Dl hD =>
  lc_it (walk_tup (K := K) (a := a) (xs := xs)) (Cw H1 f v Dl) ⟨hD, Ex.new hD, upd_same⟩ (fun i H' _ p => st_of (p.2.1 _ _ hx))
    (fun i x H' H2 hi p y => by obtain ⟨rfl, hy⟩ := y; exact ⟨hw x, cw_turn p (by omega) (ht i x H1 (e.trans e1) hy) (fun hf => he i x H1 (e.trans e1) hy hf)⟩) (fun H' p => q Dl H' (fresh_back e1 p.1) (e1.trans p.2.1) p.2.2)⟩
section
variable {P : Program} {w : World} {K : PySem.W.Frag} {mg : Str → Option Value} {base : Heap} {f : Addr} {fd : FuncData}
def spDue : Sp := fun vs H Q _ => ∃ (a b : Addr) (F G : Nat → V), vs = [.ref a, .ref b] ∧ H a = some (.lst (fV F)) ∧ H b = some (.lst (fV G)) ∧ (∀ i, i < 1024 → NxV (F i) ∧ NxV (G i)) ∧ ∀ H', Ex H H' → Q (adrV (ptg F G)) H'
abbrev sDue : Stmt := top 35
abbrev nDue : List Str := ["_law_one", "_law_other_here", "_law_place", "_law_power"]
theorem scDue : FnScope nDue ["_law_one", "_law_other_here"] (defScope sDue) := ⟨rfl, rfl, rfl, by decide +kernel, rfl, by decide +kernel, by decide +kernel⟩
theorem call_strK {X : Cx} : CallR X (.type "str") (fun xs H Q => ∃ i : Int, xs = [.int i] ∧ i.natAbs.log2 < 1920 ∧ Q (.str (toString i)) H) := call_str_int
theorem ok_due (B : Bl mg) (F : FnP K "_law_due" sDue f fd) : FnOk P w K mg base CX0 1 f fd ["_law_one", "_law_other_here"] spDue := by
  refine F.ok scDue (fun vs H Q E h => ?_) (fun cdv A outer s H vs Q E hr h => ?_)
  · obtain ⟨a, b, F, G, rfl, _⟩ := h
    rfl
  · obtain ⟨a, b, F, G, rfl, ha, hb, hnx, k⟩ := h
    refine ⟨_, pss_cons (ps_for (passes_of rfl) rfl (pi_range1 (by rfl) B.range (pa_cons pe_int pa_nil)) (pg_name (i := 2) scDue.nd rfl (.inr rfl))
        (pss_one (ps_if (pt_cmpR op_ne (pe_ix (ix_listK (K := K) rfl) (pv 0) (pv 2) (fun _ _ => rfl)) (pe_ix (ix_listK (K := K) rfl) (pv 1) (pv 2) (fun _ _ => rfl)) (nomark _))
          (pss_one (ps_ret (pe_join pe_str (pe_lc (own := [("_law_power", 3)]) (g := gName 3) (tt := tYes) rfl scDue.nd (pi_tup (pe_tup (pa_cons pe_int (pa_cons pe_int (pa_cons pe_int (pa_cons pe_int (pa_cons pe_int (pa_cons pe_int (pa_cons pe_int (pa_cons pe_int (pa_cons pe_int (pa_cons pe_int pa_nil)))))))))))) (blkOk_by (N := nDue) (sc := defScope sDue) (by decide +kernel))
            (fun _ _ _ _ _ => pg_name (i := 3) scDue.nd rfl (Or.inl rfl)) (fun _ _ _ _ _ => pts_nil)
            (fun _ _ _ _ _ => pe_callTy call_str_int (by rfl) B.str PyProof.Rows.boot_str (pa_cons (pe_op op_mod (pe_op op_fdiv (pv 2) (pv 3)) pe_int) pa_nil)))))) pss_nil)))
      (pss_one (ps_ret pe_non)), ?_⟩
    refine q_forR1 (n := 1024) (ea_cons ev_c ea_nil) (by omega) (fun i σ' H' => ∃ o2, σ' = [some (.ref a), some (.ref b), o2, none] ∧ Ex H H' ∧ ∀ j, j < i → F j = G j) (fun H1 e1 => ⟨_, rfl, e1, fun j hj => absurd hj (Nat.not_lt_zero _)⟩) (fun i σ' H' hi hp => ?_) (fun σ' H' hp => ?_)
    · obtain ⟨o2, rfl, e1, hj⟩ := hp
      have hi2 : i < 1024 := by omega
      obtain ⟨n1, n2⟩ := hnx i hi2
      change tIfS _ _ _ _ [some (.ref a), some (.ref b), some (.int (i : Int)), none] H'
      have c1 : Ev (tOp (rIxL K) (tVar 0) (tVar 2)) [some (.ref a), some (.ref b), some (.int (i : Int)), none] H' (F i) := ev_ixR (ev_var rfl) (ev_var rfl) (e1 _ _ ha) (by rw [fV_at, if_pos hi2])
      have c2 : Ev (tOp (rIxL K) (tVar 1) (tVar 2)) [some (.ref a), some (.ref b), some (.int (i : Int)), none] H' (G i) := ev_ixR (ev_var rfl) (ev_var rfl) (e1 _ _ hb) (by rw [fV_at, if_pos hi2])
      refine s_when (b := !decide (F i = G i)) (et_test (ev_op (r := rNe) c1 c2 (rv_ne (nx_scal n1 n2)))) (fun hb1 H2 e2 => ?_) fun hb1 H2 e2 => ?_
      · have hne : F i ≠ G i := fun z => by rw [decide_eq_true z] at hb1; cases hb1
        rw [ptg_some hj hi2 hne] at k
        have z := el_lcU (K := K) (xs := pows.map fun (p : Nat) => V.int (p : Int)) (tl := tTup (tCons (tC (.int 512)) (tCons (tC (.int 256)) (tCons (tC (.int 128)) (tCons (tC (.int 64)) (tCons (tC (.int 32)) (tCons (tC (.int 16)) (tCons (tC (.int 8)) (tCons (tC (.int 4)) (tCons (tC (.int 2)) (tCons (tC (.int 1)) tNil))))))))))) (t := tYes) (te := tCB (fun xs H Q => ∃ i : Int, xs = [.int i] ∧ i.natAbs.log2 < 1920 ∧ Q (.str (toString i)) H) (tCons (tOp (rI (fun _ j => 0 < j) fun i j => .int (i % j)) (tOp (rI CDiv fun i j => .int (i / j)) (tVar 2) (tVar 3)) (tC (.int 2))) tNil)) (j := 3) (vs := [3]) (σ := [some (.ref a), some (.ref b), some (.int (i : Int)), none]) (H := H2)
          (fun _ => true) (fun j => V.str (T [48 + i / (pows.getD j 1) % 2])) (es_tup (ea_cons ev_c (ea_cons ev_c (ea_cons ev_c (ea_cons ev_c (ea_cons ev_c (ea_cons ev_c (ea_cons ev_c (ea_cons ev_c (ea_cons ev_c (ea_cons ev_c ea_nil)))))))))) (by decide)) (by decide) (fun x => rfl) (fun j x H4 e4 hx => et_yes) (fun j x H4 e4 hx _ => by
            rw [List.getElem?_map] at hx
            cases hp : pows[j]? with
            | none => rw [hp] at hx; cases hx
            | some q =>
              rw [hp] at hx
              obtain rfl := (Option.some.inj hx).symm
              have hq : 0 < q ∧ q ≤ 512 := by
                have hm := List.mem_of_getElem? hp
                unfold pows at hm
                simp only [List.mem_cons, List.not_mem_nil, or_false] at hm
                omega
              rw [show pows.getD j 1 = q by rw [List.getD_eq_getElem?_getD, hp]; rfl]
              have d1 := ev_op (r := rI CDiv fun i j => .int (i / j)) (σ := (wipe [some (.ref a), some (.ref b), some (.int (i : Int)), none] [3]).set 3 (some (V.int (q : Int)))) (H := H4) (ta := tVar 2) (tb := tVar 3) (ev_var (v := .int (i : Int)) rfl) (ev_var (v := .int (q : Int)) rfl) (rv_I ⟨by omega, by omega⟩)
              have d2 := ev_op (r := rI (fun _ j => 0 < j) fun i j => .int (i % j)) d1 (ev_c (v := .int 2)) (rv_I (by decide))
              have eq : ((i : Int) / (q : Int)) % 2 = ((i / q % 2 : Nat) : Int) := by omega
              rw [eq] at d2
              intro H5 e5 Q5 q5
              refine cb1 (d2 H5 e5 _ fun H6 e6 => ⟨((i / q % 2 : Nat) : Int), rfl, ?_, ?_⟩)
              · rw [Int.natAbs_natCast]
                have : i / q % 2 = 0 ∨ i / q % 2 = 1 := by omega
                rcases this with e | e <;> rw [e] <;> decide
              · rw [t_bit _ (by omega)]
                exact q5 H6 e6)
        rw [given_yesAll] at z
        have el : (List.range (pows.map fun (p : Nat) => V.int (p : Int)).length).map (fun j => V.str (T [48 + i / (pows.getD j 1) % 2])) = ((bN 10 i).map fun c => T [c]).map V.str := by
          rw [bN_pows, List.map_map, List.map_map]
          rfl
        rw [el] at z
        have jn : Ev (tM1 (fun x xs H Q => ∃ a p, ∃ ys : List Str, x = .str a ∧ xs = [.ref p] ∧ (SqL K H p (ys.map V.str) ∨ SqT K H p (ys.map V.str)) ∧ (ys.map (·.length)).sum + ys.length * a.length ≤ 16777216 ∧ Q (.str (Txt.join a ys)) H) (tC (.str ""))
            (tLc (iTup K (tTup (tCons (tC (.int 512)) (tCons (tC (.int 256)) (tCons (tC (.int 128)) (tCons (tC (.int 64)) (tCons (tC (.int 32)) (tCons (tC (.int 16)) (tCons (tC (.int 8)) (tCons (tC (.int 4)) (tCons (tC (.int 2)) (tCons (tC (.int 1)) tNil)))))))))))) (gName 3) tYes (tCB (fun xs H Q => ∃ i : Int, xs = [.int i] ∧ i.natAbs.log2 < 1920 ∧ Q (.str (toString i)) H) (tCons (tOp (rI (fun _ j => 0 < j) fun i j => .int (i % j)) (tOp (rI CDiv fun i j => .int (i / j)) (tVar 2) (tVar 3)) (tC (.int 2))) tNil)) [3])) [some (.ref a), some (.ref b), some (.int (i : Int)), none] H2 (.str (T (bN 10 i))) := fun H3 e3 Q3 q3 => by
          refine ⟨⟨_, rfl⟩, ?_⟩
          refine z H3 e3 _ fun L H4 nL e4 h4 => ⟨_, L, (bN 10 i).map fun c => T [c], rfl, rfl, .inl (sq_of h4), ?_, ?_⟩
          · rw [sum_ones, t_empty, bN_len, List.length_map, bN_len]
            decide
          · rw [t_empty, join_bits]
            exact q3 H4 e4
        exact s_ret jn fun H3 e3 => k H3 ((e1.trans e2).trans e3)
      · have heq : F i = G i := by
          cases c : decide (F i = G i) with
          | true => exact of_decide_eq_true c
          | false => rw [c] at hb1; cases hb1
        refine ⟨_, rfl, e1.trans e2, fun j hjj => ?_⟩
        by_cases c : j = i
        · rw [c]; exact heq
        · exact hj j (by omega)
    · obtain ⟨o2, rfl, e1, hj⟩ := hp
      refine s_ret (v := .non) ev_c fun H3 e3 => ?_
      rw [ptg_none hj] at k
      exact k H3 (e1.trans e3)
end
end Wk

set_option Elab.async false
set_option linter.all false
set_option maxRecDepth 100000
set_option maxHeartbeats 4000000
namespace Wk
open PySem PySem.Spec PyProof.Rows L2 Evl
/-! rows less one, more one -/
theorem EsOk.sub {es l : List Row} {m : Nat} (s : l.Sublist es) (h : EsOk es m) : EsOk l m := ⟨(s.map (·.1)).nodup h.nd, Nat.le_trans s.length_le h.len, fun e he => h.it e (s.subset he)⟩
theorem less_sub (es : List Row) (i : Nat) : (es.take i ++ es.drop (i + 1)).Sublist es := by
  rw [← List.eraseIdx_eq_take_drop_succ]
  exact List.eraseIdx_sublist es i
theorem EsOk.snoc {es : List Row} {m : Nat} {l : List Nat} {v : V} (h : EsOk es m) (hk : l ∉ es.map (·.1)) (h1 : IsB l) (h2 : l.length ≤ 10) (h3 : NxV v) : EsOk (es ++ [(l, v)]) (m + 1) :=
  ⟨by
    rw [List.map_append, List.nodup_append]
    refine ⟨h.nd, by simp, fun a ha b hb z => ?_⟩
    have hb : b = l := List.mem_singleton.mp hb
    rw [z, hb] at ha
    exact hk ha, by rw [List.length_append]; have := h.len; simp; omega, fun e he => (List.mem_append.mp he).elim (h.it e) fun z => by rw [List.mem_singleton.mp z]; exact ⟨h1, h2, h3⟩⟩
theorem EsT.app {H : Hp} : ∀ {us vs : List V} {es fs : List Row}, EsT H us es → EsT H vs fs → EsT H (us ++ vs) (es ++ fs)
  | _, _, _, _, .nil, k => k
  | _, _, _, _, .cons h t, k => .cons h (t.app k)
theorem EsT.take {H : Hp} : ∀ {us : List V} {es : List Row} (n : Nat), EsT H us es → EsT H (us.take n) (es.take n)
  | _, _, 0, _ => by rw [List.take_zero, List.take_zero]; exact .nil
  | _, _, n + 1, .nil => .nil
  | _, _, n + 1, .cons h t => .cons h (t.take n)
theorem EsT.drop {H : Hp} : ∀ {us : List V} {es : List Row} (n : Nat), EsT H us es → EsT H (us.drop n) (es.drop n)
  | _, _, 0, h => h
  | _, _, n + 1, .nil => .nil
  | _, _, n + 1, .cons h t => t.drop n
theorem EsT.updL {H : Hp} {D : Addr} {xs : List V} {o : HO} (hD : H D = some (.lst xs)) : ∀ {us : List V} {es : List Row}, EsT H us es → EsT (upd H D o) us es
  | _, _, .nil => .nil
  | _, _, .cons (b := b) h t => .cons (by rw [upd_ne (fun z => by rw [z, hD] at h; cases h)]; exact h) (t.updL hD)
def txV (rs : List (List Nat)) : List V := rs.map fun l => .str (T l)
theorem inV_tx {x : List Nat} {rs : List (List Nat)} : inV (.str (T x)) (txV rs) = decide (x ∈ rs) := by
  unfold inV txV
  rw [List.any_map]
  by_cases c : x ∈ rs
  · rw [decide_eq_true c, List.any_eq_true]
    exact ⟨x, c, by simp [eqV]⟩
  · rw [decide_eq_false c, List.any_eq_false]
    intro y hy z
    have z2 : (T y == T x) = true := z
    have z3 : y = x := T_inj (by simpa using z2)
    exact c (z3 ▸ hy)
theorem tx_flat (rs : List (List Nat)) : (txV rs).all flatV = true := by
  unfold txV
  rw [List.all_map, List.all_eq_true]
  intro x _
  rfl
theorem cut_fromA (xs : List V) (i : Nat) : cutV xs (some (i : Int)) none = xs.drop i := by
  by_cases h : i ≤ xs.length
  · exact cut_from xs i h
  · rw [List.drop_of_length_le (by omega)]
    unfold cutV
    rw [HT.sIx_nat, Nat.min_eq_right (by omega), List.drop_of_length_le (Nat.le_refl _), List.take_nil]
section
variable {P : Program} {w : World} {K : PySem.W.Frag} {mg : Str → Option Value} {base : Heap} {f : Addr} {fd : FuncData}
theorem op_notInK {X : Cx} {K : PySem.W.Frag} (hK : X.K = K) : OpR X (compareOp .NotIn) (rIn K true) := by
  subst hK
  exact op_notIn_seq
theorem ix_tupK {X : Cx} {K : PySem.W.Frag} (hK : X.K = K) : IxR X (rIxT K) := by
  subst hK
  exact ix_tup
/-- a for over a text -/
theorem q_forS {l : List Nat} {tl : TE} {tu tz : TS} {D : Ends} {σ : L2.St} {H : Hp} {j : Nat} (h : Ev tl σ H (.str (T l))) (Pv : Nat → L2.St → Hp → Prop) (h0 : ∀ H1, Ex H H1 → Pv 0 σ H1)
    (hs : ∀ i c σ' H', l[i]? = some c → Pv i σ' H' → tu { D with nx := Pv (i + 1), ct := Pv (i + 1), bk := tz D } (σ'.set j (some (.str (T [c])))) H') (hd : ∀ σ' H', Pv l.length σ' H' → tz D σ' H') : tSeq (tFor (iStr tl) (gName j) tu) tz D σ H := by
  have hsz : (T l).cps.size = l.length := by simp [T]
  have w := walk_str (z := T l)
  rw [hsz] at w
  refine h H (Ex.refl _) _ fun H1 e1 => ⟨T l, rfl, for_it (D := { D with nx := tz D }) w Pv (h0 H1 e1) (fun _ _ _ _ _ => trivial) (fun i x σ' H' H2 hi hp y => ?_) hd⟩
  obtain ⟨rfl, c, hc, rfl⟩ := y
  exact hs i c σ' H2 (by simpa [T] using hc) hp
/-- [item[0] for item in rows] -/
theorem el_keys {σ : L2.St} {H : Hp} {tl : TE} {a : Addr} {us : List V} {es : List Row} {j : Nat} {vs : List Nat} (h : Ev tl σ H (.ref a)) (ha : H a = some (.lst us)) (hus : EsT H us es) (hn : us.length ≤ 100) (hw : ∀ x, wipe ((wipe σ vs).set j (some x)) vs = wipe σ vs) (h1 : ∀ x, ((wipe σ vs).set j (some x))[j]? = some (some x)) :
    EvL (tLc (iList K tl) (gName j) tYes (tOp (rIxT K) (tVar j) (tC (.int 0))) vs) σ H (txV (es.map (·.1))) := by
  have hul := hus.length
  have z := el_lcL (K := K) (a := a) (xs := us) (tl := tl) (t := tYes) (te := tOp (rIxT K) (tVar j) (tC (.int 0))) (j := j) (vs := vs) (σ := σ) (H := H) (fun _ => true) (fun i => V.str (T ((es.map (·.1)).getD i []))) h (sq_of ha) (by omega) hw (fun i x H2 e2 hx => et_yes) (fun i x H2 e2 hx _ => by
    obtain ⟨b, e, rfl, he, hb⟩ := hus.at_ hx
    have e1 : (es.map (·.1)).getD i [] = e.1 := by rw [List.getD_eq_getElem?_getD, List.getElem?_map, he]; rfl
    rw [e1]
    exact ev_op (ev_var (h1 _)) ev_c (rv_ixT (st_of (e2 _ _ hb)) (atI_nat (j := 0) rfl)))
  rw [given_yesAll] at z
  have e : (List.range us.length).map (fun i => V.str (T ((es.map (·.1)).getD i []))) = txV (es.map (·.1)) := by
    unfold txV
    rw [hul]
    apply List.ext_getElem
    · simp
    · intro i h1 h2
      have h3 : i < es.length := by simpa using h1
      simp [List.getD_eq_getElem?_getD, List.getElem?_eq_getElem h3]
  rw [e] at z
  exact z
/-! _law_halves -/
def spHv : Sp := fun vs H Q _ => ∃ (a : Addr) (us : List V) (es : List Row) (pl : Nat), vs = [.ref a, .int (pl : Int)] ∧ H a = some (.lst us) ∧ EsT H us es ∧ EsOk es 22 ∧ pl < es.length ∧
  ∀ H' L us' es', H L = none → Ex H H' → H' L = some (.lst us') → EsT H' us' es' → EsOk es' 24 → Q (.ref L) H'
abbrev sHv : Stmt := top 33
abbrev nHv : List Str := ["_law_entries_here", "_law_place", "_law_bits_here", "_law_there", "_law_known", "_law_row", "_law_sign", "_law_item"]
theorem scHv : FnScope nHv ["_law_entries_here", "_law_place"] (defScope sHv) := ⟨rfl, rfl, rfl, by decide +kernel, rfl, by decide +kernel, by decide +kernel⟩
theorem ok_hv (B : Bl mg) (F : FnP K "_law_halves" sHv f fd) : FnOk P w K mg base CX0 1 f fd ["_law_entries_here", "_law_place"] spHv := by
  refine F.ok scHv (fun vs H Q E h => ?_) (fun cdv A outer s H vs Q E hr h => ?_)
  · obtain ⟨a, us, es, pl, rfl, _⟩ := h
    rfl
  · obtain ⟨a, us, es, pl, rfl, ha, hus, hes, hpl, k⟩ := h
    refine ⟨_, pss_cons (ps_set (i := 2) scHv.nd rfl (Or.inl rfl) (pe_ix (ix_tupK (K := K) rfl) (pe_ix (ix_listK (K := K) rfl) (pv 0) (pv 1) (fun _ _ => rfl)) pe_int (fun _ _ => rfl)))
      (pss_cons (ps_set (i := 3) scHv.nd rfl (Or.inl rfl) (pe_ix (ix_tupK (K := K) rfl) (pe_ix (ix_listK (K := K) rfl) (pv 0) (pv 1) (fun _ _ => rfl)) pe_int (fun _ _ => rfl)))
      (pss_cons (ps_setLc (i := 4) (own := [("_law_item", 7)]) (g := gName 7) (tt := tYes) rfl scHv.nd rfl rfl (sw_true rfl rfl rfl (by decide +kernel)) (pi_list (pv 0)) (blkOk_by (N := nHv) (sc := defScope sHv) (by decide +kernel))
        (fun _ _ _ _ _ => pg_name (i := 7) scHv.nd rfl (Or.inl rfl)) (fun _ _ _ _ _ => pts_nil) (fun _ _ _ _ _ => pe_ix (ix_tupK (K := K) rfl) (pv 7) pe_int (fun _ _ => rfl)))
      (pss_cons (ps_if (pt_cmpR op_eq (pe_callB call_len_str (by rfl) B.len PySem.boot_len (pa_cons (pv 2) pa_nil)) pe_int (nomark _)) (pss_one (ps_ret (pe_callTy (call_listK2 (K := K) rfl) (by rfl) B.list PyProof.Rows.boot_list (pa_cons (pv 0) pa_nil)))) pss_nil)
      (pss_cons (ps_set (i := 5) scHv.nd rfl (Or.inl rfl) (pe_op op_cat (pe_slice sl_list (pv 0) po_none (po_some (pv 1))) (pe_slice sl_list (pv 0) (po_some (pe_op op_add (pv 1) pe_int)) po_none)))
      (pss_cons (ps_for (passes_of rfl) rfl (pi_str pe_str) (pg_name (i := 6) scHv.nd rfl (.inl rfl))
        (pss_one (ps_if (pt_cmpR (op_notInK (K := K) rfl) (pe_op op_add_str (pv 2) (pv 6)) (pv 4) rfl)
          (pss_one (ps_expr (pe_bm PySem.F.plainAttrs_list PySem.F.slot_list_append PySem.F.type_list_append mt_append (pv 5) (pa_cons (pe_tup (pa_cons (pe_op op_add_str (pv 2) (pv 6)) (pa_cons (pv 3) pa_nil))) pa_nil)))) pss_nil)))
      (pss_one (ps_ret (pv 5)))))))), ?_⟩
    have hul := hus.length
    have hel := hes.len
    obtain ⟨e, he⟩ : ∃ e, es[pl]? = some e := ⟨_, List.getElem?_eq_getElem hpl⟩
    have hplu : pl < us.length := by omega
    obtain ⟨b, e', hbu, he', hb⟩ := hus.at_ (List.getElem?_eq_getElem hplu)
    obtain rfl : e' = e := Option.some.inj (he'.symm.trans he)
    have hpu : us[pl]? = some (.ref b) := by rw [List.getElem?_eq_getElem hplu, hbu]
    obtain ⟨hB, hl10, hnx⟩ := hes.it e' (List.mem_of_getElem? he)
    have i0 : ∀ {H1 : Hp} {σ : L2.St}, σ[0]? = some (some (.ref a)) → σ[1]? = some (some (.int (pl : Int))) → Ex H H1 → Ev (tOp (rIxT K) (tOp (rIxL K) (tVar 0) (tVar 1)) (tC (.int 0))) σ H1 (.str (T e'.1)) := fun h0 h1 e => ev_op (ev_ixR (ev_var h0) (ev_var h1) (e _ _ ha) hpu) ev_c (rv_ixT (st_of (e _ _ hb)) (atI_nat (j := 0) rfl))
    have i1 : ∀ {H1 : Hp} {σ : L2.St}, σ[0]? = some (some (.ref a)) → σ[1]? = some (some (.int (pl : Int))) → Ex H H1 → Ev (tOp (rIxT K) (tOp (rIxL K) (tVar 0) (tVar 1)) (tC (.int 1))) σ H1 e'.2 := fun h0 h1 e => ev_op (ev_ixR (ev_var h0) (ev_var h1) (e _ _ ha) hpu) ev_c (rv_ixT (st_of (e _ _ hb)) (atI_nat (j := 1) rfl))
    refine q_asg (i0 rfl rfl (Ex.refl H)) fun H1 e1 => ?_
    change tSeq (tAsg _ _) _ _ [some (.ref a), some (.int (pl : Int)), some (.str (T e'.1)), none, none, none, none, none] H1
    refine q_asg (i1 rfl rfl e1) fun H2 e2 => ?_
    change tSeq (tAsg _ _) _ _ [some (.ref a), some (.int (pl : Int)), some (.str (T e'.1)), some e'.2, none, none, none, none] H2
    have e02 := e1.trans e2
    refine q_asgL (el_keys (K := K) (j := 7) (vs := [7]) (σ := [some (.ref a), some (.int (pl : Int)), some (.str (T e'.1)), some e'.2, none, none, none, none]) (ev_var rfl) (e02 _ _ ha) (hus.mono e02) (by omega) (fun _ => rfl) (fun _ => rfl)) fun kn H3 nkn e3 hkn => ?_
    change tSeq (tIfS _ _ _) _ _ [some (.ref a), some (.int (pl : Int)), some (.str (T e'.1)), some e'.2, some (.ref kn), none, none, none] H3
    have e03 := e02.trans e3
    refine q_when (b := decide (V.int (e'.1.length : Int) = V.int 10)) (et_test (ev_op (r := rEq) (ev_lenS (ev_var rfl) (by omega)) ev_c (rv_eq rfl))) (fun hb1 H4 e4 => ?_) fun hb1 H4 e4 => ?_
    · have e04 := e03.trans e4
      exact ⟨.ref a, rfl, a, us, rfl, .inl (sq_of (e04 _ _ ha)), fun L hL => k _ L us es (fresh_back e04 hL) (e04.trans (Ex.new hL)) upd_same (hus.mono (e04.trans (Ex.new hL))) (hes.le (by decide))⟩
    · have hlt : e'.1.length < 10 := by
        have : e'.1.length ≠ 10 := fun z => by
          have hz : decide (V.int (e'.1.length : Int) = V.int 10) = true := by rw [z]; exact decide_eq_true rfl
          rw [hz] at hb1
          cases hb1
        omega
      have e04 := e03.trans e4
      refine q_asgW ?_
      have s1 := el_sl (K := K) (te := tVar 0) (tl := tNoPart) (th := tPart (tVar 1)) (σ := [some (.ref a), some (.int (pl : Int)), some (.str (T e'.1)), some e'.2, some (.ref kn), none, none, none]) (H := H4) (ev_var rfl) eo_none (eo_some (i := (pl : Int)) (ev_var rfl)) (sq_of (e04 _ _ ha))
      rw [cut_to _ _ (by omega)] at s1
      refine s1 H4 (Ex.refl _) _ fun p5 H5 n5 e5 h5 => ?_
      have s2 := el_sl (K := K) (te := tVar 0) (tl := tPart (tOp (rI0 fun i j => .int (i + j)) (tVar 1) (tC (.int 1)))) (th := tNoPart) (σ := [some (.ref a), some (.int (pl : Int)), some (.str (T e'.1)), some e'.2, some (.ref kn), none, none, none]) (H := H5) (ev_var rfl) (eo_some (ev_op (r := rI0 fun i j => .int (i + j)) (ev_var (v := .int (pl : Int)) rfl) (ev_c (v := .int 1)) rv_I0)) eo_none (sq_of ((e04.trans e5) _ _ ha))
      rw [show ((pl : Int) + 1) = ((pl + 1 : Nat) : Int) by omega, cut_fromA] at s2
      refine s2 H5 (Ex.refl _) _ fun p6 H6 n6 e6 h6 => ?_
      refine ⟨p5, p6, _, _, rfl, rfl, e6 _ _ h5, h6, by rw [List.length_take, List.length_drop, sizeLine_eq]; omega, fun D hD => ?_⟩
      have e06 := (e04.trans e5).trans e6
      have e7 := Ex.new (o := .lst (us.take pl ++ us.drop (pl + 1))) hD
      have h7 : (upd H6 D (.lst (us.take pl ++ us.drop (pl + 1)))) D = some (.lst (us.take pl ++ us.drop (pl + 1))) := upd_same
      have nD := fresh_back e06 hD
      have hkn7 := e7 _ _ (e6 _ _ (e5 _ _ (e4 _ _ hkn)))
      generalize upd H6 D (.lst (us.take pl ++ us.drop (pl + 1))) = H7 at *
      have e07 := e06.trans e7
      have hes7 := (hus.mono e07)
      have ok7 : EsOk (es.take pl ++ es.drop (pl + 1)) 22 := hes.sub (less_sub es pl)
      have hnkD : kn ≠ D := fun z => by
        have := (e4.trans (e5.trans e6)) _ _ hkn
        rw [z, hD] at this
        cases this
      change tSeq (tFor _ _ _) _ _ [some (.ref a), some (.int (pl : Int)), some (.str (T e'.1)), some e'.2, some (.ref kn), some (.ref D), none, none] H7
      have lit : Str.ofString "10" = T [49, 48] := by decide +kernel
      refine q_forS (l := [49, 48]) (ev_is ev_c (congrArg V.str lit)) (fun i σ' H' => ∃ (us2 : List V) (es2 : List Row) (o6 : Option V), σ' = [some (.ref a), some (.int (pl : Int)), some (.str (T e'.1)), some e'.2, some (.ref kn), some (.ref D), o6, none] ∧ Ex H H' ∧ H' D = some (.lst us2) ∧ H' kn = some (.lst (txV (es.map (·.1)))) ∧ EsT H' us2 es2 ∧ EsOk es2 (22 + i) ∧ ∀ x ∈ es2, x.1 ∈ es.map (·.1) ∨ (1 ≤ i ∧ x.1 = e'.1 ++ [49]) ∨ 2 ≤ i) (fun H8 e8 => ⟨_, _, _, rfl, e07.trans e8, e8 _ _ h7, e8 _ _ hkn7, (hes7.take pl |>.app (hes7.drop (pl + 1))).mono e8, ok7, fun x hx => .inl (List.mem_map.mpr ⟨x, (less_sub es pl).subset hx, rfl⟩)⟩) (fun i c σ' H' hc hp => ?_) (fun σ' H' hp => ?_)
      · obtain ⟨us2, es2, o6, rfl, x1, hD1, hk1, ht1, ok1, hkeys⟩ := hp
        have hi : i < 2 := (List.getElem?_eq_some_iff.mp hc).1
        have hl2 := ok1.len
        have hul2 := ht1.length
        have hcc : c = 48 ∨ c = 49 := by
          have := List.mem_of_getElem? hc
          simp at this
          omega
        change tIfS _ _ _ _ [some (.ref a), some (.int (pl : Int)), some (.str (T e'.1)), some e'.2, some (.ref kn), some (.ref D), some (.str (T [c])), none] H'
        have ad : ∀ {Hx : Hp}, Ev (tOp rAddS (tVar 2) (tVar 6)) [some (.ref a), some (.int (pl : Int)), some (.str (T e'.1)), some e'.2, some (.ref kn), some (.ref D), some (.str (T [c])), none] Hx (.str (T (e'.1 ++ [c]))) := ev_addS (ev_var rfl) (ev_var rfl) (by simp; omega)
        have t1 := ev_op (r := rIn K true) (ad (Hx := H')) (ev_var (i := 4) (v := .ref kn) rfl) (rv_niL (sq_of hk1) rfl (tx_flat _))
        rw [inV_tx] at t1
        refine s_when (b := !decide (e'.1 ++ [c] ∈ es.map (·.1))) (et_test t1) (fun hb2 H8 e8 => ?_) fun _ H8 e8 => ?_
        · have hnk : e'.1 ++ [c] ∉ es.map (·.1) := fun z => by rw [decide_eq_true z] at hb2; cases hb2
          refine s_appU (l := D) (xs := us2) (ys := [.str (T (e'.1 ++ [c])), e'.2]) (e8 _ _ hD1) (ev_var rfl) (eu_tup (ea_cons ad (ea_cons (ev_var rfl) ea_nil)) (by show 2 ≤ 100000; decide)) (by omega) fun q H9 nq e9 hq => ?_
          have hD9 := (e8.trans e9) _ _ hD1
          have hqD : q ≠ D := fun z => by rw [z, hD9] at hq; cases hq
          refine ⟨us2 ++ [.ref q], es2 ++ [(e'.1 ++ [c], e'.2)], _, rfl, Ex.mut ((x1.trans e8).trans e9) nD, upd_same, by rw [upd_ne hnkD]; exact (e8.trans e9) _ _ hk1, ((ht1.mono (e8.trans e9)).updL hD9).app (.cons (by rw [upd_ne hqD]; exact hq) .nil), ?_, fun x hx => ?_⟩
          · refine ok1.snoc (fun hm => ?_) (hB.app fun y hy => by rw [List.mem_singleton.mp hy]; exact hcc) (by simp; omega) hnx
            obtain ⟨x, hx, hxe⟩ := List.mem_map.mp hm
            have hxe : x.1 = e'.1 ++ [c] := hxe
            rcases hkeys x hx with z | ⟨z1, z2⟩ | z
            · rw [hxe] at z
              exact hnk z
            · have hi1 : i = 1 := by omega
              subst hi1
              have hc48 : c = 48 := (Option.some.inj hc).symm
              rw [hxe, hc48] at z2
              have := List.append_cancel_left z2
              cases this
            · omega
          · rcases List.mem_append.mp hx with z | z
            · rcases hkeys x z with y | ⟨y1, y2⟩ | y
              · exact .inl y
              · exact .inr (.inl ⟨by omega, y2⟩)
              · exact .inr (.inr (by omega))
            · rw [List.mem_singleton.mp z]
              have : i = 0 ∨ i = 1 := by omega
              rcases this with rfl | rfl
              · have hc49 : c = 49 := (Option.some.inj hc).symm
                exact .inr (.inl ⟨by omega, by rw [hc49]⟩)
              · exact .inr (.inr (by omega))
        · refine ⟨us2, es2, _, rfl, x1.trans e8, e8 _ _ hD1, e8 _ _ hk1, ht1.mono e8, ok1.le (by omega), fun x hx => ?_⟩
          rcases hkeys x hx with y | ⟨y1, y2⟩ | y
          · exact .inl y
          · exact .inr (.inl ⟨by omega, y2⟩)
          · exact .inr (.inr (by omega))
      · obtain ⟨us2, es2, o6, rfl, x1, hD1, hk1, ht1, ok1, _⟩ := hp
        exact s_ret (v := .ref D) (ev_var rfl) fun H9 e9 => k H9 D us2 es2 nD (x1.trans e9) (e9 _ _ hD1) (ht1.mono e9) ok1
end
end Wk

set_option Elab.async false
set_option linter.all false
set_option maxRecDepth 100000
set_option maxHeartbeats 4000000
namespace Wk
open PySem PySem.Spec PyProof.Rows L2 Evl
section
variable {P : Program} {w : World} {K : PySem.W.Frag} {mg : Str → Option Value} {base : Heap} {f : Addr} {fd : FuncData}
/-- a call of _law_bits -/
theorem ep_callBits2 {p g c : Addr} {G : Hp} {σ : L2.St} {i : Nat} {te : TE} {m : Nat} {E : XK} (hp : σ[i]? = some (some (.ref p))) (hz : Ev te σ G (.int (m : Int))) (hm : m ≤ 10) :
    EvP p g c G (tCall spBits [] E (tCons (tVar i) (tCons te tNil))) σ (fun v => ∃ l, v = .str (T l) ∧ IsB l ∧ l.length ≤ m) := fun H hP Q k =>
  ⟨.ref p, hp, hz H hP.ex _ fun H1 e1 => ⟨G, p, g, c, m, rfl, hP.ext e1, hm, fun H' l g1 h1 h2 => k H' _ ((Gq.ext hP e1).trans g1) ⟨l, rfl, h1, h2⟩⟩⟩
/-- [item for item in rows if item[0] != x] -/
theorem el_other {σ : L2.St} {H : Hp} {tl : TE} {a : Addr} {us : List V} {es : List Row} {j n : Nat} {vs : List Nat} {x : List Nat} {Q : VK} (h : Ev tl σ H (.ref a)) (ha : H a = some (.lst us)) (hus : EsT H us es) (hn : us.length ≤ 100) (hw : ∀ x, wipe ((wipe σ vs).set j (some x)) vs = wipe σ vs) (h1 : ∀ x, ((wipe σ vs).set j (some x))[j]? = some (some x)) (h2 : ∀ y, ((wipe σ vs).set j (some y))[n]? = some (some (.str (T x))))
    (k : ∀ H' D us', H D = none → Ex H H' → H' D = some (.lst us') → EsT H' us' (es.filter fun e => !decide (e.1 = x)) → Q (.ref D) H') :
    tLc (iList K tl) (gName j) (tTest (tOp rNe (tOp (rIxT K) (tVar j) (tC (.int 0))) (tVar n))) (tVar j) vs σ H Q := by
  refine h H (Ex.refl _) _ fun H1 e1 => ⟨a, rfl, ⟨us, sq_of (e1 _ _ ha)⟩, fun D hD => ?_⟩
  refine lc_it (walk_list (K := K) (a := a) (xs := us)) (fun i H' => Ex H1 H' ∧ ∃ us', H' D = some (.lst us') ∧ EsT H' us' ((es.take i).filter fun e => !decide (e.1 = x)) ∧ us'.length ≤ i) ⟨Ex.new hD, [], upd_same, by rw [List.take_zero]; exact .nil, Nat.le_refl _⟩ (fun i H' _ p => sq_of (p.1 _ _ (e1 _ _ ha))) (fun i y H' H2 hi p hy => ?_) (fun H' p => ?_)
  · obtain ⟨rfl, hy⟩ := hy
    obtain ⟨x1, us', hD', ht, hln⟩ := p
    obtain ⟨b, e, rfl, he, hb⟩ := hus.at_ hy
    have hb2 := x1 _ _ (e1 _ _ hb)
    refine ⟨hw _, ?_⟩
    have c1 : Ev (tOp rNe (tOp (rIxT K) (tVar j) (tC (.int 0))) (tVar n)) ((wipe σ vs).set j (some (.ref b))) H2 (.bl (!decide (V.str (T e.1) = V.str (T x)))) := ev_op (r := rNe) (ev_op (ev_var (h1 _)) ev_c (rv_ixT (st_of hb2) (atI_nat (j := 0) rfl))) (ev_var (h2 _)) (rv_ne rfl)
    refine (et_test c1) H2 (Ex.refl _) _ fun H3 e3 => ?_
    have ee : decide (V.str (T e.1) = V.str (T x)) = decide (e.1 = x) := decide_eq_decide.mpr ⟨fun z => T_inj (by injection z), fun z => by rw [z]⟩
    rw [ee, take_snoc he, List.filter_append]
    by_cases c : e.1 = x
    · rw [decide_eq_true c, if_neg (by decide)]
      have ef : [e].filter (fun e => !decide (e.1 = x)) = [] := by simp [c]
      rw [ef, List.append_nil]
      exact ⟨x1.trans e3, us', e3 _ _ hD', ht.mono e3, by omega⟩
    · rw [decide_eq_false c, if_pos (by rfl)]
      have ef : [e].filter (fun e => !decide (e.1 = x)) = [e] := by simp [c]
      rw [ef]
      refine ⟨_, h1 _, us', e3 _ _ hD', sz_lt (by omega), Ex.mut (x1.trans e3) hD, _, upd_same, ?_, by rw [List.length_append]; simp; omega⟩
      have hbD : b ≠ D := fun z => by rw [z, hD'] at hb2; cases hb2
      exact ((ht.mono e3).updL (e3 _ _ hD')).app (.cons (by rw [upd_ne hbD]; exact e3 _ _ hb2) .nil)
  · obtain ⟨x1, us', hD', ht, _⟩ := p
    rw [hus.length, List.take_of_length_le (Nat.le_refl _)] at ht
    exact k H' D us' (fresh_back e1 hD) (e1.trans x1) hD' ht
theorem filt_ok {es : List Row} {m : Nat} {x : List Nat} (h : EsOk es m) : EsOk (es.filter fun e => !decide (e.1 = x)) m ∧ x ∉ (es.filter fun e => !decide (e.1 = x)).map (·.1) :=
  ⟨h.sub List.filter_sublist, fun hm => by
    obtain ⟨e, he, hx⟩ := List.mem_map.mp hm
    have := (List.mem_filter.mp he).2
    have hx : e.1 = x := hx
    rw [decide_eq_true hx] at this
    cases this⟩
theorem EsT.rev {H : Hp} : ∀ {us : List V} {es : List Row}, EsT H us es → EsT H us.reverse es.reverse
  | _, _, .nil => .nil
  | _, _, .cons h t => by
    rw [List.reverse_cons, List.reverse_cons]
    exact t.rev.app (.cons h .nil)
theorem EsOk.rev {es : List Row} {m : Nat} (h : EsOk es m) : EsOk es.reverse m := ⟨by rw [List.map_reverse]; exact List.pairwise_reverse.mpr (List.Pairwise.imp (fun z => Ne.symm z) h.nd), by rw [List.length_reverse]; exact h.len, fun e he => h.it e (List.mem_reverse.mp he)⟩
theorem EsOk.turn {es : List Row} {i : Nat} {e : Row} {v : V} (h : EsOk es 22) (he : es[i]? = some e) (hv : NxV v) : EsOk (es.take i ++ [(e.1, v)] ++ es.drop (i + 1)) 24 := by
  have hil := (List.getElem?_eq_some_iff.mp he).1
  have e1 : es = es.take i ++ e :: es.drop (i + 1) := by
    rw [← (List.getElem?_eq_some_iff.mp he).2, ← List.drop_eq_getElem_cons hil, List.take_append_drop]
  have hk : (es.take i ++ [(e.1, v)] ++ es.drop (i + 1)).map (·.1) = es.map (·.1) := by
    conv => rhs; rw [e1]
    simp
  refine ⟨by rw [hk]; exact h.nd, ?_, fun x hx => ?_⟩
  · have := congrArg List.length hk
    rw [List.length_map, List.length_map] at this
    have := h.len
    omega
  · rcases List.mem_append.mp hx with z | z
    · rcases List.mem_append.mp z with y | y
      · exact h.it x (List.mem_of_mem_take y)
      · rw [List.mem_singleton.mp y]
        obtain ⟨a, b, _⟩ := h.it e (List.mem_of_getElem? he)
        exact ⟨a, b, hv⟩
    · exact h.it x (List.mem_of_mem_drop z)
/-! _law_other -/
def spOth : Sp := fun vs H Q _ => ∃ (G : Hp) (p g c a nl : Addr) (us nx : List V) (es : List Row), vs = [.ref p, .ref a, .ref nl] ∧ Pq G H p g c ∧ G a = some (.lst us) ∧ EsT G us es ∧ EsOk es 22 ∧ G nl = some (.lst nx) ∧ nx.length = 10 ∧ (∀ v ∈ nx, NxV v) ∧
  ∀ H' L us' es', Of2 p g H H' → H' L = some (.lst us') → EsT H' us' es' → EsOk es' 24 → Q (.ref L) H'
abbrev sOth : Stmt := top 34
abbrev nOth : List Str := ["_law_pool_here", "_law_entries_here", "_law_nexts", "_law_kind", "_law_bits_here", "_law_there", "_law_known", "_law_place", "_law_address", "_law_turned", "_law_item"]
theorem scOth : FnScope nOth ["_law_pool_here", "_law_entries_here", "_law_nexts"] (defScope sOth) := ⟨rfl, rfl, rfl, by decide +kernel, rfl, by decide +kernel, by decide +kernel⟩
theorem ok_oth (B : Bl mg) (C1 : Cal P w K mg base "_law_draw" ["_law_pool_here", "_law_many"] 1 spDrw) (C2 : Cal P w K mg base "_law_bits" ["_law_pool_here", "_law_most"] 2 spBits) (CE : Cal P w K mg base "_law_entries" ["_law_pool_here", "_law_many", "_law_nexts"] 3 spEnt) (CB : Cal P w K mg base "_law_before" ["_law_entries_here", "_law_bits_here"] 1 spBf) (CH : Cal P w K mg base "_law_halves" ["_law_entries_here", "_law_place"] 1 spHv)
    (F : FnP K "_law_other" sOth f fd) : FnOk P w K mg base CX0 4 f fd ["_law_pool_here", "_law_entries_here", "_law_nexts"] spOth := by
  refine F.ok scOth (fun vs H Q E h => ?_) (fun cdv A outer s H vs Q E hr h => ?_)
  · obtain ⟨G, p, g, c, a, nl, us, nx, es, rfl, _⟩ := h
    rfl
  · obtain ⟨G, p, g, c, a, nl, us, nx, es, rfl, hP, ha, hus, hes, hnl, hnx, hnxv, k⟩ := h
    refine ⟨_, pss_cons (ps_set (i := 3) scOth.nd rfl (Or.inl rfl) (pe_cal C1 hr (by rfl) (pa_cons (pv 0) (pa_cons pe_int pa_nil))))
      (pss_cons (ps_set (i := 4) scOth.nd rfl (Or.inl rfl) (pe_cal C2 hr (by rfl) (pa_cons (pv 0) (pa_cons pe_int pa_nil))))
      (pss_cons (ps_set (i := 5) scOth.nd rfl (Or.inl rfl) (pe_ix (ix_listK (K := K) rfl) (pv 2) (pe_cal C1 hr (by rfl) (pa_cons (pv 0) (pa_cons pe_int pa_nil))) (fun _ _ => rfl)))
      (pss_cons (ps_setLc (i := 6) (own := [("_law_item", 10)]) (g := gName 10) (tt := tYes) rfl scOth.nd rfl rfl (sw_true rfl rfl rfl (by decide +kernel)) (pi_list (pv 1)) (blkOk_by (N := nOth) (sc := defScope sOth) (by decide +kernel))
        (fun _ _ _ _ _ => pg_name (i := 10) scOth.nd rfl (Or.inl rfl)) (fun _ _ _ _ _ => pts_nil) (fun _ _ _ _ _ => pe_ix (ix_tupK (K := K) rfl) (pv 10) pe_int (fun _ _ => rfl)))
      (pss_cons (ps_set (i := 7) scOth.nd rfl (Or.inl rfl) (pe_cal C1 hr (by rfl) (pa_cons (pv 0) (pa_cons (pe_op op_add (pe_callB call_len_seq (by rfl) B.len PySem.boot_len (pa_cons (pv 1) pa_nil)) pe_int) pa_nil))))
      (pss_cons (ps_if (pt_cmpR op_eq (pv 3) pe_int (nomark _)) (pss_one (ps_ret (pe_cal CE hr (by rfl) (pa_cons (pv 0) (pa_cons (pe_cal C1 hr (by rfl) (pa_cons (pv 0) (pa_cons pe_int pa_nil))) (pa_cons (pv 2) pa_nil)))))) pss_nil)
      (pss_cons (ps_if (pt_cmpR op_eq (pv 3) pe_int (nomark _))
        (pss_cons (ps_set (i := 8) scOth.nd rfl (Or.inr rfl) (pe_slice sl_str (pe_op op_add_str (pv 4) pe_str) po_none (po_some pe_int)))
        (pss_one (ps_ret (pe_op op_cat (pe_lc (own := [("_law_item", 10)]) (g := gName 10) rfl scOth.nd (pi_list (pv 1)) (blkOk_by (N := nOth) (sc := defScope sOth) (by decide +kernel))
          (fun _ _ _ _ _ => pg_name (i := 10) scOth.nd rfl (Or.inl rfl)) (fun _ _ _ _ _ => pts_one (pt_cmpR op_ne (pe_ix (ix_tupK (K := K) rfl) (pv 10) pe_int (fun _ _ => rfl)) (pv 8) (nomark _))) (fun _ _ _ _ _ => pv 10))
          (pe_lst (pa_cons (pe_tup (pa_cons (pv 8) (pa_cons (pv 5) pa_nil))) pa_nil)))))) pss_nil)
      (pss_cons (ps_if (PW.pt (pw_and (pt_cmpR op_eq (pv 3) pe_int (nomark _)) (pw_and1 (pt_cmpR (op_notInK (K := K) rfl) (pv 4) (pv 6) rfl)))) (pss_one (ps_ret (pe_op op_cat (pv 1) (pe_lst (pa_cons (pe_tup (pa_cons (pv 4) (pa_cons (pe_cal CB hr (by rfl) (pa_cons (pv 1) (pa_cons (pv 4) pa_nil))) pa_nil))) pa_nil))))) pss_nil)
      (pss_cons (ps_if (PW.pt (pw_or (pt_cmpR op_eq (pv 7) (pe_callB call_len_seq (by rfl) B.len PySem.boot_len (pa_cons (pv 1) pa_nil)) (nomark _)) (pw_or1 (pt_cmpR op_eq (pv 3) pe_int (nomark _)))))
        (pss_cons (ps_set (i := 9) scOth.nd rfl (Or.inl rfl) (pe_callTy (call_listK2 (K := K) rfl) (by rfl) B.list PyProof.Rows.boot_list (pa_cons (pv 1) pa_nil)))
        (pss_cons (ps_expr (pe_bm0 PySem.F.plainAttrs_list PySem.F.slot_list_reverse PySem.F.type_list_reverse mt_reverse (pv 9)))
        (pss_one (ps_ret (pv 9))))) pss_nil)
      (pss_cons (ps_if (pt_cmpR op_eq (pv 3) pe_int (nomark _)) (pss_one (ps_ret (pe_op op_cat (pe_op op_cat (pe_slice sl_list (pv 1) po_none (po_some (pv 7))) (pe_lst (pa_cons (pe_tup (pa_cons (pe_ix (ix_tupK (K := K) rfl) (pe_ix (ix_listK (K := K) rfl) (pv 1) (pv 7) (fun _ _ => rfl)) pe_int (fun _ _ => rfl)) (pa_cons (pv 5) pa_nil))) pa_nil))) (pe_slice sl_list (pv 1) (po_some (pe_op op_add (pv 7) pe_int)) po_none)))) pss_nil)
      (pss_cons (ps_if (pt_cmpR op_eq (pv 3) pe_int (nomark _)) (pss_one (ps_ret (pe_op op_cat (pe_slice sl_list (pv 1) po_none (po_some (pv 7))) (pe_slice sl_list (pv 1) (po_some (pe_op op_add (pv 7) pe_int)) po_none)))) pss_nil)
      (pss_one (ps_ret (pe_cal CH hr (by rfl) (pa_cons (pv 1) (pa_cons (pv 7) pa_nil))))))))))))))), ?_⟩
    have hul := hus.length
    have hel := hes.len
    -- the draws
    refine q_asgW ?_
    refine ep_drw (g := g) (c := c) (G := G) (z := 7) rfl ev_c (by decide) (by decide) H hP _ fun H1 v g1 hv => ?_
    obtain ⟨kd, rfl, hk0, hk1⟩ := hv
    change tSeq (tAsg _ _) _ _ [some (.ref p), some (.ref a), some (.ref nl), some (.int (kd : Int)), none, none, none, none, none, none, none] H1
    refine q_asgW ?_
    refine ep_callBits2 (g := g) (c := c) (G := G) (m := 10) rfl ev_c (Nat.le_refl _) H1 g1.pl _ fun H2 v g2 hv => ?_
    obtain ⟨l, rfl, hB, hl⟩ := hv
    change tSeq (tAsg _ _) _ _ [some (.ref p), some (.ref a), some (.ref nl), some (.int (kd : Int)), some (.str (T l)), none, none, none, none, none, none] H2
    refine q_asgW ?_
    refine ⟨.ref nl, rfl, ep_drw (g := g) (c := c) (G := G) (z := 10) rfl ev_c (by decide) (by decide) H2 g2.pl _ fun H3 v g3 hv => ?_⟩
    obtain ⟨jz, rfl, hj0, hj1⟩ := hv
    obtain ⟨jn, rfl⟩ : ∃ jn : Nat, jz = (jn : Int) := ⟨jz.toNat, by omega⟩
    obtain ⟨th, hth⟩ : ∃ th, nx[jn]? = some th := ⟨_, List.getElem?_eq_getElem (by omega)⟩
    have hthn := hnxv th (List.mem_of_getElem? hth)
    refine ⟨nl, nx, (jn : Int), th, rfl, rfl, sq_of (g3.pl.ex _ _ hnl), atI_nat hth, ?_⟩
    change tSeq (tAsg _ _) _ _ [some (.ref p), some (.ref a), some (.ref nl), some (.int (kd : Int)), some (.str (T l)), some th, none, none, none, none, none] H3
    have g13 := (g1.trans g2).trans g3
    have hP3 := g13.pl
    refine q_asgL (el_keys (K := K) (j := 10) (vs := [10]) (σ := [some (.ref p), some (.ref a), some (.ref nl), some (.int (kd : Int)), some (.str (T l)), some th, none, none, none, none, none]) (ev_var rfl) (hP3.ex _ _ ha) (hus.mono hP3.ex) (by omega) (fun _ => rfl) (fun _ => rfl)) fun kn H4 nkn e4 hkn => ?_
    have gk := Gq.grow hP3 e4
    have hknG : (fun b => match H3 b with | none => H4 b | some _ => G b) kn = some (.lst (txV (es.map (·.1)))) := by
      dsimp only
      rw [nkn]
      exact hkn
    generalize (fun b => match H3 b with | none => H4 b | some _ => G b) = G4 at *
    have g14 := g13.trans gk
    have hP4 := g14.pl
    change tSeq (tAsg _ _) _ _ [some (.ref p), some (.ref a), some (.ref nl), some (.int (kd : Int)), some (.str (T l)), some th, some (.ref kn), none, none, none, none] H4
    refine q_asgW ?_
    refine ep_drw (g := g) (c := c) (G := G4) (z := (us.length : Int) + 1) rfl (ev_op (r := rI0 fun i j => .int (i + j)) (ev_len (K := K) (ev_var rfl) (sq_of (g14.ex _ _ ha))) ev_c rv_I0) (by omega) (by omega) H4 hP4 _ fun H5 v g5 hv => ?_
    obtain ⟨pz, rfl, hp0, hp1⟩ := hv
    obtain ⟨pl, rfl⟩ : ∃ jn : Nat, pz = (jn : Int) := ⟨pz.toNat, by omega⟩
    have hpl : pl ≤ es.length := by omega
    have g15 := g14.trans g5
    have hP5 := g15.pl
    have off := g15.off
    have eG := g15.ex
    have ha5 := hP5.ex _ _ (eG _ _ ha)
    have hus5 := (hus.mono eG).mono hP5.ex
    have hkn5 := hP5.ex _ _ hknG
    have hnl5 := eG _ _ hnl
    change tSeq (tIfS _ _ _) _ _ [some (.ref p), some (.ref a), some (.ref nl), some (.int (kd : Int)), some (.str (T l)), some th, some (.ref kn), some (.int (pl : Int)), none, none, none] H5
    have kd_ : ∀ {σ : L2.St} {Hx : Hp} (n : Int), σ[3]? = some (some (.int kd)) → Ev (tOp rEq (tVar 3) (tC (.int n))) σ Hx (.bl (decide (V.int kd = V.int n))) := fun n h => ev_op (r := rEq) (ev_var h) ev_c (rv_eq rfl)
    -- 0
    refine q_when (b := decide (V.int kd = V.int 0)) (et_test (kd_ 0 rfl)) (fun _ H6 e6 => ?_) fun hz0 H6 e6 => ?_
    · refine ⟨.ref p, rfl, ep_drw (g := g) (c := c) (G := G4) (z := 25) rfl ev_c (by decide) (by decide) H6 (hP5.ext e6) _ fun H7 v g7 hv => ?_⟩
      obtain ⟨mz, rfl, hm0, hm1⟩ := hv
      obtain ⟨m1, rfl⟩ : ∃ jn : Nat, mz = (jn : Int) := ⟨mz.toNat, by omega⟩
      exact ⟨.ref nl, rfl, G4, p, g, c, nl, m1, nx, rfl, g7.pl, by omega, hnl5, by omega, by omega, hnxv, fun G8 H8 L us' es' g8 hL hu ho => k H8 L us' es' (((off.trans (Of2.ex e6)).trans g7.off).trans g8.off) (g8.pl.ex _ _ hL) (hu.mono g8.pl.ex) (ho.le (by omega))⟩
    -- from here on nothing is drawn
    have kx : ∀ H' L us' es', Ex H5 H' → H' L = some (.lst us') → EsT H' us' es' → EsOk es' 24 → Q (.ref L) H' := fun H' L us' es' e => k H' L us' es' (off.trans (Of2.ex e))
    -- 1
    refine q_when (b := decide (V.int kd = V.int 1)) (et_test (kd_ 1 rfl)) (fun _ H7 e7 => ?_) fun hz1 H7 e7 => ?_
    · have e67 := e6.trans e7
      have lit : Str.ofString "0000000000" = T (List.replicate 10 48) := by decide +kernel
      have hxB : IsB ((l ++ List.replicate 10 48).take 10) := (hB.app (isB_rep (.inl rfl) 10)).take 10
      have hxl : ((l ++ List.replicate 10 48).take 10).length ≤ 10 := by rw [List.length_take]; omega
      have sl := ev_slS (H := H7) (σ := [some (.ref p), some (.ref a), some (.ref nl), some (.int (kd : Int)), some (.str (T l)), some th, some (.ref kn), some (.int (pl : Int)), none, none, none]) (te := tOp rAddS (tVar 4) (tC (.str "0000000000"))) (tl := tNoPart) (th := tPart (tC (.int 10))) (l := l ++ List.replicate 10 48) (lo := none) (hi := some ((10 : Nat) : Int)) (ev_addS (ev_var rfl) (ev_is ev_c (congrArg V.str lit)) (by simp; omega)) eo_none (eo_some ev_c) (by simp; omega)
      rw [cut_take] at sl
      refine q_asg sl fun H8 e8 => ?_
      generalize (l ++ List.replicate 10 48).take 10 = x at *
      change tRet _ _ [some (.ref p), some (.ref a), some (.ref nl), some (.int (kd : Int)), some (.str (T l)), some th, some (.ref kn), some (.int (pl : Int)), some (.str (T x)), none, none] H8
      have e58 := e67.trans e8
      refine ret_op (el_other (K := K) (σ := [some (.ref p), some (.ref a), some (.ref nl), some (.int (kd : Int)), some (.str (T l)), some th, some (.ref kn), some (.int (pl : Int)), some (.str (T x)), none, none]) (j := 10) (n := 8) (vs := [10]) (x := x) (ev_var rfl) (e58 _ _ ha5) (hus5.mono e58) (by omega) (fun _ => rfl) (fun _ => rfl) (fun _ => rfl) fun H9 D us' nD e9 hD ht => ?_)
      refine ⟨.str (T x), rfl, th, rfl, by show 2 ≤ sizeLine; decide, fun t htn => ⟨by show 1 ≤ sizeLine; decide, fun q hq => ?_⟩⟩
      have xa := Ex.new (o := .tup [V.str (T x), th]) htn
      have xb := Ex.new (o := .lst [V.ref t]) hq
      have hul' := ht.length
      obtain ⟨okf, hnk⟩ := filt_ok (x := x) hes
      have hfl := okf.len
      refine ⟨D, q, us', [.ref t], rfl, rfl, xb _ _ (xa _ _ hD), upd_same, by rw [sizeLine_eq]; simp; omega, fun r hr => ?_⟩
      have xc := Ex.new (o := .lst (us' ++ [V.ref t])) hr
      have xac := (xa.trans xb).trans xc
      exact kx _ r (us' ++ [.ref t]) ((es.filter fun e => !decide (e.1 = x)) ++ [(x, th)]) ((e58.trans e9).trans xac) upd_same ((ht.mono xac).app (.cons (xc _ _ (xb _ _ upd_same)) .nil)) ((okf.snoc hnk hxB hxl hthn).le (by decide))
    -- 2
    have hk7 : ∀ {Hx : Hp}, Ex H5 Hx → Ev (tOp (rIn K true) (tVar 4) (tVar 6)) [some (.ref p), some (.ref a), some (.ref nl), some (.int (kd : Int)), some (.str (T l)), some th, some (.ref kn), some (.int (pl : Int)), none, none, none] Hx (.bl (!decide (l ∈ es.map (·.1)))) := fun {Hx} e => by
      have z := ev_op (r := rIn K true) (σ := [some (.ref p), some (.ref a), some (.ref nl), some (.int (kd : Int)), some (.str (T l)), some th, some (.ref kn), some (.int (pl : Int)), none, none, none]) (H := Hx) (ta := tVar 4) (tb := tVar 6) (ev_var (v := .str (T l)) rfl) (ev_var (v := .ref kn) rfl) (rv_niL (sq_of (e _ _ hkn5)) rfl (tx_flat _))
      rw [inV_tx] at z
      exact z
    refine q_when (b := decide (V.int kd = V.int 2) && !decide (l ∈ es.map (·.1))) (et_and (et_test (kd_ 2 rfl)) fun _ => et_test (hk7 (e6.trans e7))) (fun hb2 H8 e8 => ?_) fun _ H8 e8 => ?_
    · have e58 := (e6.trans e7).trans e8
      rw [Bool.and_eq_true] at hb2
      have hnk : l ∉ es.map (·.1) := fun z => by
        have := hb2.2
        rw [decide_eq_true z] at this
        cases this
      refine ⟨.ref a, rfl, .str (T l), rfl, .ref a, rfl, .str (T l), rfl, a, us, es, l, 22, rfl, e58 _ _ ha5, hus5.mono e58, hes, by omega, fun H9 v9 e9 hv9 => ⟨by show 2 ≤ sizeLine; decide, fun t htn => ⟨by show 1 ≤ sizeLine; decide, fun q hq => ?_⟩⟩⟩
      have xa := Ex.new (o := .tup [V.str (T l), v9]) htn
      have xb := Ex.new (o := .lst [V.ref t]) hq
      have e59 := e58.trans e9
      refine ⟨a, q, us, [.ref t], rfl, rfl, xb _ _ (xa _ _ (e59 _ _ ha5)), upd_same, by rw [sizeLine_eq]; simp; omega, fun r hr => ?_⟩
      have xc := Ex.new (o := .lst (us ++ [V.ref t])) hr
      have xac := (xa.trans xb).trans xc
      exact kx _ r (us ++ [.ref t]) (es ++ [(l, v9)]) (e59.trans xac) upd_same ((hus5.mono (e59.trans xac)).app (.cons (xc _ _ (xb _ _ upd_same)) .nil)) ((hes.snoc hnk hB hl hv9).le (by decide))
    -- turned
    have e58 := (e6.trans e7).trans e8
    refine q_when (b := decide (V.int (pl : Int) = V.int (us.length : Int)) || decide (V.int kd = V.int 6)) (et_or (et_test (ev_op (r := rEq) (ev_var (v := .int (pl : Int)) rfl) (ev_len (K := K) (ev_var rfl) (sq_of (e58 _ _ ha5))) (rv_eq rfl))) fun _ => et_test (kd_ 6 rfl)) (fun _ H9 e9 => ?_) fun hb3 H9 e9 => ?_
    · have e59 := e58.trans e9
      refine q_asgW ?_
      refine ⟨.ref a, rfl, a, us, rfl, .inl (sq_of (e59 _ _ ha5)), fun D hD => ?_⟩
      have xa := Ex.new (o := .lst us) hD
      have hDD : (upd H9 D (.lst us)) D = some (.lst us) := upd_same
      have nD := fresh_back e59 hD
      generalize upd H9 D (.lst us) = HA at *
      refine ⟨.ref D, rfl, .inl ⟨rfl, _, sq_of hDD⟩, D, us, rfl, rfl, hDD, ?_⟩
      have xb := Ex.mut (o := .lst us.reverse) (e59.trans xa) nD
      have ht := (hus5.mono (e59.trans xa)).updL (o := .lst us.reverse) hDD
      have hD2 : (upd HA D (.lst us.reverse)) D = some (.lst us.reverse) := upd_same
      generalize upd HA D (.lst us.reverse) = HB at *
      refine s_ret (D := { nx := fun _ _ => False, rt := Q, bk := fun _ _ => False, ct := fun _ _ => False }) (σ := [some (.ref p), some (.ref a), some (.ref nl), some (.int (kd : Int)), some (.str (T l)), some th, some (.ref kn), some (.int (pl : Int)), none, some (.ref D), none]) (v := .ref D) (ev_var rfl) fun HC eC => ?_
      exact kx HC D us.reverse es.reverse (xb.trans eC) (eC _ _ hD2) (ht.rev.mono eC) (hes.rev.le (by decide))
    have hpl2 : pl < es.length := by
      have : pl ≠ us.length := fun z => by
        rw [z, decide_eq_true rfl] at hb3
        cases hb3
      omega
    have e59 := e58.trans e9
    -- 3
    refine q_when (b := decide (V.int kd = V.int 3)) (et_test (kd_ 3 rfl)) (fun _ HA eA => ?_) fun _ HA eA => ?_
    · have e5A := e59.trans eA
      obtain ⟨e', he'⟩ : ∃ e', es[pl]? = some e' := ⟨_, List.getElem?_eq_getElem hpl2⟩
      have hplu : pl < us.length := by omega
      obtain ⟨b, e2, hbu, he2, hb⟩ := (hus5.mono e5A).at_ (List.getElem?_eq_getElem hplu)
      obtain rfl : e2 = e' := Option.some.inj (he2.symm.trans he')
      have hpu : us[pl]? = some (.ref b) := by rw [List.getElem?_eq_getElem hplu, hbu]
      obtain ⟨hB2, hl2, hn2⟩ := hes.it e2 (List.mem_of_getElem? he')
      have s1 := el_sl (K := K) (te := tVar 1) (tl := tNoPart) (th := tPart (tVar 7)) (σ := [some (.ref p), some (.ref a), some (.ref nl), some (.int (kd : Int)), some (.str (T l)), some th, some (.ref kn), some (.int (pl : Int)), none, none, none]) (H := HA) (ev_var rfl) eo_none (eo_some (i := (pl : Int)) (ev_var rfl)) (sq_of (e5A _ _ ha5))
      rw [cut_to _ _ (by omega)] at s1
      refine ret_op (s1 HA (Ex.refl _) _ fun p1 HB n1 eB h1 => ?_)
      refine (ev_op (ev_ixR (K := K) (σ := [some (.ref p), some (.ref a), some (.ref nl), some (.int (kd : Int)), some (.str (T l)), some th, some (.ref kn), some (.int (pl : Int)), none, none, none]) (H := HB) (ta := tVar 1) (tb := tVar 7) (i := pl) (ev_var rfl) (ev_var rfl) ((e5A.trans eB) _ _ ha5) hpu) (ev_c (v := .int 0)) (rv_ixT (K := K) (st_of (eB _ _ hb)) (atI_nat (j := 0) rfl))) HB (Ex.refl _) _ fun HC eC => ⟨th, rfl, by show 2 ≤ sizeLine; decide, fun t htn => ⟨by show 1 ≤ sizeLine; decide, fun q hq => ?_⟩⟩
      have xa := Ex.new (o := .tup [V.str (T e2.1), th]) htn
      have xb := Ex.new (o := .lst [V.ref t]) hq
      have ht0 : (upd (upd HC t (.tup [V.str (T e2.1), th])) q (.lst [V.ref t])) t = some (.tup [V.str (T e2.1), th]) := xb _ _ upd_same
      have hq0 : (upd (upd HC t (.tup [V.str (T e2.1), th])) q (.lst [V.ref t])) q = some (.lst [V.ref t]) := upd_same
      have xab := xa.trans xb
      generalize upd (upd HC t (.tup [V.str (T e2.1), th])) q (.lst [V.ref t]) = HD at *
      refine ⟨p1, q, _, _, rfl, rfl, (eC.trans xab) _ _ h1, hq0, by rw [List.length_take, sizeLine_eq]; simp; omega, fun r hr => ?_⟩
      have xc := Ex.new (o := .lst (us.take pl ++ [V.ref t])) hr
      have hr0 : (upd HD r (.lst (us.take pl ++ [V.ref t]))) r = some (.lst (us.take pl ++ [V.ref t])) := upd_same
      generalize upd HD r (.lst (us.take pl ++ [V.ref t])) = HE at *
      have e5E := ((e5A.trans eB).trans (eC.trans xab)).trans xc
      have s2 := el_sl (K := K) (te := tVar 1) (tl := tPart (tOp (rI0 fun i j => .int (i + j)) (tVar 7) (tC (.int 1)))) (th := tNoPart) (σ := [some (.ref p), some (.ref a), some (.ref nl), some (.int (kd : Int)), some (.str (T l)), some th, some (.ref kn), some (.int (pl : Int)), none, none, none]) (H := HE) (ev_var rfl) (eo_some (ev_op (r := rI0 fun i j => .int (i + j)) (ev_var (v := .int (pl : Int)) rfl) (ev_c (v := .int 1)) rv_I0)) eo_none (sq_of (e5E _ _ ha5))
      rw [show ((pl : Int) + 1) = ((pl + 1 : Nat) : Int) by omega, cut_fromA] at s2
      refine s2 HE (Ex.refl _) _ fun p2 HF n2 eF h2 => ?_
      refine ⟨r, p2, _, _, rfl, rfl, eF _ _ hr0, h2, by rw [List.length_append, List.length_take, List.length_drop, sizeLine_eq]; simp; omega, fun z hz => ?_⟩
      have e5F := (e5E.trans eF).trans (Ex.new (o := .lst (us.take pl ++ [V.ref t] ++ us.drop (pl + 1))) hz)
      exact kx _ z (us.take pl ++ [.ref t] ++ us.drop (pl + 1)) (es.take pl ++ [(e2.1, th)] ++ es.drop (pl + 1)) e5F upd_same ((((hus5.mono e5F).take pl).app (.cons ((Ex.new hz) _ _ (eF _ _ (xc _ _ ht0))) .nil)).app ((hus5.mono e5F).drop (pl + 1))) (hes.turn he' hthn)
    -- 4
    refine q_when (b := decide (V.int kd = V.int 4)) (et_test (kd_ 4 rfl)) (fun _ HB eB => ?_) fun _ HB eB => ?_
    · have e5B := (e59.trans eA).trans eB
      have s1 := el_sl (K := K) (te := tVar 1) (tl := tNoPart) (th := tPart (tVar 7)) (σ := [some (.ref p), some (.ref a), some (.ref nl), some (.int (kd : Int)), some (.str (T l)), some th, some (.ref kn), some (.int (pl : Int)), none, none, none]) (H := HB) (ev_var rfl) eo_none (eo_some (i := (pl : Int)) (ev_var rfl)) (sq_of (e5B _ _ ha5))
      rw [cut_to _ _ (by omega)] at s1
      refine ret_op (s1 HB (Ex.refl _) _ fun p1 HC n1 eC h1 => ?_)
      have s2 := el_sl (K := K) (te := tVar 1) (tl := tPart (tOp (rI0 fun i j => .int (i + j)) (tVar 7) (tC (.int 1)))) (th := tNoPart) (σ := [some (.ref p), some (.ref a), some (.ref nl), some (.int (kd : Int)), some (.str (T l)), some th, some (.ref kn), some (.int (pl : Int)), none, none, none]) (H := HC) (ev_var rfl) (eo_some (ev_op (r := rI0 fun i j => .int (i + j)) (ev_var (v := .int (pl : Int)) rfl) (ev_c (v := .int 1)) rv_I0)) eo_none (sq_of ((e5B.trans eC) _ _ ha5))
      rw [show ((pl : Int) + 1) = ((pl + 1 : Nat) : Int) by omega, cut_fromA] at s2
      refine s2 HC (Ex.refl _) _ fun p2 HD n2 eD h2 => ?_
      refine ⟨p1, p2, _, _, rfl, rfl, eD _ _ h1, h2, by rw [List.length_take, List.length_drop, sizeLine_eq]; omega, fun z hz => ?_⟩
      have e5D := ((e5B.trans eC).trans eD).trans (Ex.new (o := .lst (us.take pl ++ us.drop (pl + 1))) hz)
      exact kx _ z (us.take pl ++ us.drop (pl + 1)) (es.take pl ++ es.drop (pl + 1)) e5D upd_same (((hus5.mono e5D).take pl).app ((hus5.mono e5D).drop (pl + 1))) ((hes.sub (less_sub es pl)).le (by decide))
    -- halves
    have e5B := (e59.trans eA).trans eB
    exact ⟨.ref a, rfl, .int (pl : Int), rfl, a, us, es, pl, rfl, e5B _ _ ha5, hus5.mono e5B, hes, hpl2, fun HC L us' es' _ eC hL ht ho => kx HC L us' es' (e5B.trans eC) hL ht ho⟩
end
end Wk

set_option Elab.async false
set_option linter.all false
set_option maxRecDepth 100000
set_option maxHeartbeats 2000000
namespace Wk
open PySem PySem.SeqAt
open AutoSeq1 (wpAny_loadPart')
open MeetsSeq MeetsSeq2 MeetsSeq3 SeqRoads2
section
variable {prog : Program} {w : World} {A : Around} {R : Result → Shared → Prop}
/-- at each turn the list is read anew; whether its i-th item is x -/
def InI (prog : Program) (w : World) (A : Around) (E : Value → Shared → Prop) (l : Addr) (x : Value) (e : Nat → Bool) (N : Nat) (I : Shared → Prop) : Prop :=
  ∀ s, I s → ∃ (items : Array Value) (n : Nat), s.heap.get? l = some { cls := .type "list", data := .seq items n } ∧ items.size = N ∧ ∀ (i : Nat) (h : i < items.size), wpAny (model prog w) A.in1 (eqBool items[i] x) (fun r s' => r = e i ∧ I s') E s
theorem in_loopB (l : Addr) (x : Value) (e : Nat → Bool) (N : Nat) (I : Shared → Prop) (hl : InI prog w A (fun er s' => R (.error er) s') l x e N I)
    (fin : ∀ (b : Bool) s, (b = true ↔ ∃ j, j < N ∧ e j = true) → I s → R (.ok (.ret (.bool b))) s) (k : Nat) :
    ∀ i : Nat, N - i = k → i ≤ N → (∀ j, j < i → e j = false) → ∀ s, I s →
      wpAny (model prog w) A.in1 (Builtin.«list.__contains__.loop» ⟨[.ref l, x, rawInt i], []⟩) (GQ.FinOf prog w A R) (fun er s' => R (.error er) s') s := by
  induction k with
  | zero =>
    intro i hk hi hno s h
    obtain ⟨items, n, hl1, hs1, _⟩ := hl _ h
    have hR : R (.ok (.ret (.bool false))) s := fin false s ⟨fun z => (by cases z), fun ⟨j, hj, hj2⟩ => by rw [hno j (by omega)] at hj2; cases hj2⟩ h
    obtain ⟨hp, g, d, tk, os⟩ := s
    wp_walk using wpAny_loadPart' hl1
    have hi1 : items[((i : Nat) : Int).toNat]? = none := by simp; omega
    rw [hi1]
    wp_walk
    exact hR
  | succ k ih =>
    intro i hk hi hno s h
    obtain ⟨items, n, hl1, hs1, turn⟩ := hl _ h
    have hlt : i < items.size := by omega
    have ht := turn i hlt
    obtain ⟨hp, g, d, tk, os⟩ := s
    wp_walk using wpAny_loadPart' hl1
    have hi1 : items[((i : Nat) : Int).toNat]? = some items[i] := by simp [hlt]
    have hc : ((i : Int) + 1) = ((i + 1 : Nat) : Int) := by omega
    rw [hi1]
    refine wpAny_bind (wpAny_mono ht (fun r s2 h2 => ?_) fun _ _ x => x)
    obtain ⟨hr, h2⟩ := h2
    subst hr
    cases hb : e i with
    | true =>
      have hR := fin true s2 ⟨fun _ => ⟨i, by omega, hb⟩, fun _ => rfl⟩ h2
      obtain ⟨hp2, g2, d2, tk2, os2⟩ := s2
      wp_walk
      exact hR
    | false =>
      have hrec := ih (i + 1) (by omega) (by omega) (fun j hj => by
        by_cases c : j = i
        · rw [c]; exact hb
        · exact hno j (by omega)) s2 h2
      obtain ⟨hp2, g2, d2, tk2, os2⟩ := s2
      wp_walk
      rw [hc]
      exact ⟨plainId_quiet plain_contains_loop _, codeAny_builtin entry_contains_loop (by
        rw [Around.under_plainId plain_contains_loop _]
        exact hrec)⟩
theorem list_inB (l : Addr) (x : Value) (e : Nat → Bool) (N : Nat) (I : Shared → Prop) (hl : InI prog w A (fun er s' => R (.error er) s') l x e N I)
    (fin : ∀ (b : Bool) s, (b = true ↔ ∃ j, j < N ∧ e j = true) → I s → R (.ok (.ret (.bool b))) s) {s : Shared} (h : I s) :
    wpAny (model prog w) A.in1 (Builtin.«list.__contains__» ⟨[.ref l, x], []⟩) (GQ.FinOf prog w A R) (fun er s' => R (.error er) s') s := by
  obtain ⟨items, n, hl1, hs1, _⟩ := hl _ h
  have hrec := in_loopB (A := A) (R := R) l x e N I hl fin _ 0 rfl (Nat.zero_le _) (fun j hj => by omega) s h
  obtain ⟨hp, g, d, tk, os⟩ := s
  wp_walk using wpAny_loadPart' hl1
  exact ⟨plainId_quiet plain_contains_loop _, codeAny_builtin entry_contains_loop (by
    rw [Around.under_plainId plain_contains_loop _]
    exact hrec)⟩
/-- the same of two lists -/
def EqI (prog : Program) (w : World) (A : Around) (E : Value → Shared → Prop) (l b : Addr) (e : Nat → Bool) (N : Nat) (I : Shared → Prop) : Prop :=
  ∀ s, I s → ∃ (items items2 : Array Value) (n n2 : Nat), s.heap.get? l = some { cls := .type "list", data := .seq items n } ∧ s.heap.get? b = some { cls := .type "list", data := .seq items2 n2 } ∧ items.size = N ∧ items2.size = N ∧
    ∀ (i : Nat) (h1 : i < items.size) (h2 : i < items2.size), wpAny (model prog w) A.in1 (eqBool items[i] items2[i]) (fun r s' => r = e i ∧ I s') E s
theorem eq_loopB (l b : Addr) (e : Nat → Bool) (N : Nat) (I : Shared → Prop) (hl : EqI prog w A (fun er s' => R (.error er) s') l b e N I)
    (fin : ∀ (r : Bool) s, (r = true ↔ ∀ j, j < N → e j = true) → I s → R (.ok (.ret (.bool r))) s) (k : Nat) :
    ∀ i : Nat, N - i = k → i ≤ N → (∀ j, j < i → e j = true) → ∀ s, I s →
      wpAny (model prog w) A.in1 (Builtin.«list.__eq__.loop» ⟨[.ref l, .ref b, rawInt i, rawInt 2], []⟩) (GQ.FinOf prog w A R) (fun er s' => R (.error er) s') s := by
  induction k with
  | zero =>
    intro i hk hi hyes s h
    obtain ⟨items, items2, n, n2, hl1, hb1, hs1, hs2, _⟩ := hl _ h
    have hR : R (.ok (.ret (.bool true))) s := fin true s ⟨fun _ j hj => hyes j (by omega), fun _ => rfl⟩ h
    obtain ⟨hp, g, d, tk, os⟩ := s
    wp_walk using wpAny_loadPart' hl1, wpAny_loadPart' hb1
    have hi1 : items[((i : Nat) : Int).toNat]? = none := by simp; omega
    have hi2 : items2[((i : Nat) : Int).toNat]? = none := by simp; omega
    rw [hi1, hi2]
    wp_walk using wpAny_loadPart' hl1, wpAny_loadPart' hb1
    show R (.ok (.ret (.bool (items.size == items2.size)))) _
    rw [hs1, hs2]
    simpa using hR
  | succ k ih =>
    intro i hk hi hyes s h
    obtain ⟨items, items2, n, n2, hl1, hb1, hs1, hs2, turn⟩ := hl _ h
    have hlt : i < items.size := by omega
    have hlt2 : i < items2.size := by omega
    have ht := turn i hlt hlt2
    obtain ⟨hp, g, d, tk, os⟩ := s
    wp_walk using wpAny_loadPart' hl1, wpAny_loadPart' hb1
    have hi1 : items[((i : Nat) : Int).toNat]? = some items[i] := by simp [hlt]
    have hi2 : items2[((i : Nat) : Int).toNat]? = some items2[i] := by simp [hlt2]
    have hc : ((i : Int) + 1) = ((i + 1 : Nat) : Int) := by omega
    rw [hi1, hi2]
    refine wpAny_bind (wpAny_mono ht (fun r s2 h2 => ?_) fun _ _ x => x)
    obtain ⟨hr, h2⟩ := h2
    subst hr
    cases he : e i with
    | false =>
      have hR := fin false s2 ⟨fun z => (by cases z), fun z => by rw [z i (by omega)] at he; cases he⟩ h2
      obtain ⟨items', items2', n', n2', hl1', hb1', hs1', hs2', _⟩ := hl _ h2
      obtain ⟨hp2, g2, d2, tk2, os2⟩ := s2
      wp_walk using wpAny_loadPart' hl1', wpAny_loadPart' hb1'
      have hlt' : i < items'.size := by omega
      have hlt2' : i < items2'.size := by omega
      have hi1' : items'[((i : Nat) : Int).toNat]? = some items'[i] := by simp [hlt']
      have hi2' : items2'[((i : Nat) : Int).toNat]? = some items2'[i] := by simp [hlt2']
      rw [hi1', hi2']
      wp_walk
      exact hR
    | true =>
      have hrec := ih (i + 1) (by omega) (by omega) (fun j hj => by
        by_cases c : j = i
        · rw [c]; exact he
        · exact hyes j (by omega)) s2 h2
      obtain ⟨hp2, g2, d2, tk2, os2⟩ := s2
      wp_walk
      rw [hc]
      exact ⟨plainId_quiet plain_eq_loop _, codeAny_builtin entry_eq_loop (by
        rw [Around.under_plainId plain_eq_loop _]
        exact hrec)⟩
theorem list_eqB (l b : Addr) (e : Nat → Bool) (N : Nat) (I : Shared → Prop) (hl : EqI prog w A (fun er s' => R (.error er) s') l b e N I)
    (fin : ∀ (r : Bool) s, (r = true ↔ ∀ j, j < N → e j = true) → I s → R (.ok (.ret (.bool r))) s) {s : Shared} (h : I s) :
    wpAny (model prog w) A.in1 (Builtin.«list.__eq__» ⟨[.ref l, .ref b], []⟩) (GQ.FinOf prog w A R) (fun er s' => R (.error er) s') s := by
  obtain ⟨items, items2, n, n2, hl1, hb1, hs1, hs2, _⟩ := hl _ h
  have hrec := eq_loopB (A := A) (R := R) l b e N I hl fin _ 0 rfl (Nat.zero_le _) (fun j hj => by omega) s h
  obtain ⟨hp, g, d, tk, os⟩ := s
  have f3 := AutoSeq1.sub_list_list
  have hne : ¬ (items.size != items2.size) = true := by simp [hs1, hs2]
  wp_walk using wpAny_loadPart' hl1, wpAny_loadPart' hb1
  exact ⟨plainId_quiet plain_eq_loop _, codeAny_builtin entry_eq_loop (by
    rw [Around.under_plainId plain_eq_loop _]
    exact hrec)⟩
end
section
variable {prog : Program} {w : World} {A : Around} {E : Value → Shared → Prop} {s : Shared}
theorem notIn_listB {l : Addr} {x : Value} {e : Nat → Bool} {N : Nat} {Q : Value → Shared → Prop} (I : Shared → Prop) (hl : InI prog w A E l x e N I)
    (fin : ∀ (b : Bool) s, (b = true ↔ ∃ j, j < N ∧ e j = true) → I s → Q (.bool (!b)) s) (h : I s) : wpAny (model prog w) A (compareOp .NotIn x (.ref l)) Q E s := by
  obtain ⟨items, n, hl1, hs1, _⟩ := hl _ h
  show wpAny _ A (do return .bool (!(← contains (.ref l) x))) Q E s
  refine wpAny_bind (wpAny_contains_slot ⟨_, hl1, rfl⟩ F.slot_list_contains (wpAny_mono (GQ.call_here F.slot_list_contains ⟨_, hl1, rfl⟩ F.entry_list_contains (F.args_list_contains_2 _ _)
    (list_inB (R := wants (fun v s' => ∃ b, v = .bool b ∧ Q (.bool (!b)) s') E) l x e N I hl (fun b s' hb hI => ⟨b, rfl, fin b s' hb hI⟩) h)) (fun v s' hv => ?_) fun _ _ e => e))
  obtain ⟨b, rfl, hq⟩ := hv
  exact wpAny_truthy_bool (wpAny_pure hq)
theorem rc_listB {l b : Addr} {e : Nat → Bool} {N : Nat} {Q : Value → Shared → Prop} (hu : A.units < cLine) (I : Shared → Prop) (hl : EqI prog w A E l b e N I)
    (fin : ∀ (r : Bool) s, (r = true ↔ ∀ j, j < N → e j = true) → I s → Q (.bool r) s) (h : I s) : wpAny (model prog w) A (richCompare .Eq (.ref l) (.ref b)) Q E s := by
  obtain ⟨items, items2, n, n2, hl1, hb1, _, _, _⟩ := hl _ h
  refine wpAny_richCompare_same_room (op := .Eq) ⟨_, hl1, rfl⟩ ⟨_, hb1, rfl⟩ F.slot_list_eq (GQ.call_here F.slot_list_eq ⟨_, hl1, rfl⟩ F.entry_list_eq (F.args_list_eq_2 _ _) ?_) hu
  exact list_eqB (R := wants (fun v s' => v ≠ .notImplemented ∧ Q v s') E) l b e N I hl (fun r s' hr q => ⟨(fun x => nomatch x), fin r s' hr q⟩) h
end
end Wk

set_option Elab.async false
set_option linter.all false
set_option maxRecDepth 100000
set_option maxHeartbeats 2000000
namespace Wk
open L2 PySem PySem.Spec PyProof.Rows
/-! an own == that tells True or False -/
abbrev EqvB := V → V → Bool → Hp → Prop
def MonB (D : EqvB) : Prop := ∀ x y z H H', Ext H H' → D x y z H → D x y z H'
def RcB (X : Cx) (n : Nat) (D : EqvB) : Prop :=
  ∀ (A : Around) (pins : List (Addr × Obj)) (s : Shared) (σ : L2.St) (H : Hp) (x y : V) (u v : Value) (z : Bool), Sub X n A → Inv X pins σ H s → RelV x u → RelV y v → D x y z H →
    wpAny (model X.prog X.w) A (richCompare .Eq u v) (fun r s' => r = .bool z ∧ ∃ H', Inv X pins σ H' s' ∧ Ext H H') X.xe s
def EqB (X : Cx) (n : Nat) (D : EqvB) : Prop :=
  ∀ (A : Around) (pins : List (Addr × Obj)) (s : Shared) (σ : L2.St) (H : Hp) (x y : V) (u v : Value) (z : Bool), Sub X n A → Inv X pins σ H s → RelV x u → RelV y v → D x y z H →
    wpAny (model X.prog X.w) A (eqBool u v) (fun r s' => r = z ∧ ∃ H', Inv X pins σ H' s' ∧ Ext H H') X.xe s
def DInsB (C : Addr) (R : Addr → Addr → Bool → Hp → Prop) : EqvB := fun x y z H => ∃ a b dx dy fs gs, x = .ref a ∧ y = .ref b ∧ H a = some (.ins C dx fs) ∧ H b = some (.ins C dy gs) ∧ R a b z H
def spEqB (R : Addr → Addr → Bool → Hp → Prop) : Sp := fun vs H Q _ => ∃ a b z, vs = [.ref a, .ref b] ∧ R a b z H ∧ ∀ H', Ext H H' → Q (.bl z) H'
section
variable {X : Cx} {n : Nat} {D : EqvB}
theorem rcB_ins {CX : CXT} {C f : Addr} {fd : FuncData} {ps : List Str} {R : Addr → Addr → Bool → Hp → Prop} {E : XK} (F : FnOk X.prog X.w X.K X.mg X.base CX n f fd ps (spEqB R))
    (hs : PySem.W.findIn X.K (.ref C) "__eq__" = some (some (.ref f))) (hf : PySem.W.isFn X.K (.ref f) = true) (hb : Binds X.K fd ps []) (hx : Passes CX X E) : RcB X n (DInsB C R) := by
  intro A pins s σ H x y u v z sb I rx ry d
  obtain ⟨a, b, dx, dy, fs, gs, rfl, rfl, ha, hb', hr⟩ := d
  cases rx
  cases ry
  obtain ⟨mA, J, _⟩ := ins_get I.hok ha
  obtain ⟨mB, J', _⟩ := ins_get I.hok hb'
  obtain ⟨od, J, _⟩ := J.look
  obtain ⟨od', J', _⟩ := J'.look
  obtain ⟨m, hF⟩ := I.fr
  refine PySem.W.cmp_K (op := .Eq) (tb := .ref C) sb.room.units0 hF I.ok.mod.kin J J'.type (by simp [PySem.W.notFirst]) hs hf ?_
  have hsp : spEqB R [.ref a, .ref b] H (fun v H' => v = .bl z ∧ Ext H H') E := ⟨a, b, z, rfl, hr, fun H' e => ⟨rfl, e⟩⟩
  have e0 : Env0 X.prog X.w X.K X.mg X.base A X.stack s H := by
    have e := I.env0
    exact ⟨by rw [sb.fr]; exact e.frames, e.mod, e.bs, e.bsz, e.funs, e.frf, e.hok, e.bare⟩
  have hl := F.len _ _ _ _ hsp
  have r2 : Vals [V.ref a, V.ref b] [Value.ref a, Value.ref b] := .cons rfl (.cons rfl .nil)
  refine wpAny_call (codeAny_mono (F.run A X.stack s H ⟨[.ref a, .ref b], []⟩ [.ref a, .ref b] [.ref a, .ref b] _ E sb.room e0 (by
    have := hb s [.ref a, .ref b] I.kIn (by simpa using hl)
    simpa using this) r2 hsp) fun r s' hq => ?_)
  cases r with
  | error e => exact hx pins σ H s e s' I hq
  | ok fl =>
    cases fl with
    | ret w =>
      obtain ⟨zz, H', I', rz, ez, ex⟩ := I.after hq
      subst ez
      cases rz
      exact ⟨rfl, H', I', ex⟩
    | next => exact False.elim hq
    | brk => exact False.elim hq
    | cont => exact False.elim hq
theorem RcB.eqB (h : RcB X n D) (hr : ∀ x y z H, D x y z H → ∃ a b, x = .ref a ∧ y = .ref b) (hs : ∀ a z H, D (.ref a) (.ref a) z H → z = true) : EqB X n D := by
  intro A pins s σ H x y u v z sb I rx ry d
  obtain ⟨a, b, rfl, rfl⟩ := hr _ _ _ _ d
  cases rx
  cases ry
  by_cases hab : a = b
  · subst hab
    rw [hs _ _ _ d]
    exact SeqAt.EqAt.same (A := A) (s := s) (.ref a) X.prog X.w X.xe _ ⟨rfl, H, I, Ext.rfl'⟩
  · refine GQ.eqBool_refG hab (wpAny_mono (h A pins s σ H (.ref a) (.ref b) _ _ z sb I rfl rfl d) (fun r s' q => ?_) fun _ _ x => x)
    obtain ⟨hr', q⟩ := q
    exact ⟨z, hr', rfl, q⟩
/-- x == y -/
def rEqB (D : EqvB) : R2 := fun x y H Q => ∃ z, D x y z H ∧ ∀ H', Ext H H' → Q (.bl z) H'
theorem op_eqB (h : RcB X n D) (hr : Room n X.A) : OpR X (compareOp .Eq) (rEqB D) := by
  intro pins s σ H x y v u Q I rx ry hq
  obtain ⟨z, d, q⟩ := hq
  show wpAny (model X.prog X.w) X.A (richCompare .Eq v u) (EP X pins σ Q) X.xe s
  refine wpAny_mono (h X.A pins s σ H x y v u z ⟨hr, rfl⟩ I rx ry d) (fun r s' zz => ?_) fun _ _ x => x
  obtain ⟨hr', H', I', e⟩ := zz
  subst hr'
  exact ⟨.bl z, H', I', rfl, q H' e⟩
/-- x not in [..] -/
def rNinB (D : EqvB) : R2 := fun x y H Q => ∃ l ys, ∃ e : Nat → Bool, y = .ref l ∧ H l = some (.lst ys) ∧ (∀ i yi, ys[i]? = some yi → D yi x (e i) H) ∧ ∀ (b : Bool) H', (b = true ↔ ∃ j, j < ys.length ∧ e j = true) → Ext H H' → Q (.bl (!b)) H'
theorem op_notInB (hD : MonB D) (h : EqB X n D) (hr : Room (n + 1) X.A) : OpR X (compareOp .NotIn) (rNinB D) := by
  intro pins s σ H x y v u Q I rx ry hq
  obtain ⟨l, ys, e, rfl, hl, he, q⟩ := hq
  cases ry
  have sb : Sub X (n + 1) X.A := ⟨hr, rfl⟩
  refine notIn_listB (N := ys.length) (e := e) (fun s' => LoopI X pins σ H s') (fun s' t => ?_) (fun b s' hb t => ?_) ⟨H, I, Ext.rfl'⟩
  · obtain ⟨H1, I1, e1⟩ := t
    obtain ⟨z, its, k, r, ei⟩ := I1.hok l _ (e1 _ _ hl)
    refine ⟨its.toArray, k, ei, by rw [List.size_toArray, ← r.length], fun i hi => ?_⟩
    have hi' : i < its.length := by simpa using hi
    have k1 : i < ys.length := by rw [r.length]; exact hi'
    obtain ⟨w, hw, rw'⟩ := r.get (List.getElem?_eq_getElem k1)
    have g1 : its[i]? = some its.toArray[i] := by rw [List.getElem?_eq_getElem hi'] <;> simp
    rw [g1] at hw
    rw [Option.some.inj hw]
    refine wpAny_mono (h _ pins s' σ H1 _ _ w v (e i) sb.in1 I1 rw' rx (hD _ _ _ _ _ e1 (he i _ (List.getElem?_eq_getElem k1)))) (fun r s2 q2 => ?_) fun _ _ x => x
    obtain ⟨hr', H2, I2, e2⟩ := q2
    exact ⟨hr', H2, I2, e1.trans e2⟩
  · obtain ⟨H1, I1, e1⟩ := t
    exact ⟨.bl (!b), H1, I1, rfl, q b H1 hb e1⟩
/-- [..] == [..] -/
def rEqLB (D : EqvB) : R2 := fun x y H Q => ∃ a b xs ys, ∃ e : Nat → Bool, x = .ref a ∧ y = .ref b ∧ H a = some (.lst xs) ∧ H b = some (.lst ys) ∧ xs.length = ys.length ∧ (∀ i xi yi, xs[i]? = some xi → ys[i]? = some yi → D xi yi (e i) H) ∧
  ∀ (r : Bool) H', (r = true ↔ ∀ j, j < xs.length → e j = true) → Ext H H' → Q (.bl r) H'
theorem op_eqLB (hD : MonB D) (h : EqB X n D) (hr : Room (n + 1) X.A) : OpR X (compareOp .Eq) (rEqLB D) := by
  intro pins s σ H x y v u Q I rx ry hq
  obtain ⟨a, b, xs, ys, e, rfl, rfl, ha, hb, hl, he, q⟩ := hq
  cases rx
  cases ry
  have sb : Sub X (n + 1) X.A := ⟨hr, rfl⟩
  show wpAny (model X.prog X.w) X.A (richCompare .Eq (.ref a) (.ref b)) (EP X pins σ Q) X.xe s
  refine rc_listB (N := xs.length) (e := e) hr.units0 (fun s' => LoopI X pins σ H s') (fun s' t => ?_) (fun r s' hb t => ?_) ⟨H, I, Ext.rfl'⟩
  · obtain ⟨H1, I1, e1⟩ := t
    obtain ⟨z, its, k, r, ei⟩ := I1.hok a _ (e1 _ _ ha)
    obtain ⟨z2, its2, k2, r2, ei2⟩ := I1.hok b _ (e1 _ _ hb)
    refine ⟨its.toArray, its2.toArray, k, k2, ei, ei2, by rw [List.size_toArray, ← r.length], by rw [List.size_toArray, ← r2.length, ← hl], fun i h1 h2 => ?_⟩
    have h1' : i < its.length := by simpa using h1
    have h2' : i < its2.length := by simpa using h2
    have k1 : i < xs.length := by rw [r.length]; exact h1'
    have k2 : i < ys.length := by rw [r2.length]; exact h2'
    obtain ⟨w, hw, rw'⟩ := r.get (List.getElem?_eq_getElem k1)
    obtain ⟨w2, hw2, rw2⟩ := r2.get (List.getElem?_eq_getElem k2)
    have g1 : its[i]? = some its.toArray[i] := by rw [List.getElem?_eq_getElem h1'] <;> simp
    have g2 : its2[i]? = some its2.toArray[i] := by rw [List.getElem?_eq_getElem h2'] <;> simp
    rw [g1] at hw
    rw [g2] at hw2
    rw [Option.some.inj hw, Option.some.inj hw2]
    refine wpAny_mono (h _ pins s' σ H1 _ _ w w2 (e i) sb.in1 I1 rw' rw2 (hD _ _ _ _ _ e1 (he i _ _ (List.getElem?_eq_getElem k1) (List.getElem?_eq_getElem k2)))) (fun r s2 q2 => ?_) fun _ _ x => x
    obtain ⟨hr', H2, I2, e2⟩ := q2
    exact ⟨hr', H2, I2, e1.trans e2⟩
  · obtain ⟨H1, I1, e1⟩ := t
    exact ⟨.bl r, H1, I1, rfl, q r H1 hb e1⟩
end
end Wk

set_option Elab.async false
set_option linter.all false
set_option maxRecDepth 100000
set_option maxHeartbeats 4000000
namespace Wk
open PySem PySem.Spec PyProof.Rows L2 Evl
/-! rows told apart -/
theorem eqv_nx {a b : V} (ha : NxV a) (hb : NxV b) : PyData.eqv (nxD a) (nxD b) = decide (a = b) := by
  have ss : ∀ x y : Str, PyData.eqv (.str x) (.str y) = decide (V.str x = V.str y) := fun x y => by
    have e : decide (V.str x = V.str y) = decide (x = y) := decide_eq_decide.mpr ⟨fun z => by injection z, fun z => by rw [z]⟩
    rw [e]
    simp [PyData.eqv]
    by_cases z : x = y <;> simp [z]
  have ii : ∀ x y : Int, PyData.eqv (.int x) (.int y) = decide (V.int x = V.int y) := fun x y => by
    have e : decide (V.int x = V.int y) = decide (x = y) := decide_eq_decide.mpr ⟨fun z => by injection z, fun z => by rw [z]⟩
    rw [e]
    simp [PyData.eqv]
    by_cases z : x = y <;> simp [z]
  have si : ∀ (x : Str) (y : Int), PyData.eqv (.str x) (.int y) = decide (V.str x = V.int y) := fun x y => by
    rw [decide_eq_false (fun z => by cases z)]
    simp [PyData.eqv]
  have is : ∀ (x : Int) (y : Str), PyData.eqv (.int x) (.str y) = decide (V.int x = V.str y) := fun x y => by
    rw [decide_eq_false (fun z => by cases z)]
    simp [PyData.eqv]
  rcases ha with rfl | rfl | ⟨i, _, rfl⟩ <;> rcases hb with rfl | rfl | ⟨j, _, rfl⟩ <;> first | exact ss _ _ | exact ii _ _ | exact si _ _ | exact is _ _
theorem eqv_rowD {a b : Row} (ha : NxV a.2) (hb : NxV b.2) : PyData.eqv (rowD a) (rowD b) = decide (a = b) := by
  obtain ⟨a1, a2⟩ := a
  obtain ⟨b1, b2⟩ := b
  unfold rowD
  simp only [PyData.eqv, PyData.eqvAll, eqv_nx ha hb]
  by_cases h1 : a1 = b1
  · by_cases h2 : a2 = b2
    · simp [h1, h2]
    · simp [h1, h2]
  · have : T a1 ≠ T b1 := fun z => h1 (T_inj z)
    have e : (T a1 == T b1) = false := beq_eq_false_iff_ne.mpr this
    simp [h1, e]
def okR (es : List Row) : Prop := ∀ e ∈ es, IsB e.1 ∧ NxV e.2
theorem eqv_rowL : ∀ {a b : List Row}, okR a → okR b → PyData.eqvAll (a.map rowD) (b.map rowD) = decide (a = b)
  | [], [], _, _ => by simp [PyData.eqvAll]
  | [], _ :: _, _, _ => by simp [PyData.eqvAll]
  | _ :: _, [], _, _ => by simp [PyData.eqvAll]
  | x :: a, y :: b, ha, hb => by
    have ih := eqv_rowL (a := a) (b := b) (fun e he => ha e (List.mem_cons_of_mem _ he)) (fun e he => hb e (List.mem_cons_of_mem _ he))
    simp only [List.map_cons, PyData.eqvAll, eqv_rowD (ha x List.mem_cons_self).2 (hb y List.mem_cons_self).2, ih]
    by_cases h : x = y
    · subst h; simp
    · simp [h]
theorem eqv_rowT {a b : List Row} (ha : okR a) (hb : okR b) : PyData.eqv (.tuple (a.map rowD)) (.tuple (b.map rowD)) = decide (a = b) := by
  simp only [PyData.eqv]
  exact eqv_rowL ha hb
theorem call_isCK {X : Cx} {K : PySem.W.Frag} {C : Addr} (hK : X.K = K) (c : C8.InsC K C) : CallR X (.builtin "isinstance") (fun xs H Q => ∃ a dx fs, xs = [.ref a, .ref C] ∧ H a = some (.ins C dx fs) ∧ Q (.bl true) H) := by
  subst hK
  exact C8.call_isC c
theorem okR_perm {a b : List Row} (h : SrR a b) (hb : okR b) : okR a := fun e he => hb e (h.2.perm.mem_iff.mp he)
/-- two tables, by what they hold -/
def RT (CT : Addr) (a b : Addr) (z : Bool) (H : Hp) : Prop := ∃ e1 e2 s1 s2, Tb CT H a e1 ∧ Tb CT H b e2 ∧ okR e1 ∧ okR e2 ∧ SrR s1 e1 ∧ SrR s2 e2 ∧ z = decide (s1 = s2)
section
variable {P : Program} {w : World} {K : PySem.W.Frag} {mg : Str → Option Value} {base : Heap} {f : Addr} {fd : FuncData} {CT CB CW CO : Addr}
abbrev sEq : Stmt := inClass (top 21) 1
theorem scEq : FnScope ["self", "other"] ["self", "other"] (defScope sEq) := ⟨rfl, rfl, rfl, by decide +kernel, rfl, by decide +kernel, by decide +kernel⟩
theorem ok_eq (B : Bl mg) (X : TX K CT) (g : mg "Table" = some (.ref CT)) (F : FnM K "__eq__" "Table.__eq__" sEq f fd) : FnOk P w K mg base CX0 1 f fd ["self", "other"] (spEqB (RT CT)) := by
  refine F.ok scEq (fun vs H Q E h => ?_) (fun cdv A outer s H vs Q E hr h => ?_)
  · obtain ⟨a, b, z, rfl, _⟩ := h
    rfl
  · obtain ⟨a, b, z, rfl, ⟨e1, e2, s1, s2, h1, h2, o1, o2, r1, r2, rfl⟩, k⟩ := h
    have hu : (A.deeper (envOfC "Table.__eq__" (defScope sEq) s.heap.objs.size f cdv)).units + 64 < cLine := by have := hr.un; omega
    refine ⟨_, pss_one (ps_ret (pe_and (pe_callB (call_isCK (K := K) rfl X.ic) (by rfl) B.isi boot_isinstance (pa_cons (pv 1) (pa_cons (pe_glob (v := .ref CT) (by rfl) g rfl) pa_nil)))
      (pe_one (pe_cmpR (op_eqD hu) (pe_fld (pv 0) rfl) (pe_fld (pv 1) rfl) (nomark _))))), ?_⟩
    obtain ⟨dx, fs, te, nd, us, es, i1, i2, i3, i4, i5, i6, i7, i8⟩ := h1
    obtain ⟨dy, gs, tf, ne, vs, fs', j1, j2, j3, j4, j5, j6, j7, j8⟩ := h2
    obtain rfl := r1.uniq i7
    obtain rfl := r2.uniq j7
    have ok1 := okR_perm r1 o1
    have ok2 := okR_perm r2 o2
    have c1 : Ev (tCB (fun xs H Q => ∃ a dx fs, xs = [.ref a, .ref CT] ∧ H a = some (.ins CT dx fs) ∧ Q (.bl true) H) (tCons (tVar 1) (tCons (tC (.ref CT)) tNil))) (start ["self", "other"] [V.ref a, .ref b]) H (.bl true) := fun H1 e Q1 q1 => ⟨.ref b, rfl, b, dy, gs, rfl, e _ _ j1, q1 H1 (Ex.refl _)⟩
    have c2 : Ev (tOp (rEqD K) (tFld K (tVar 0) "entries") (tFld K (tVar 1) "entries")) (start ["self", "other"] [V.ref a, .ref b]) H (.bl (decide (s1 = s2))) := fun H1 e Q1 q1 => by
      refine ⟨.ref a, rfl, a, CT, dx, fs, .ref te, rfl, e _ _ i1, X.ic.cl, X.nE, i2, .ref b, rfl, b, CT, dy, gs, .ref tf, rfl, e _ _ j1, X.ic.cl, X.nE, j2, ?_⟩
      exact ⟨_, _, rows_dp (e _ _ i5) (i6.mono e) ok1, rows_dp (e _ _ j5) (j6.mono e) ok2, rows_shaped ok1, rows_shaped ok2, by rw [eqv_rowT ok1 ok2]; exact q1 H1 (Ex.refl _)⟩
    exact s_ret (v := .bl (true && decide (s1 = s2))) (ev_andV c1 fun _ => c2) k
def DT (CT : Addr) : EqvB := DInsB CT (RT CT)
theorem dt_of {H : Hp} {a b : Addr} {e1 e2 s1 s2 : List Row} (h1 : Tb CT H a e1) (h2 : Tb CT H b e2) (o1 : okR e1) (o2 : okR e2) (r1 : SrR s1 e1) (r2 : SrR s2 e2) : DT CT (.ref a) (.ref b) (decide (s1 = s2)) H := by
  obtain ⟨dx, fs, te, nd, us, es, i1, _⟩ := id h1
  obtain ⟨dy, gs, tf, ne, vs, fs', j1, _⟩ := id h2
  exact ⟨a, b, dx, dy, fs, gs, rfl, rfl, i1, j1, e1, e2, s1, s2, h1, h2, o1, o2, r1, r2, rfl⟩
structure MqT (P : Program) (w : World) (K : PySem.W.Frag) (mg : Str → Option Value) (base : Heap) (CT : Addr) : Prop where
  ex : ∃ (fE : Addr) (fd : FuncData), Meth K CT "__eq__" fE ∧ FnOk P w K mg base CX0 1 fE fd ["self", "other"] (spEqB (RT CT)) ∧ Binds K fd ["self", "other"] []
theorem rc_DT {X : Cx} (M : MqT X.prog X.w X.K X.mg X.base CT) : RcB X 1 (DT CT) := by
  obtain ⟨fE, fd, me, Fn, b⟩ := M.ex
  exact rcB_ins (E := E0) Fn me.at_ me.fn b pass0
end
end Wk

set_option Elab.async false
set_option linter.all false
set_option maxRecDepth 100000
set_option maxHeartbeats 4000000
namespace Wk
open PySem PySem.Spec PyProof.Rows L2 Evl
theorem rows_dl {K : PySem.W.Frag} {H : Hp} {t : Addr} {us : List V} {es : List Row} (ht : H t = some (.lst us)) (hus : EsT H us es) (hes : okR es) : Dp K H (.ref t) (.list (es.map rowD)) := by
  refine Dq.dp ?_ (.lst ht (hus.dq fun e he => (hes e he).2))
  simp only [PyData.canLay0]
  exact (lay_rows hes).1
theorem rows_shl {es : List Row} (hes : okR es) : SeqAt.shaped (.list (es.map rowD)) = true := by
  unfold SeqAt.shaped
  obtain ⟨h1, h2⟩ := lay_rows hes
  rw [Bool.and_eq_true]
  refine ⟨by simp only [PyData.canLay0]; exact h1, decide_eq_true ?_⟩
  simp only [PyData.depth]
  omega
section
variable {P : Program} {w : World} {K : PySem.W.Frag} {mg : Str → Option Value} {base : Heap} {f : Addr} {fd : FuncData} {CT : Addr}
/-! law -/
def spLaw (K : PySem.W.Frag) : Sp := fun vs H Q _ => ∃ (a : Addr) (ns : List Int), vs = [.ref a] ∧ SqL K H a (ns.map V.int) ∧ ns.length ≤ 63 ∧ ∀ H', Q (.bl true) H'
abbrev sLaw : Stmt := top 37
abbrev nLaw : List Str := ["_law_script", "_law_pool_here", "_law_nexts", "_law_rows", "_law_tables", "_law_due_here", "_law_alike"]
theorem scLaw : FnScope nLaw ["_law_script"] (defScope sLaw) := ⟨rfl, rfl, rfl, by decide +kernel, rfl, by decide +kernel, by decide +kernel⟩
structure Cs (P : Program) (w : World) (K : PySem.W.Frag) (mg : Str → Option Value) (base : Heap) (CT : Addr) : Prop where
  pool : Cal P w K mg base "_law_pool" ["_law_script"] 1 (spPool K)
  draw : Cal P w K mg base "_law_draw" ["_law_pool_here", "_law_many"] 1 spDrw
  ent : Cal P w K mg base "_law_entries" ["_law_pool_here", "_law_many", "_law_nexts"] 3 spEnt
  oth : Cal P w K mg base "_law_other" ["_law_pool_here", "_law_entries_here", "_law_nexts"] 4 spOth
  pnt : Cal P w K mg base "_law_painted" ["_law_entries_here"] 1 spPnt
  due : Cal P w K mg base "_law_due" ["_law_one", "_law_other_here"] 1 spDue
  told : Cal P w K mg base "_law_told" nTo 1 spTo
  pg : Cal P w K mg base "table_parting" ["one", "other"] 4 (spPg CT)
  mkT : MkT P w K mg base CT
  mq : MqT P w K mg base CT
abbrev WF : L2.St → XK := fun _ _ _ _ => False
def nxs : List V := [.str "here", .str "drop", .int 0, .int 1, .int 2, .int 3, .int 4, .int 5, .int 6, .int 7]
theorem nxs_ok : ∀ v ∈ nxs, NxV v := by
  intro v hv
  unfold nxs at hv
  simp only [List.mem_cons, List.not_mem_nil, or_false] at hv
  rcases hv with rfl | rfl | rfl | rfl | rfl | rfl | rfl | rfl | rfl | rfl
  · exact .inl rfl
  · exact .inr (.inl rfl)
  · exact .inr (.inr ⟨0, by decide, rfl⟩)
  · exact .inr (.inr ⟨1, by decide, rfl⟩)
  · exact .inr (.inr ⟨2, by decide, rfl⟩)
  · exact .inr (.inr ⟨3, by decide, rfl⟩)
  · exact .inr (.inr ⟨4, by decide, rfl⟩)
  · exact .inr (.inr ⟨5, by decide, rfl⟩)
  · exact .inr (.inr ⟨6, by decide, rfl⟩)
  · exact .inr (.inr ⟨7, by decide, rfl⟩)
theorem ok_law (B : Bl mg) (hso : mg "sorted" = none) (X : TX K CT) (S : Cs P w K mg base CT) (F : FnP K "law" sLaw f fd) : FnOk P w K mg base CX0 9 f fd ["_law_script"] (spLaw K) := by
  obtain ⟨fI, fdI, mk, FI, bI⟩ := S.mkT.ex
  refine F.ok scLaw (fun vs H Q E h => ?_) (fun cdv A outer s H vs Q E hr h => ?_)
  · obtain ⟨a, ns, rfl, _⟩ := h
    rfl
  · obtain ⟨a0, ns, rfl, hS, hns, k⟩ := h
    have r7 : Room 7 _ := hr.mono (by decide)
    have r1 : Room 1 _ := hr.mono (by decide)
    have hu : (A.deeper (envOfC "law" (defScope sLaw) s.heap.objs.size f cdv)).units + 64 < cLine := by have := hr.un; omega
    refine ⟨_, pss_cons (ps_set (i := 1) scLaw.nd rfl (Or.inl rfl) (pe_cal S.pool hr (by rfl) (pa_cons (pv 0) pa_nil)))
      (pss_cons (ps_set (i := 2) scLaw.nd rfl (Or.inl rfl) (pe_lst (pa_cons pe_str (pa_cons pe_str (pa_cons pe_int (pa_cons pe_int (pa_cons pe_int (pa_cons pe_int (pa_cons pe_int (pa_cons pe_int (pa_cons pe_int (pa_cons pe_int pa_nil))))))))))))
      (pss_cons (ps_set (i := 3) scLaw.nd rfl (Or.inl rfl) (pe_lst (pa_cons (pe_cal S.ent hr (by rfl) (pa_cons (pv 1) (pa_cons (pe_cal S.draw hr (by rfl) (pa_cons (pv 1) (pa_cons pe_int pa_nil))) (pa_cons (pv 2) pa_nil)))) pa_nil)))
      (pss_cons (ps_expr (pe_bm PySem.F.plainAttrs_list PySem.F.slot_list_append PySem.F.type_list_append mt_append (pv 3) (pa_cons (pe_cal S.oth hr (by rfl) (pa_cons (pv 1) (pa_cons (pe_ix (ix_listK (K := K) rfl) (pv 3) pe_int (fun _ _ => rfl)) (pa_cons (pv 2) pa_nil)))) pa_nil)))
      (pss_cons (ps_set (i := 4) scLaw.nd rfl (Or.inl rfl) (pe_lst (pa_cons (pe_mkAt (CX := CX0) (W := WF) mk FI r7 (by rfl) S.mkT.g bI (fun _ _ _ _ _ _ _ h => h.elim) (pa_cons (pe_callTy (call_listK2 (K := K) rfl) (by rfl) B.list PyProof.Rows.boot_list (pa_cons (pe_ix (ix_listK (K := K) rfl) (pv 3) pe_int (fun _ _ => rfl)) pa_nil)) pa_nil))
        (pa_cons (pe_mkAt (CX := CX0) (W := WF) mk FI r7 (by rfl) S.mkT.g bI (fun _ _ _ _ _ _ _ h => h.elim) (pa_cons (pe_callTy (call_listK2 (K := K) rfl) (by rfl) B.list PyProof.Rows.boot_list (pa_cons (pe_ix (ix_listK (K := K) rfl) (pv 3) pe_int (fun _ _ => rfl)) pa_nil)) pa_nil)) pa_nil))))
      (pss_cons (ps_set (i := 5) scLaw.nd rfl (Or.inl rfl) (pe_cal S.due hr (by rfl) (pa_cons (pe_cal S.pnt hr (by rfl) (pa_cons (pe_ix (ix_listK (K := K) rfl) (pv 3) pe_int (fun _ _ => rfl)) pa_nil)) (pa_cons (pe_cal S.pnt hr (by rfl) (pa_cons (pe_ix (ix_listK (K := K) rfl) (pv 3) pe_int (fun _ _ => rfl)) pa_nil)) pa_nil))))
      (pss_cons (ps_if (pt_not (pt_val (pe_cal S.told hr (by rfl) (pa_cons (pe_cal S.pg hr (by rfl) (pa_cons (pe_ix (ix_listK (K := K) rfl) (pv 4) pe_int (fun _ _ => rfl)) (pa_cons (pe_ix (ix_listK (K := K) rfl) (pv 4) pe_int (fun _ _ => rfl)) pa_nil))) (pa_cons (pv 5) pa_nil))))) (pss_one (ps_ret pe_bl)) pss_nil)
      (pss_cons (ps_if (PW.pt (pw_or (pt_cmp (pc_notN (pe_cal S.pg hr (by rfl) (pa_cons (pe_ix (ix_listK (K := K) rfl) (pv 4) pe_int (fun _ _ => rfl)) (pa_cons (pe_ix (ix_listK (K := K) rfl) (pv 4) pe_int (fun _ _ => rfl)) pa_nil)))))
        (pw_or1 (pt_cmp (pc_notN (pe_cal S.pg hr (by rfl) (pa_cons (pe_ix (ix_listK (K := K) rfl) (pv 4) pe_int (fun _ _ => rfl)) (pa_cons (pe_mkAt (CX := CX0) (W := WF) mk FI r7 (by rfl) S.mkT.g bI (fun _ _ _ _ _ _ _ h => h.elim) (pa_cons (pe_ix (ix_listK (K := K) rfl) (pv 3) pe_int (fun _ _ => rfl)) pa_nil)) pa_nil)))))))) (pss_one (ps_ret pe_bl)) pss_nil)
      (pss_cons (ps_if (pt_not (pt_val (pe_cal S.told hr (by rfl) (pa_cons (pe_cal S.pg hr (by rfl) (pa_cons (pe_ix (ix_listK (K := K) rfl) (pv 4) pe_int (fun _ _ => rfl)) (pa_cons (pe_ix (ix_listK (K := K) rfl) (pv 4) pe_int (fun _ _ => rfl)) pa_nil))) (pa_cons (pv 5) pa_nil))))) (pss_one (ps_ret pe_bl)) pss_nil)
      (pss_cons (ps_set (i := 6) scLaw.nd rfl (Or.inl rfl) (pe_cmpR (op_eqD hu) (pe_callB (cr_sortedR (K := K) rfl) (by rfl) hso PyProof.Rows.boot_sorted (pa_cons (pe_ix (ix_listK (K := K) rfl) (pv 3) pe_int (fun _ _ => rfl)) pa_nil)) (pe_callB (cr_sortedR (K := K) rfl) (by rfl) hso PyProof.Rows.boot_sorted (pa_cons (pe_ix (ix_listK (K := K) rfl) (pv 3) pe_int (fun _ _ => rfl)) pa_nil)) (nomark _)))
      (pss_cons (ps_if (pt_cmpR op_ne (pe_cmpR (op_eqB (rc_DT S.mq) r1) (pe_ix (ix_listK (K := K) rfl) (pv 4) pe_int (fun _ _ => rfl)) (pe_ix (ix_listK (K := K) rfl) (pv 4) pe_int (fun _ _ => rfl)) (nomark _)) (pv 6) (nomark _)) (pss_one (ps_ret pe_bl)) pss_nil)
      (pss_one (ps_ret (pe_and (pe_cmpR (op_eqD hu) (pe_fld (pe_ix (ix_listK (K := K) rfl) (pv 4) pe_int (fun _ _ => rfl)) rfl) (pe_callTy (call_tupleK (K := K) rfl) (by rfl) B.tuple PyProof.Rows.boot_tuple (pa_cons (pe_callB (cr_sortedR (K := K) rfl) (by rfl) hso PyProof.Rows.boot_sorted (pa_cons (pe_ix (ix_listK (K := K) rfl) (pv 3) pe_int (fun _ _ => rfl)) pa_nil)) pa_nil)) (nomark _))
        (pe_one (pe_cmpR (op_eqD hu) (pe_fld (pe_ix (ix_listK (K := K) rfl) (pv 4) pe_int (fun _ _ => rfl)) rfl) (pe_callTy (call_tupleK (K := K) rfl) (by rfl) B.tuple PyProof.Rows.boot_tuple (pa_cons (pe_callB (cr_sortedR (K := K) rfl) (by rfl) hso PyProof.Rows.boot_sorted (pa_cons (pe_ix (ix_listK (K := K) rfl) (pv 3) pe_int (fun _ _ => rfl)) pa_nil)) pa_nil)) (nomark _)))))))))))))))), ?_⟩
    refine ⟨.ref a0, rfl, a0, ns, rfl, hS, hns, fun G H1 p g c eG hP => ?_⟩
    refine g_name ?_
    dsimp only
    change tSeq (tAsg _ _) _ _ [some (.ref a0), some (.ref p), none, none, none, none, none] H1
    -- the ways
    refine q_asgW ?_
    refine ⟨by show 10 ≤ sizeLine; decide, fun nl hnl => ?_⟩
    have gN := Gq.new (o := .lst nxs) hP hnl
    have hPN := gN.pl
    have gnl : (upd G nl (.lst nxs)) nl = some (.lst nxs) := upd_same
    change tSeq (tAsg _ _) _ _ [some (.ref a0), some (.ref p), some (.ref nl), none, none, none, none] (upd H1 nl (.lst nxs))
    generalize upd G nl (.lst nxs) = G1 at *
    generalize upd H1 nl (.lst nxs) = H2 at *
    -- the rows
    refine q_asgW ?_
    refine ⟨.ref p, rfl, ep_drw (g := g) (c := c) (G := G1) (z := 23) rfl ev_c (by decide) (by decide) H2 hPN _ fun H3 v g3 hv => ?_⟩
    obtain ⟨j1, rfl, hj0, hj1⟩ := hv
    obtain ⟨m1, rfl⟩ : ∃ jn : Nat, j1 = (jn : Int) := ⟨j1.toNat, by omega⟩
    refine ⟨.ref nl, rfl, G1, p, g, c, nl, m1, nxs, rfl, g3.pl, by omega, gnl, by decide, by decide, nxs_ok, fun G2 H4 L1 us1 es1 g4 hL1 hus1 hes1 => ⟨by show 1 ≤ sizeLine; decide, fun R hR => ?_⟩⟩
    have hes22 := hes1.le (show m1 ≤ 22 by omega)
    have o1 := hes1.le (show m1 ≤ 24 by omega)
    have hP4 := g4.pl
    have gnl2 := g4.ex _ _ gnl
    have nRp := hP4.np hR
    have nRg := hP4.ng hR
    have gR := fresh_back hP4.ex hR
    have e5 := Ex.new (o := .lst [V.ref L1]) hR
    have hR5 : (upd H4 R (.lst [V.ref L1])) R = some (.lst [V.ref L1]) := upd_same
    have hP5 := hP4.ext e5
    generalize upd H4 R (.lst [V.ref L1]) = H5 at *
    change tSeq (tDrop _) _ _ [some (.ref a0), some (.ref p), some (.ref nl), some (.ref R), none, none, none] H5
    clear g3 g4 gN hPN gnl hP hnl
    refine ⟨.ref R, rfl, .inl ⟨rfl, _, sq_of hR5⟩, .ref p, rfl, .ref R, rfl, R, _, 0, .ref L1, rfl, rfl, sq_of hR5, atI_nat (j := 0) rfl, .ref nl, rfl, G2, p, g, c, L1, nl, us1, nxs, es1, rfl, hP5, hL1, hus1, hes22, gnl2, rfl, nxs_ok, fun H6 M2 us2 es2 off hL2 hus2 o2 => ?_⟩
    have hR6 := off R _ nRp nRg hR5
    have eG6 : Ex G2 H6 := fun b o hb => off b o (fun z => by rw [z, hP5.gp] at hb; cases hb) (fun z => by rw [z, hP5.gg] at hb; cases hb) (hP5.ex _ _ hb)
    refine ⟨R, [.ref L1], .ref M2, rfl, rfl, hR6, by show 1 < sizeLine; decide, ?_⟩
    have eG7 : Ex G2 (upd H6 R (.lst ([V.ref L1] ++ [V.ref M2]))) := fun b o hb => by
      rw [upd_ne (fun z => by rw [z, gR] at hb; cases hb)]
      exact eG6 _ _ hb
    have hL1' := eG7 _ _ hL1
    have hus1' := hus1.mono eG7
    have nLR : M2 ≠ R := fun z => by
      rw [z, hR6] at hL2
      have hu2 : [V.ref L1] = us2 := by injection hL2 with h; injection h
      rw [← hu2] at hus2
      cases hus2 with
      | cons h t =>
        rw [eG6 _ _ hL1] at h
        cases h
    have hL2' : (upd H6 R (.lst ([V.ref L1] ++ [V.ref M2]))) M2 = some (.lst us2) := by rw [upd_ne nLR]; exact hL2
    have hus2' := hus2.updL (o := .lst ([V.ref L1] ++ [V.ref M2])) hR6
    have hRR : (upd H6 R (.lst ([V.ref L1] ++ [V.ref M2]))) R = some (.lst [V.ref L1, .ref M2]) := upd_same
    dsimp only
    change tSeq (tAsg _ _) _ _ [some (.ref a0), some (.ref p), some (.ref nl), some (.ref R), none, none, none] (upd H6 R (.lst ([V.ref L1] ++ [V.ref M2])))
    generalize upd H6 R (.lst ([V.ref L1] ++ [V.ref M2])) = H8 at *
    clear eG6 eG7 hR6 off hus2 hL2 nLR hus1 hL1 hR5 e5 hP5 hP4 gnl2 gR nRp nRg hR
    have hL1 := hL1'
    have hL2 := hL2'
    have hus1 := hus1'
    have hus2 := hus2'
    clear hL1' hL2' hus1' hus2'
    -- the tables
    refine q_asgW ?_
    refine ⟨.ref R, rfl, R, _, 0, .ref L1, rfl, rfl, sq_of hRR, atI_nat (j := 0) rfl, L1, us1, rfl, .inl (sq_of hL1), fun l1 hl1 => ?_⟩
    have x1 := Ex.new (o := .lst us1) hl1
    refine mk_tab (us := us1) (es := es1) (.inl upd_same) (hus1.mono x1) o1 fun t1 H9 x2 ht1 hT1 => ?_
    have e89 := x1.trans x2
    refine ⟨.ref R, rfl, R, _, 1, .ref M2, rfl, rfl, sq_of (e89 _ _ hRR), atI_nat (j := 1) rfl, M2, us2, rfl, .inl (sq_of (e89 _ _ hL2)), fun l2 hl2 => ?_⟩
    have x3 := Ex.new (o := .lst us2) hl2
    refine mk_tab (us := us2) (es := es2) (.inl upd_same) ((hus2.mono e89).mono x3) o2 fun t2 HA x4 ht2 hT2 => ?_
    have e9A := x3.trans x4
    refine ⟨by show 2 ≤ sizeLine; decide, fun Tt hTt => ?_⟩
    have eAB := Ex.new (o := .lst [V.ref t1, .ref t2]) hTt
    have hTT : (upd HA Tt (.lst [V.ref t1, .ref t2])) Tt = some (.lst [V.ref t1, .ref t2]) := upd_same
    have hT1 := hT1.mono (e9A.trans eAB)
    have hT2 := hT2.mono eAB
    change tSeq (tAsg _ _) _ _ [some (.ref a0), some (.ref p), some (.ref nl), some (.ref R), some (.ref Tt), none, none] (upd HA Tt (.lst [V.ref t1, .ref t2]))
    generalize upd HA Tt (.lst [V.ref t1, .ref t2]) = HB at *
    have e8B := (e89.trans e9A).trans eAB
    clear e89 e9A eAB x1 x2 x3 x4 hl1 hl2 ht1 ht2 hTt
    have hRR := e8B _ _ hRR
    have hL1 := e8B _ _ hL1
    have hL2 := e8B _ _ hL2
    have hus1 := hus1.mono e8B
    have hus2 := hus2.mono e8B
    clear e8B
    have w1 : ∀ i, i < 1024 → NxV (pnt (.str "drop") es1 i) := fun _ hi => pnt_nx o1 hi
    have w2 : ∀ i, i < 1024 → NxV (pnt (.str "drop") es2 i) := fun _ hi => pnt_nx o2 hi
    -- the due
    refine q_asgW ?_
    refine ⟨.ref R, rfl, R, _, 0, .ref L1, rfl, rfl, sq_of hRR, atI_nat (j := 0) rfl, L1, us1, es1, 24, rfl, hL1, hus1, o1, by decide, fun HC d1 nd1 eC hd1 => ?_⟩
    refine ⟨.ref R, rfl, R, _, 1, .ref M2, rfl, rfl, sq_of (eC _ _ hRR), atI_nat (j := 1) rfl, M2, us2, es2, 24, rfl, eC _ _ hL2, hus2.mono eC, o2, by decide, fun HD d2 nd2 eD hd2 => ?_⟩
    refine ⟨d1, d2, _, _, rfl, eD _ _ hd1, hd2, fun i hi => ⟨w1 i hi, w2 i hi⟩, fun HE eE => ?_⟩
    have eBE := (eC.trans eD).trans eE
    have hRR := eBE _ _ hRR
    have hL1 := eBE _ _ hL1
    have hL2 := eBE _ _ hL2
    have hus1 := hus1.mono eBE
    have hus2 := hus2.mono eBE
    have hTT := eBE _ _ hTT
    have hT1 := hT1.mono eBE
    have hT2 := hT2.mono eBE
    clear eBE eC eD hd1 hd2 nd1 nd2
    generalize hdu : adrV (ptg (pnt (V.str "drop") es1) (pnt (V.str "drop") es2)) = du at *
    change tSeq (tIfS _ _ _) _ _ [some (.ref a0), some (.ref p), some (.ref nl), some (.ref R), some (.ref Tt), some du, none] HE
    have t_ : ∀ {i : Nat} {u : V} {σ : L2.St} {Hx : Hp}, ([V.ref t1, .ref t2] : List V)[i]? = some u → σ[4]? = some (some (.ref Tt)) → Ex HE Hx → Ev (tOp (rIxL K) (tVar 4) (tC (.int (i : Int)))) σ Hx u := fun hu h4 e => ev_ixR (ev_var h4) ev_c (e _ _ hTT) hu
    have pg12 : ∀ {σ : L2.St} {Hx : Hp}, σ[4]? = some (some (.ref Tt)) → Ex HE Hx → Ev (tCall (spPg CT) [] E0 (tCons (tOp (rIxL K) (tVar 4) (tC (.int 0))) (tCons (tOp (rIxL K) (tVar 4) (tC (.int 1))) tNil))) σ Hx du := fun h4 e => ev_call (ea_cons (t_ (i := 0) rfl h4 e) (ea_cons (t_ (i := 1) rfl h4 e) ea_nil)) fun Hy ey Qy qy Ey => ⟨t1, t2, es1, es2, rfl, hT1.mono (e.trans ey), hT2.mono (e.trans ey), o1, o2, fun Hz ez => by rw [hdu]; exact qy Hz ez⟩
    have pg21 : ∀ {σ : L2.St} {Hx : Hp}, σ[4]? = some (some (.ref Tt)) → Ex HE Hx → Ev (tCall (spPg CT) [] E0 (tCons (tOp (rIxL K) (tVar 4) (tC (.int 1))) (tCons (tOp (rIxL K) (tVar 4) (tC (.int 0))) tNil))) σ Hx du := fun h4 e => ev_call (ea_cons (t_ (i := 1) rfl h4 e) (ea_cons (t_ (i := 0) rfl h4 e) ea_nil)) fun Hy ey Qy qy Ey => ⟨t2, t1, es2, es1, rfl, hT2.mono (e.trans ey), hT1.mono (e.trans ey), o2, o1, fun Hz ez => by rw [ptg_comm, hdu]; exact qy Hz ez⟩
    have told : ∀ {te : TE} {σ : L2.St} {Hx : Hp}, Ev te σ Hx du → σ[5]? = some (some du) → Ev (tCall spTo [] E0 (tCons te (tCons (tVar 5) tNil))) σ Hx (.bl true) := fun h h5 => ev_call (ea_cons h (ea_cons (ev_var h5) ea_nil)) fun Hy ey Qy qy Ey => ⟨_, by rw [← hdu]; rfl, fun Hz ez => qy Hz ez⟩
    refine q_when (b := !true) (et_not (et_B (told (pg12 rfl (Ex.refl HE)) rfl))) (fun z => by cases z) fun _ HF eF => ?_
    have n11 : ∀ {σ : L2.St} {Hx : Hp}, σ[4]? = some (some (.ref Tt)) → Ex HE Hx → Ev (tCall (spPg CT) [] E0 (tCons (tOp (rIxL K) (tVar 4) (tC (.int 0))) (tCons (tOp (rIxL K) (tVar 4) (tC (.int 0))) tNil))) σ Hx .non := fun h4 e => ev_call (ea_cons (t_ (i := 0) rfl h4 e) (ea_cons (t_ (i := 0) rfl h4 e) ea_nil)) fun Hy ey Qy qy Ey => ⟨t1, t1, es1, es1, rfl, hT1.mono (e.trans ey), hT1.mono (e.trans ey), o1, o1, fun Hz ez => by rw [ptg_none fun _ _ => rfl]; exact qy Hz ez⟩
    have c1 : Ev (tNotN (tCall (spPg CT) [] E0 (tCons (tOp (rIxL K) (tVar 4) (tC (.int 0))) (tCons (tOp (rIxL K) (tVar 4) (tC (.int 0))) tNil)))) [some (.ref a0), some (.ref p), some (.ref nl), some (.ref R), some (.ref Tt), some du, none] HF (.bl (!decide (V.non = V.non))) := fun Hx ex Qx qx => n11 rfl (eF.trans ex) Hx (Ex.refl _) _ fun Hy ey => qx Hy ey
    have c2 : Ev (tNotN (tCall (spPg CT) [] E0 (tCons (tOp (rIxL K) (tVar 4) (tC (.int 1))) (tCons (tMkAt CT (spInit CT) WF (tCons (tOp (rIxL K) (tVar 3) (tC (.int 1))) tNil)) tNil)))) [some (.ref a0), some (.ref p), some (.ref nl), some (.ref R), some (.ref Tt), some du, none] HF (.bl (!decide (V.non = V.non))) := fun Hx ex Qx qx =>
      t_ (i := 1) rfl rfl (eF.trans ex) Hx (Ex.refl _) _ fun Hy ey => (ev_ixR (K := K) (σ := [some (.ref a0), some (.ref p), some (.ref nl), some (.ref R), some (.ref Tt), some du, none]) (H := Hy) (ta := tVar 3) (tb := tC (.int 1)) (i := 1) (ev_var rfl) ev_c (((eF.trans ex).trans ey) _ _ hRR) rfl) Hy (Ex.refl _) _ fun Hz ez => by
        have e1z := ((eF.trans ex).trans ey).trans ez
        refine mk_tab (us := us2) (es := es2) (.inl (e1z _ _ hL2)) (hus2.mono e1z) o2 fun t3 Hw ew ht3 hT3 => ?_
        exact ⟨t2, t3, es2, es2, rfl, hT2.mono (e1z.trans ew), hT3, o2, o2, fun Hv ev => by rw [ptg_none fun _ _ => rfl]; exact qx Hv (((ey.trans ez).trans ew).trans ev)⟩
    refine q_when (b := !decide (V.non = V.non) || !decide (V.non = V.non)) (et_or (et_B c1) fun _ => et_B c2) (fun z => by rw [decide_eq_true rfl] at z; cases z) fun _ HG eG => ?_
    have eFG := eF.trans eG
    refine q_when (b := !true) (et_not (et_B (told (pg21 rfl eFG) rfl))) (fun z => by cases z) fun _ HI eI => ?_
    have eEI := eFG.trans eI
    clear c1 c2 n11 told pg12 pg21
    -- alike
    refine q_asgW ?_
    have k1 : okR es1 := fun e he => ⟨(o1.it e he).1, (o1.it e he).2.2⟩
    have k2 : okR es2 := fun e he => ⟨(o2.it e he).1, (o2.it e he).2.2⟩
    refine (ev_ixR (K := K) (σ := [some (.ref a0), some (.ref p), some (.ref nl), some (.ref R), some (.ref Tt), some du, none]) (H := HI) (ta := tVar 3) (tb := tC (.int 0)) (i := 0) (ev_var rfl) ev_c (eEI _ _ hRR) rfl) HI (Ex.refl _) _ fun HJ eJ => ?_
    have eEJ := eEI.trans eJ
    refine ⟨L1, us1, es1, rfl, .inl (sq_of (eEJ _ _ hL1)), hus1.mono eEJ, o1.nd, fun e he => flat_nx (o1.it e he).2.2, fun ys1 s1 q1 hs1 hy1 hq1 => ?_⟩
    have x1 := Ex.new (o := .lst ys1) hq1
    have h1 : (upd HJ q1 (.lst ys1)) q1 = some (.lst ys1) := upd_same
    have hy1 := hy1.mono x1
    generalize upd HJ q1 (.lst ys1) = HK at *
    have eEK := eEJ.trans x1
    refine (ev_ixR (K := K) (σ := [some (.ref a0), some (.ref p), some (.ref nl), some (.ref R), some (.ref Tt), some du, none]) (H := HK) (ta := tVar 3) (tb := tC (.int 1)) (i := 1) (ev_var rfl) ev_c (eEK _ _ hRR) rfl) HK (Ex.refl _) _ fun HL eL => ?_
    have eEL := eEK.trans eL
    refine ⟨M2, us2, es2, rfl, .inl (sq_of (eEL _ _ hL2)), hus2.mono eEL, o2.nd, fun e he => flat_nx (o2.it e he).2.2, fun ys2 s2 q2 hs2 hy2 hq2 => ?_⟩
    have x2 := Ex.new (o := .lst ys2) hq2
    have h2 : (upd HL q2 (.lst ys2)) q2 = some (.lst ys2) := upd_same
    have hy2 := hy2.mono x2
    generalize upd HL q2 (.lst ys2) = HM at *
    have eEM := eEL.trans x2
    have ks1 := okR_perm hs1 k1
    have ks2 := okR_perm hs2 k2
    have eqv : PyData.eqv (.list (s1.map rowD)) (.list (s2.map rowD)) = decide (s1 = s2) := by
      rw [PyData.eqv]
      exact eqv_rowL ks1 ks2
    refine ⟨_, _, rows_dl ((eL.trans x2) _ _ h1) (hy1.mono (eL.trans x2)) ks1, rows_dl h2 hy2 ks2, rows_shl ks1, rows_shl ks2, ?_⟩
    rw [eqv]
    generalize hal : decide (s1 = s2) = al
    change tSeq (tIfS _ _ _) _ _ [some (.ref a0), some (.ref p), some (.ref nl), some (.ref R), some (.ref Tt), some du, some (.bl al)] HM
    have d1 : Ev (tOp (rEqB (DT CT)) (tOp (rIxL K) (tVar 4) (tC (.int 0))) (tOp (rIxL K) (tVar 4) (tC (.int 1)))) [some (.ref a0), some (.ref p), some (.ref nl), some (.ref R), some (.ref Tt), some du, some (.bl al)] HM (.bl al) := fun Hx ex Qx qx => t_ (i := 0) rfl rfl (eEM.trans ex) Hx (Ex.refl _) _ fun Hy ey => t_ (i := 1) rfl rfl ((eEM.trans ex).trans ey) Hy (Ex.refl _) _ fun Hz ez =>
      ⟨_, dt_of (hT1.mono (((eEM.trans ex).trans ey).trans ez)) (hT2.mono (((eEM.trans ex).trans ey).trans ez)) k1 k2 hs1 hs2, fun Hw ew => by rw [hal]; exact qx Hw ((ey.trans ez).trans ew)⟩
    refine q_when (b := !decide (V.bl al = V.bl al)) (et_test (ev_op (r := rNe) d1 (ev_var rfl) (rv_ne rfl))) (fun z => by rw [decide_eq_true rfl] at z; cases z) fun _ HN eN => ?_
    have eEN := eEM.trans eN
    have z1 := ask_sorted (H := HN) (σ := [some (.ref a0), some (.ref p), some (.ref nl), some (.ref R), some (.ref Tt), some du, some (.bl al)]) (tx := tOp (rIxL K) (tVar 4) (tC (.int 0))) (tr := tOp (rIxL K) (tVar 3) (tC (.int 0))) X (t_ (i := 0) rfl rfl eEN) (hT1.mono eEN) (ev_ixR (i := 0) (ev_var rfl) ev_c (eEN _ _ hRR) rfl) (eEN _ _ hL1) (hus1.mono eEN) o1
    have z2 := ask_sorted (H := HN) (σ := [some (.ref a0), some (.ref p), some (.ref nl), some (.ref R), some (.ref Tt), some du, some (.bl al)]) (tx := tOp (rIxL K) (tVar 4) (tC (.int 1))) (tr := tOp (rIxL K) (tVar 3) (tC (.int 1))) X (t_ (i := 1) rfl rfl eEN) (hT2.mono eEN) (ev_ixR (i := 1) (ev_var rfl) ev_c (eEN _ _ hRR) rfl) (eEN _ _ hL2) (hus2.mono eEN) o2
    exact s_ret (v := .bl (true && true)) (ev_andV z1 fun _ => z2) fun H5 e5 => k H5
end
end Wk

set_option Elab.async false
set_option linter.all false
set_option maxRecDepth 100000
set_option maxHeartbeats 4000000
namespace Wk
open PySem PySem.Spec PyProof.Rows L2 Evl
/-! the head's facts with more of them -/
abbrev AlX : Type := He.AlD × Bool
def obsX (n : Nat) (fa : List He.Fa) (fn : List He.DefD) (eb : PySem.W.Frag → Bool) (g : Addr → Option Obj) : AlX := (He.obsDG n fa fn g, eb (He.frG g (He.asD g n)))
def hookX (n : Nat) (fa : List He.Fa) (fn : List He.DefD) (eb : PySem.W.Frag → Bool) : PySem.W.Hook where
  α := AlX
  obs := fun s => obsX n fa fn eb s.heap.get?
  val := fun _ => (He.valD fn, true)
  says := fun _ h => ∃ K : PySem.W.Frag, K.In h ∧ He.SaysD fa fn K ∧ eb K = true
  of := fun _ _ e => ⟨_, He.frG_in, congrArg Prod.fst e, congrArg Prod.snd e⟩
  keeps := fun _ _ _ ⟨K, hK, c⟩ k => ⟨K, PySem.W.Frag.In.keeps hK k, c⟩
theorem obsX_eq {n : Nat} {fa : List He.Fa} {fn : List He.DefD} {eb : PySem.W.Frag → Bool} {g : Addr → Option Obj} {s : Shared} (h : ∀ a, g a = s.heap.get? a) : obsX n fa fn eb g = (hookX n fa fn eb).obs s := by
  have e : g = s.heap.get? := funext h
  rw [e]
  rfl
theorem calOf {P : Program} {w : World} {K : PySem.W.Frag} {mg : Str → Option Value} {base : Heap} {x q : Str} {params : Arguments} {body : List Stmt} {scope : Scope} {f : Addr} {fd : FuncData} {ps : List Str} {k : Nat} {sp : Sp} (F : FunD K x q params body scope [] [] f fd) (o : FnOk P w K mg base CX0 k f fd ps sp) (g : mg x = some (.ref f)) (b : Binds K fd ps []) : Cal P w K mg base x ps k sp := ⟨⟨f, fd, o, g, F.kp, b⟩⟩
def dG (x : Str) (i : Nat) : He.DefD := ⟨(x, none), x, x, defArgs (top i), defBody (top i), defScope (top i), [], []⟩
def dM (c m q : Str) (i j : Nat) : He.DefD := ⟨(c, some m), m, q, defArgs (inClass (top i) j), defBody (inClass (top i) j), defScope (inClass (top i) j), [], []⟩
end Wk

set_option Elab.async false
set_option linter.all false
set_option maxRecDepth 100000
set_option maxHeartbeats 2000000
namespace Wk
open PySem PySem.Spec PyProof.Rows L2 Evl
def insB (K : PySem.W.Frag) (C : Addr) : Bool := He.eqO (PySem.W.findIn K (.ref C) "__class__") (some (some (.builtin "object.__class__"))) && (He.eqO (PySem.W.specialIn K (.builtin "object.__class__") "__get__") (some (some (.builtin "getset_descriptor.__get__"))) && (decide (PySem.W.takesIn K (.builtin "object.__class__") = some true) &&
  (decide (PySem.W.mroIn K C (.type "object") = some true) && (decide (PySem.W.kitOne K (.ref C) (.ref C) = some true) && decide (PySem.W.kitOne K (.ref C) (.type "str") = some false)))))
theorem insB_ok {K : PySem.W.Frag} {C : Addr} (h : insB K C = true) (cl : Cls K C) (nE : NoAttr K C "entries") (nN : NoAttr K C "_nexts") : TX K C := by
  obtain ⟨h1, h⟩ := He.ba h
  obtain ⟨h2, h⟩ := He.ba h
  obtain ⟨h3, h⟩ := He.ba h
  obtain ⟨h4, h⟩ := He.ba h
  obtain ⟨h5, h6⟩ := He.ba h
  exact ⟨⟨cl, He.eqO_ok h1, He.eqO_ok h2, of_decide_eq_true h3, of_decide_eq_true h4, of_decide_eq_true h5⟩, nE, nN, of_decide_eq_true h6⟩

end Wk

set_option Elab.async false
set_option linter.all false
set_option maxRecDepth 100000
set_option maxHeartbeats 0
namespace Wk
open PySem PySem.Spec PyProof.Rows L2 Evl
def fn : List He.DefD := ([dG "is_integer" 6, dG "is_between" 7, dG "is_row" 8, dG "is_tuple_of" 9, dG "is_router" 10, dG "is_range" 13, dG "is_address" 14, dG "addresses" 15, dG "beginnings" 16, dG "refuse_wrong_entries" 22, dG "is_entry" 23, dG "is_end" 24, dG "table_parting" 25, dG "_law_pool" 27, dG "_law_draw" 28, dG "_law_bits" 29, dG "_law_entries" 30, dG "_law_painted" 31, dG "_law_before" 32, dG "_law_halves" 33, dG "_law_other" 34, dG "_law_due" 35, dG "_law_told" 36, dG "law" 37, dM "Table" "__init__" "Table.__init__" 21 0, dM "Table" "__eq__" "Table.__eq__" 21 1, dM "Table" "onward" "Table.onward" 21 2] : List He.DefD)
def fa : List He.Fa := ([.glo "is_integer", .glo "is_between", .glo "is_row", .glo "is_tuple_of", .glo "is_router", .glo "is_range", .glo "is_address", .glo "addresses", .glo "beginnings", .glo "refuse_wrong_entries", .glo "is_entry", .glo "is_end", .glo "table_parting", .glo "_law_pool", .glo "_law_draw", .glo "_law_bits", .glo "_law_entries", .glo "_law_painted", .glo "_law_before", .glo "_law_halves", .glo "_law_other", .glo "_law_due", .glo "_law_told", .glo "law", .free "isinstance", .free "len", .free "tuple", .free "list", .free "int", .free "bool"] : List He.Fa) ++ ([.free "str", .free "all", .free "set", .free "enumerate", .free "range", .free "abs", .free "min", .free "repr", .free "sorted", .int "MOST_ROUTERS" 8, .int "ADDRESS_LENGTH" 10, .int "MOST_ENTRIES" 24, .glo "Table", .cls "Table", .mkr "Table", .meth "Table" "__eq__", .meth "Table" "onward", .noat "Table" "entries", .noat "Table" "_nexts", .str "HERE" "here", .str "DROP" "drop"] : List He.Fa)
def eb (K : PySem.W.Frag) : Bool := insB K (He.ga K "Table")
abbrev R : PySem.W.OpenRow := PySem.W.OpenLaw.row PySem.Challenge.rw_wishreels_k84_least_address_where_tables
abbrev hk : PySem.W.Hook := hookX 4 fa fn eb
def ob (s : PySem.W.SharedT) : AlX := obsX 4 fa fn eb (HandSHeadRun.getT s)
theorem ob_eq (s : PySem.W.SharedT) : ob s = hk.obs s.abs := obsX_eq (HandSHeadRun.getT_eq s)
def loose0 : List Str := ["__name__", "WishError", "BadTable", "BadAddress", "MOST_ROUTERS", "is_integer", "is_between", "is_row", "is_tuple_of", "is_router", "ADDRESS_LENGTH", "is_range", "is_address", "addresses", "beginnings", "MOST_ENTRIES", "HERE", "DROP", "Table", "refuse_wrong_entries", "is_entry", "is_end", "table_parting", "_law_pool", "_law_draw", "_law_bits", "_law_entries", "_law_painted", "_law_before", "_law_halves"]
def loose1 : List Str := ["_law_other", "_law_due", "_law_told"]
def loose : List Str := loose0 ++ loose1
theorem run (w : World) : HandSHeadRun.RunEq R (PySem.W.view R.prog [37]) hk ob 7000 loose w := by
  intro os
  kernel_rfl
end Wk

set_option Elab.async false
set_option linter.all false
set_option maxRecDepth 100000
set_option maxHeartbeats 4000000
namespace Wk
open PySem PySem.Spec PyProof.Rows L2 Evl
theorem facts {P : Program} {w : World} {K : PySem.W.Frag} {h : Heap} {mg : Str → Option Value} {f : Addr} (X : K.In h) (G : h.Ns mainGlobals mg) (hfa : mg ("law" : Str) = some (.ref f)) (c : He.SaysD fa fn K) (cx : eb K = true) :
    ∃ fd : FuncData, (∀ (t : Shared) (u : Value), BindsTo t fd ⟨[u], []⟩ [("_law_script", u)]) ∧ ∀ base : Heap, K.In base → base.Ns mainGlobals mg → FnOk P w K mg base CX0 9 f fd ["_law_script"] (spLaw K) := by
  obtain ⟨d0, F0⟩ := c.def_ 0 (d := dG "is_integer" 6) rfl
  obtain ⟨d1, F1⟩ := c.def_ 1 (d := dG "is_between" 7) rfl
  obtain ⟨d2, F2⟩ := c.def_ 2 (d := dG "is_row" 8) rfl
  obtain ⟨d3, F3⟩ := c.def_ 3 (d := dG "is_tuple_of" 9) rfl
  obtain ⟨d4, F4⟩ := c.def_ 4 (d := dG "is_router" 10) rfl
  obtain ⟨d5, F5⟩ := c.def_ 5 (d := dG "is_range" 13) rfl
  obtain ⟨d6, F6⟩ := c.def_ 6 (d := dG "is_address" 14) rfl
  obtain ⟨d7, F7⟩ := c.def_ 7 (d := dG "addresses" 15) rfl
  obtain ⟨d8, F8⟩ := c.def_ 8 (d := dG "beginnings" 16) rfl
  obtain ⟨d9, F9⟩ := c.def_ 9 (d := dG "refuse_wrong_entries" 22) rfl
  obtain ⟨d10, F10⟩ := c.def_ 10 (d := dG "is_entry" 23) rfl
  obtain ⟨d11, F11⟩ := c.def_ 11 (d := dG "is_end" 24) rfl
  obtain ⟨d12, F12⟩ := c.def_ 12 (d := dG "table_parting" 25) rfl
  obtain ⟨d13, F13⟩ := c.def_ 13 (d := dG "_law_pool" 27) rfl
  obtain ⟨d14, F14⟩ := c.def_ 14 (d := dG "_law_draw" 28) rfl
  obtain ⟨d15, F15⟩ := c.def_ 15 (d := dG "_law_bits" 29) rfl
  obtain ⟨d16, F16⟩ := c.def_ 16 (d := dG "_law_entries" 30) rfl
  obtain ⟨d17, F17⟩ := c.def_ 17 (d := dG "_law_painted" 31) rfl
  obtain ⟨d18, F18⟩ := c.def_ 18 (d := dG "_law_before" 32) rfl
  obtain ⟨d19, F19⟩ := c.def_ 19 (d := dG "_law_halves" 33) rfl
  obtain ⟨d20, F20⟩ := c.def_ 20 (d := dG "_law_other" 34) rfl
  obtain ⟨d21, F21⟩ := c.def_ 21 (d := dG "_law_due" 35) rfl
  obtain ⟨d22, F22⟩ := c.def_ 22 (d := dG "_law_told" 36) rfl
  obtain ⟨d23, F23⟩ := c.def_ 23 (d := dG "law" 37) rfl
  obtain ⟨d24, F24⟩ := c.def_ 24 (d := dM "Table" "__init__" "Table.__init__" 21 0) rfl
  obtain ⟨d25, F25⟩ := c.def_ 25 (d := dM "Table" "__eq__" "Table.__eq__" 21 1) rfl
  obtain ⟨d26, F26⟩ := c.def_ 26 (d := dM "Table" "onward" "Table.onward" 21 2) rfl
  have e := hfa.symm.trans (He.glo_ok X G (c.fact 23 (f := .glo "law") rfl))
  cases e
  have bL := FunD.bindsA (ps := ["_law_script"]) F23 fun _ _ _ _ _ _ us hl => match us, hl with | [_], _ => rfl
  have B : Bl mg := ⟨He.free_ok X G (c.fact 24 rfl), He.free_ok X G (c.fact 25 rfl), He.free_ok X G (c.fact 26 rfl), He.free_ok X G (c.fact 27 rfl), He.free_ok X G (c.fact 28 rfl), He.free_ok X G (c.fact 29 rfl), He.free_ok X G (c.fact 30 rfl), He.free_ok X G (c.fact 31 rfl), He.free_ok X G (c.fact 32 rfl), He.free_ok X G (c.fact 33 rfl), He.free_ok X G (c.fact 34 rfl), He.free_ok X G (c.fact 35 rfl), He.free_ok X G (c.fact 36 rfl), He.free_ok X G (c.fact 37 rfl)⟩
  have hso : mg "sorted" = none := He.free_ok X G (c.fact 38 (f := .free "sorted") rfl)
  obtain ⟨t8, m8⟩ := He.int_ok X G (c.fact 39 (f := .int "MOST_ROUTERS" 8) rfl)
  obtain ⟨tA, mA⟩ := He.int_ok X G (c.fact 40 (f := .int "ADDRESS_LENGTH" 10) rfl)
  obtain ⟨tE, mE⟩ := He.int_ok X G (c.fact 41 (f := .int "MOST_ENTRIES" 24) rfl)
  obtain ⟨tH, mH⟩ := He.str_ok X G (c.fact 49 (f := .str "HERE" "here") rfl)
  obtain ⟨tD, mD⟩ := He.str_ok X G (c.fact 50 (f := .str "DROP" "drop") rfl)
  have TXx : TX K (He.ga K "Table") := insB_ok cx (He.cls_ok (c.fact 43 (f := .cls "Table") rfl)) (He.noat_ok (c.fact 47 (f := .noat "Table" "entries") rfl)) (He.noat_ok (c.fact 48 (f := .noat "Table" "_nexts") rfl))
  refine ⟨d23, fun t u => bL t [u] rfl, fun base _ _ => ?_⟩
  have C0 : Cal P w K mg base "is_integer" ["thing"] 1 spIsInt := calOf F0 (ok_isInt B F0) (He.glo_ok X G (c.fact 0 rfl)) (F0.bindsN fun _ _ _ _ _ _ us hl => match us, hl with | [_], _ => rfl)
  have C1 : Cal P w K mg base "is_between" ["least", "most", "thing"] 2 spBetween := calOf F1 (ok_between B C0 F1) (He.glo_ok X G (c.fact 1 rfl)) (F1.bindsN fun _ _ _ _ _ _ us hl => match us, hl with | [_, _, _], _ => rfl)
  have C2 : Cal P w K mg base "is_router" ["size", "thing"] 3 spRouter := calOf F4 (ok_router C1 F4) (He.glo_ok X G (c.fact 4 rfl)) (F4.bindsN fun _ _ _ _ _ _ us hl => match us, hl with | [_, _], _ => rfl)
  have C3 : Cal P w K mg base "is_row" ["thing"] 1 spIsRow := calOf F2 (ok_isRow B F2) (He.glo_ok X G (c.fact 2 rfl)) (F2.bindsN fun _ _ _ _ _ _ us hl => match us, hl with | [_], _ => rfl)
  have C4 : Cal P w K mg base "is_tuple_of" ["many", "thing"] 1 spTupOf2 := calOf F3 (ok_tupOf2 B F3) (He.glo_ok X G (c.fact 3 rfl)) (F3.bindsN fun _ _ _ _ _ _ us hl => match us, hl with | [_, _], _ => rfl)
  have C5 : Cal P w K mg base "is_range" ["thing"] 1 (spRange K) := calOf F5 (ok_range B mA F5) (He.glo_ok X G (c.fact 5 rfl)) (F5.bindsN fun _ _ _ _ _ _ us hl => match us, hl with | [_], _ => rfl)
  have C6 : Cal P w K mg base "is_address" ["thing"] 2 (spAddr K) := calOf F6 (ok_addr B mA C5 F6) (He.glo_ok X G (c.fact 6 rfl)) (F6.bindsN fun _ _ _ _ _ _ us hl => match us, hl with | [_], _ => rfl)
  have C7 : Cal P w K mg base "beginnings" ["address"] 1 spBeg := calOf F8 (ok_beg B mA F8) (He.glo_ok X G (c.fact 8 rfl)) (F8.bindsN fun _ _ _ _ _ _ us hl => match us, hl with | [_], _ => rfl)
  have C8 : Cal P w K mg base "is_end" ["thing"] 1 (spEnd K) := calOf F11 (ok_end B mH mD F11) (He.glo_ok X G (c.fact 11 rfl)) (F11.bindsN fun _ _ _ _ _ _ us hl => match us, hl with | [_], _ => rfl)
  have C9 : Cal P w K mg base "is_entry" ["thing"] 4 spEntry := calOf F10 (ok_entry m8 C4 C5 C2 C8 F10) (He.glo_ok X G (c.fact 10 rfl)) (F10.bindsN fun _ _ _ _ _ _ us hl => match us, hl with | [_], _ => rfl)
  have CA : Cal P w K mg base "refuse_wrong_entries" ["entries"] 5 spRWE := calOf F9 (ok_rwe B mE C3 C9 F9) (He.glo_ok X G (c.fact 9 rfl)) (F9.bindsN fun _ _ _ _ _ _ us hl => match us, hl with | [_], _ => rfl)
  have MT : MkT P w K mg base (He.ga K "Table") := ⟨He.glo_ok X G (c.fact 42 (f := .glo "Table") rfl), ⟨_, d24, He.mkr_ok (c.fact 44 (f := .mkr "Table") rfl), ok_init B hso TXx CA F24, F24.bindsN fun _ _ _ _ _ _ us hl => match us, hl with | [_, _], _ => rfl⟩⟩
  have MQ : MqT P w K mg base (He.ga K "Table") := ⟨⟨_, d25, He.meth_ok (c.fact 45 (f := .meth "Table" "__eq__") rfl), ok_eq B TXx (He.glo_ok X G (c.fact 42 (f := .glo "Table") rfl)) F25, F25.bindsN fun _ _ _ _ _ _ us hl => match us, hl with | [_, _], _ => rfl⟩⟩
  have MO : MskO P w K mg base (He.ga K "Table") "onward" ["self", "address"] 3 (spOnw0 (He.ga K "Table")) := ⟨⟨_, d26, He.meth_ok (c.fact 46 (f := .meth "Table" "onward") rfl), ok_onw0 mD TXx C6 C7 F26, F26.bindsN fun _ _ _ _ _ _ us hl => match us, hl with | [_, _], _ => rfl⟩⟩
  have CD : Cal P w K mg base "addresses" [] 1 spAds := calOf F7 (ok_ads B mA F7) (He.glo_ok X G (c.fact 7 rfl)) (F7.bindsN fun _ _ _ _ _ _ us hl => match us, hl with | [], _ => rfl)
  have CP : Cal P w K mg base "table_parting" ["one", "other"] 4 (spPg (He.ga K "Table")) := calOf F12 (ok_pg TXx CD MO F12) (He.glo_ok X G (c.fact 12 rfl)) (F12.bindsN fun _ _ _ _ _ _ us hl => match us, hl with | [_, _], _ => rfl)
  have D0 : Cal P w K mg base "_law_pool" ["_law_script"] 1 (spPool K) := calOf F13 (ok_pool B F13) (He.glo_ok X G (c.fact 13 rfl)) (F13.bindsN fun _ _ _ _ _ _ us hl => match us, hl with | [_], _ => rfl)
  have D1 : Cal P w K mg base "_law_draw" ["_law_pool_here", "_law_many"] 1 spDrw := calOf F14 (ok_drw B F14) (He.glo_ok X G (c.fact 14 rfl)) (F14.bindsN fun _ _ _ _ _ _ us hl => match us, hl with | [_, _], _ => rfl)
  have D2 : Cal P w K mg base "_law_bits" ["_law_pool_here", "_law_most"] 2 spBits := calOf F15 (ok_bits B D1 F15) (He.glo_ok X G (c.fact 15 rfl)) (F15.bindsN fun _ _ _ _ _ _ us hl => match us, hl with | [_, _], _ => rfl)
  have D3 : Cal P w K mg base "_law_entries" ["_law_pool_here", "_law_many", "_law_nexts"] 3 spEnt := calOf F16 (ok_ent B hso D1 D2 F16) (He.glo_ok X G (c.fact 16 rfl)) (F16.bindsN fun _ _ _ _ _ _ us hl => match us, hl with | [_, _, _], _ => rfl)
  have D4 : Cal P w K mg base "_law_painted" ["_law_entries_here"] 1 spPnt := calOf F17 (ok_pnt B F17) (He.glo_ok X G (c.fact 17 rfl)) (F17.bindsN fun _ _ _ _ _ _ us hl => match us, hl with | [_], _ => rfl)
  have D5 : Cal P w K mg base "_law_before" ["_law_entries_here", "_law_bits_here"] 1 spBf := calOf F18 (ok_bf B F18) (He.glo_ok X G (c.fact 18 rfl)) (F18.bindsN fun _ _ _ _ _ _ us hl => match us, hl with | [_, _], _ => rfl)
  have D6 : Cal P w K mg base "_law_halves" ["_law_entries_here", "_law_place"] 1 spHv := calOf F19 (ok_hv B F19) (He.glo_ok X G (c.fact 19 rfl)) (F19.bindsN fun _ _ _ _ _ _ us hl => match us, hl with | [_, _], _ => rfl)
  have D7 : Cal P w K mg base "_law_other" ["_law_pool_here", "_law_entries_here", "_law_nexts"] 4 spOth := calOf F20 (ok_oth B D1 D2 D3 D5 D6 F20) (He.glo_ok X G (c.fact 20 rfl)) (F20.bindsN fun _ _ _ _ _ _ us hl => match us, hl with | [_, _, _], _ => rfl)
  have D8 : Cal P w K mg base "_law_due" ["_law_one", "_law_other_here"] 1 spDue := calOf F21 (ok_due B F21) (He.glo_ok X G (c.fact 21 rfl)) (F21.bindsN fun _ _ _ _ _ _ us hl => match us, hl with | [_, _], _ => rfl)
  have D9 : Cal P w K mg base "_law_told" ["_law_told_here", "_law_due_here"] 1 spTo := calOf F22 (ok_to B F22) (He.glo_ok X G (c.fact 22 rfl)) (F22.bindsN fun _ _ _ _ _ _ us hl => match us, hl with | [_, _], _ => rfl)
  exact ok_law B hso TXx ⟨D0, D1, D3, D7, D4, D8, D9, CP, MT, MQ⟩ F23
end Wk
open PySem PySem.W PySem.Calls PyProof.Rows
set_option maxHeartbeats 0
theorem PySem.Challenge.cw_wishreels_k84_least_address_where_tables_holds : PySem.Challenge.rw_wishreels_k84_least_address_where_tables.Holds := by
  w_on; o_law
  refine HandSHeadRun.head_any (r := Wk.R) (q := view Wk.R.prog [37]) (H := Wk.hk) (ob := Wk.ob) (M := 7000) (loose := Wk.loose) (d := HandSHeadRun.topDef Wk.R.prog 37) (kwd := []) Wk.ob_eq
    (by kernel_rfl) (fun s => by kernel_rfl) Wk.run (by kernel_rfl) (by kernel_rfl) (by kernel_rfl) (by rfl) (by first | assumption | decide +kernel) (by decide +kernel) ⟨rfl, rfl, rfl, rfl, rfl, by decide +kernel⟩ ?hw ?hc
  case hw => w_witness2
  case hc =>
    refine L2.walk_ofE (l := PySem.Challenge.rw_wishreels_k84_least_address_where_tables) (n := 63) (k := 9) (x := "_law_script") (CX := L2.CX0) rfl (by decide) (by kernel_rfl) ⟨rfl, by decide, by decide⟩ ?F (fun _ _ _ _ z => z)
    intro w mg fa h Y G hmg0
    obtain ⟨K, kx, c, cx⟩ := Y
    have hmg : mg ("law" : PySem.Str) = some (.ref fa) := by
      have e : (HandSHeadRun.topDef Wk.R.prog 37).name = ("law" : PySem.Str) := by kernel_rfl
      rw [← e]
      exact hmg0
    obtain ⟨fd, hb, hF⟩ := Wk.facts (P := (PySem.Challenge.rw_wishreels_k84_least_address_where_tables).prog) (w := w) kx G hmg c cx
    exact ⟨K, fd, Wk.spLaw K, kx, hb, fun H a ns hl _ hS => ⟨a, ns, rfl, hS, hl, fun _ => rfl⟩, hF⟩

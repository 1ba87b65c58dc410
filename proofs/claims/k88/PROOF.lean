import PyProof.Rows.All
import Wide.All
import OpenK.AllK
import Wide.FinOn
import KE.KStateDown
import HandS.ForMost
import HandS.More
import HandS.WordsExc
import HandS.Defaults
import HandS.Deep
import HandS.IsInst
import HandS.Evl
import HandS.Walk
import HandS.TupSets
import HandS.TupAny
import HandS.Conv
import PyProof.P3In
import HandS.SetFor
import HandS.Strs
import KE.GoesMore
import KE.GoesEnum
import HandS.ExcInit
import HandS.ExcField
import HandS.ExcOwn
import PyProof.NeKinds
import PyProof.EqKinds
import PyProof.FactsAll.subtypes_4
import PyProof.FactsAll.dict_1
import HandS.DictComp
import HandS.Comp
import HandS.TryOnly
import HandS.TryMany
import HandS.ExcIs
import HandS.ExcBuiltin
import HandS.Dict
import HandS.WordsDict
import HandS.WideBits
import HandS.Wide
import HandS.Small
import HandS.Codes
import HandS.SortRule
import HandS.ExcValue
import PyProof.ListStr
import PyProof.P3Eq
import KE.KExcIs
import KE.DataFind
import KE.GoesRaise
import HandS.Zip
import HandS.OwnEq
import HandS.TupMul
import HandS.Head0
import HandS.Head1
import HandS.Head2
import HandS.HeadEnd
import HandS.HeadHook1
import HandS.HeadHook2
import PySem.Challenge.RW_wishreels_k88_fields_kept_and_refused
set_option Elab.async false
set_option linter.all false
set_option maxRecDepth 100000
set_option maxHeartbeats 2000000
namespace Wk
open PySem PySem.Spec PyProof.Rows L2 Evl
/-! data that stand in a heap -/
mutual
inductive Dq (G : Hp) : V → PyData → Prop
  | non : Dq G .non .none
  | bl (b : Bool) : Dq G (.bl b) (.bool b)
  | int (i : Int) : Dq G (.int i) (.int i)
  | str (x : Str) : Dq G (.str x) (.str x)
  | lst {a : Addr} {xs : List V} {ds : List PyData} : G a = some (.lst xs) → DqA G xs ds → Dq G (.ref a) (.list ds)
  | tup {a : Addr} {xs : List V} {ds : List PyData} : G a = some (.tup xs) → DqA G xs ds → Dq G (.ref a) (.tuple ds)
  | dic {a : Addr} : G a = some (.dK []) → Dq G (.ref a) (.dict [])
inductive DqA (G : Hp) : List V → List PyData → Prop
  | nil : DqA G [] []
  | cons {v : V} {vs : List V} {d : PyData} {ds : List PyData} : Dq G v d → DqA G vs ds → DqA G (v :: vs) (d :: ds)
end
mutual
theorem Dq.mono {G H : Hp} (e : Ex G H) : ∀ {d : PyData} {v : V}, Dq G v d → Dq H v d
  | .none, _, .non => .non
  | .bool _, _, .bl b => .bl b
  | .int _, _, .int i => .int i
  | .str _, _, .str x => .str x
  | .list _, _, .lst h a => .lst (e _ _ h) (DqA.mono e a)
  | .tuple _, _, .tup h a => .tup (e _ _ h) (DqA.mono e a)
  | .dict _, _, .dic h => .dic (e _ _ h)
theorem DqA.mono {G H : Hp} (e : Ex G H) : ∀ {ds : List PyData} {vs : List V}, DqA G vs ds → DqA H vs ds
  | [], _, .nil => .nil
  | _ :: _, _, .cons h t => .cons (Dq.mono e h) (DqA.mono e t)
end
mutual
theorem Dq.dp {K : PySem.W.Frag} {G : Hp} : ∀ {d : PyData} {v : V}, d.canLay0 = true → Dq G v d → Dp K G v d
  | .none, _, _, .non => .non
  | .bool _, _, _, .bl b => .bl b
  | .int _, _, _, .int i => .int i
  | .str _, _, _, .str x => .str x
  | .list ds, _, c, .lst h a => .lst (sq_of h) (DqA.dp (by simpa [PyData.canLay0] using c) a)
  | .tuple ds, _, c, .tup h a => .tup (st_of h) (DqA.dp (by simpa [PyData.canLay0] using c) a)
  | .dict _, _, c, .dic h => by simp [PyData.canLay0] at c
theorem DqA.dp {K : PySem.W.Frag} {G : Hp} : ∀ {ds : List PyData} {vs : List V}, PyData.canLayAll0 ds = true → DqA G vs ds → DpAll K G vs ds
  | [], _, _, .nil => .nil
  | d :: ds, _, c, .cons h t => by
    have c' : d.canLay0 = true ∧ PyData.canLayAll0 ds = true := by simpa [PyData.canLayAll0] using c
    exact .cons (Dq.dp c'.1 h) (DqA.dp c'.2 t)
end
theorem DqA.length {G : Hp} : ∀ {ds : List PyData} {vs : List V}, DqA G vs ds → vs.length = ds.length
  | [], _, .nil => rfl
  | _ :: _, _, .cons _ t => congrArg Nat.succ t.length
theorem DqA.get {G : Hp} : ∀ {ds : List PyData} {vs : List V} {i : Nat} {v : V}, DqA G vs ds → vs[i]? = some v → ∃ d, ds[i]? = some d ∧ Dq G v d
  | [], _, i, v, .nil, e => by simp at e
  | d :: _, _, 0, v, .cons h t, e => ⟨d, rfl, by simp at e; subst e; exact h⟩
  | _ :: _, _, i + 1, v, .cons h t, e => by
    obtain ⟨d, e1, e2⟩ := t.get (i := i) (by simpa using e)
    exact ⟨d, by simpa using e1, e2⟩
theorem DqA.at {G : Hp} {ds : List PyData} {vs : List V} {i : Nat} {d : PyData} (h : DqA G vs ds) (e : ds[i]? = some d) : ∃ v, vs[i]? = some v ∧ Dq G v d := by
  have hl := h.length
  obtain ⟨hi, _⟩ := List.getElem?_eq_some_iff.mp e
  have hv : vs[i]? = some (vs[i]'(by omega)) := List.getElem?_eq_getElem (by omega)
  obtain ⟨d', e1, e2⟩ := h.get hv
  rw [e] at e1
  cases e1
  exact ⟨_, hv, e2⟩
theorem DqA.append {G : Hp} : ∀ {ds es : List PyData} {vs us : List V}, DqA G vs ds → DqA G us es → DqA G (vs ++ us) (ds ++ es)
  | [], _, _, _, .nil, h => h
  | _ :: _, _, _, _, .cons h t, u => .cons h (t.append u)
theorem DqA.take {G : Hp} : ∀ {ds : List PyData} {vs : List V} (n : Nat), DqA G vs ds → DqA G (vs.take n) (ds.take n)
  | [], _, n, .nil => by simp; exact .nil
  | _ :: _, _, 0, .cons h t => .nil
  | _ :: _, _, n + 1, .cons h t => .cons h (t.take n)
theorem DqA.drop {G : Hp} : ∀ {ds : List PyData} {vs : List V} (n : Nat), DqA G vs ds → DqA G (vs.drop n) (ds.drop n)
  | [], _, n, .nil => by simp; exact .nil
  | _ :: _, _, 0, .cons h t => .cons h t
  | _ :: _, _, n + 1, .cons h t => t.drop n
theorem DqA.ints {G : Hp} : ∀ (ns : List Int), DqA G (ns.map V.int) (ns.map PyData.int)
  | [] => .nil
  | n :: ns => .cons (.int n) (DqA.ints ns)
theorem DqA.int_inv {G : Hp} : ∀ {ns : List Int} {vs : List V}, DqA G vs (ns.map PyData.int) → vs = ns.map V.int
  | [], _, .nil => rfl
  | _ :: _, _, .cons (.int n) t => by
    have := DqA.int_inv t
    subst this
    rfl
/-- the name of a datum's type -/
def tyN : PyData → String
  | .none => "NoneType"
  | .bool _ => "bool"
  | .int _ => "int"
  | .str _ => "str"
  | .list _ => "list"
  | .tuple _ => "tuple"
  | .dict _ => "dict"
theorem Dq.ty {K : PySem.W.Frag} {G : Hp} {d : PyData} {v : V} (h : Dq G v d) : TyX K G v (.type (tyN d)) := by
  cases h with
  | non => exact .base .non
  | bl b => exact .base (.bl b)
  | int i => exact .base (.int i)
  | str x => exact .base (.str x)
  | lst h _ => exact .base (.lst h)
  | tup h _ => exact .base (.tup h)
  | dic h => exact .base (.dK h)
/-- a call's callee: the def that a global name holds -/
structure Cal (P : Program) (w : World) (K : PySem.W.Frag) (mg : Str → Option Value) (base : Heap) (x : Str) (ps : List Str) (k : Nat) (sp : Sp) : Prop where
  ex : ∃ (f : Addr) (fd : FuncData), FnOk P w K mg base CX0 k f fd ps sp ∧ mg x = some (.ref f) ∧ PySem.W.keepIn K (.ref f) = true ∧ Binds K fd ps []
section
variable {X : Cx}
theorem pe_cal {x : Str} {p pos : Pos} {e : Expr} {es : List Expr} {ps : List Str} {k j : Nat} {sp : Sp} {t : TA} (C : Cal X.prog X.w X.K X.mg X.base x ps k sp) (hr : Room j X.A) (hg : Gl X x) (ha : PA X (e :: es) t) (hk : k ≤ j := by decide)
    (hdb : (x == ("__debug__" : Str)) = false := by decide) (he : starEach (e :: es) X.env = (false, eval e X.env) :: starEach es X.env := by rfl) (hpl : (backTo pos (starEach es X.env)).any (·.1) = false := by rfl) :
    PE X (.Call (.Name x p) (e :: es) [] pos) (tCall sp [] E0 t) := by
  obtain ⟨f, fd, F, g, kp, b⟩ := C.ex
  exact pe_call F (hr.mono hk) hg g kp b .nil pass0 ha hdb he hpl
end
section
variable {K : PySem.W.Frag} {σ : L2.St} {H : Hp} {ta tb tc te : TE}
/-- isinstance(x, T), T a built-in type -/
theorem ev_isi {v : V} {d : PyData} {n : String} {b : Bool} (h : Ev ta σ H v) (hd : Dq H v d) (hk : kitB (tyN d) n = some b) : Ev (tCB (rIsi K) (tCons ta (tCons (tC (.ty n)) tNil))) σ H (.bl b) := fun H1 e Q q =>
  h H1 e _ fun H2 e2 => ⟨v, .ty n, .type (tyN d), .type n, b, rfl, .ty n, (hd.mono (e.trans e2)).ty, kit_ty hk, q H2 e2⟩
/-- a <= b <= c of ints -/
theorem ev_chain {i j k : Int} {r r' : R2} {b1 b2 : Bool} (ha : Ev ta σ H (.int i)) (hb : Ev tb σ H (.int j)) (hc : Ev tc σ H (.int k)) (h1 : RV r (.int i) (.int j) H (.bl b1)) (h2 : RV r' (.int j) (.int k) H (.bl b2)) :
    Ev (tChain r r' ta tb tc) σ H (.bl (b1 && b2)) := fun H1 e Q q =>
  ha H1 e _ fun H2 e2 => hb H2 (e.trans e2) _ fun H3 e3 => h1 H3 ((e.trans e2).trans e3) _ fun H4 e4 => ⟨b1, rfl, by
    cases b1 with
    | false => exact q H4 ((e2.trans e3).trans e4)
    | true => exact hc H4 (((e.trans e2).trans e3).trans e4) _ fun H5 e5 => h2 H5 ((((e.trans e2).trans e3).trans e4).trans e5) _ fun H6 e6 => q H6 ((((e2.trans e3).trans e4).trans e5).trans e6)⟩
end
end Wk

set_option Elab.async false
set_option linter.all false
set_option maxRecDepth 100000
set_option maxHeartbeats 4000000
namespace Wk
open PySem PySem.Spec PyProof.Rows L2 Evl
/-! how many are unlike -/
theorem nd_le {α : Type} [DecidableEq α] : ∀ (l D : List α), l.Nodup → (∀ x ∈ l, x ∈ D) → l.length ≤ D.length
  | [], _, _, _ => Nat.zero_le _
  | x :: l, D, hn, hs => by
    have hn' := List.nodup_cons.mp hn
    have hx : x ∈ D := hs x List.mem_cons_self
    have ih := nd_le l (D.erase x) hn'.2 fun y hy => (List.mem_erase_of_ne (fun (e : y = x) => hn'.1 (by rw [← e]; exact hy))).2 (hs y (List.mem_cons_of_mem _ hy))
    have e := List.length_erase_of_mem hx
    have hp : 0 < D.length := List.length_pos_of_mem hx
    simp only [List.length_cons]
    omega
theorem dup_less {α : Type} [DecidableEq α] : ∀ (D : List α), ¬ D.Nodup → ∃ D' : List α, (∀ x ∈ D, x ∈ D') ∧ D'.length < D.length
  | [], h => absurd List.nodup_nil h
  | x :: D, h => by
    by_cases hx : x ∈ D
    · exact ⟨D, fun y hy => (List.mem_cons.mp hy).elim (fun e => by rw [e]; exact hx) id, Nat.lt_succ_self _⟩
    · have hD : ¬ D.Nodup := fun z => h (List.nodup_cons.mpr ⟨hx, z⟩)
      obtain ⟨D', h1, h2⟩ := dup_less D hD
      exact ⟨x :: D', fun y hy => (List.mem_cons.mp hy).elim (fun e => by rw [e]; exact List.mem_cons_self) (fun e => List.mem_cons_of_mem _ (h1 y e)), Nat.succ_lt_succ h2⟩
theorem nd_iff {α : Type} [DecidableEq α] {l D : List α} (hn : l.Nodup) (h : ∀ x, x ∈ l ↔ x ∈ D) : l.length = D.length ↔ D.Nodup := by
  constructor
  · intro e
    apply Classical.byContradiction
    intro hD
    obtain ⟨D', h1, h2⟩ := dup_less D hD
    have := nd_le l D' hn fun x hx => h1 x ((h x).mp hx)
    omega
  · intro hD
    have h1 := nd_le l D hn fun x hx => (h x).mp hx
    have h2 := nd_le D l hD fun x hx => (h x).mpr hx
    omega
section
variable {X : Cx}
/-- len(set(t)), t a tuple of ints -/
def tLenSU (K : PySem.W.Frag) (ta : TE) : TE := fun σ H Q => ta σ H fun x H1 => ∃ (l : Addr) (ns : List Int), x = V.ref l ∧ SqT K H1 l (ns.map V.int) ∧ ns.length < 64 ∧ ∀ n : Nat, (n = ns.length ↔ ns.Nodup) → Q (.int n) H1
theorem pe_lenSU {a : Expr} {ta : TE} {p p2 q pos : Pos} (hc : X.calm = true) (hg : Gl X "len") (hm : X.mg "len" = none) (hg2 : Gl X "set") (hm2 : X.mg "set" = none) (ha : PE X a ta)
    (na : starEach [a] X.env = (false, eval a X.env) :: starEach [] X.env := by rfl) : PE X (.Call (.Name "len" p) [.Call (.Name "set" p2) [a] [] q] [] pos) (tLenSU X.K ta) := by
  refine ⟨fun pins s σ H Q I h => ?_⟩
  refine Call_ (ld_blt I hg hm PySem.boot_len ?_)
  refine PyProof.Rows.callWith_builtin1 (PyProof.Rows.args_cons ?_ rfl) rfl rfl
  refine Call_ (ld_blt I hg2 hm2 PyProof.Rows.boot_set ?_)
  refine PyProof.Rows.callWith_type1 (PyProof.Rows.args_cons (thn (ha.run pins s σ H _ I h) fun v s1 hh => PyProof.Rows.args_nil ?_) na) na rfl
  obtain ⟨x, H1, I1, r1, l, ns, rfl, hq, hlt, q1⟩ := hh
  cases r1
  obtain ⟨its, r, pl, hz⟩ := I1.tuple hq
  refine call_set_tupI (w := X.w) ns (I1.ok.hd hc) pl (by simpa using r.ints) (by unfold scanBound; omega) fun h' tk c hS hc2 hk => ?_
  refine PyProof.Rows.args_nil ?_
  obtain ⟨o, es, ep, t, ho, hex, hd, _, hnd, hiff, _, hf, hn, _⟩ := hS
  have I2 : Inv X pins σ H1 { s1 with heap := h', toks := tk } := I1.kept fun b o e => hk b o e
  refine call_len_set ho hex hd hf (by rw [hn] <;> omega) ⟨.int es.size, H1, I2.tok _, ⟨_, rfl⟩, q1 es.size ?_⟩
  have hl : (es.toList.map keyOf).length = es.size := by simp
  rw [← hl]
  exact nd_iff hnd fun k => by
    have := hiff k
    simp only [decide_eq_true_eq] at this
    exact this.symm
end
/-- the set that set() lays -/
abbrev sO (w : World) : Obj := { cls := .type "set", dict := none, data := .set #[] 0 (.fresh 0 0 (!w.params.followText "set-order")) }
section
variable {P : Program} {w : World} {A : Around} {E : Value → Shared → Prop} {s : Shared}
/-- set(t), t a tuple of tuples of ints -/
theorem set_of_tup2 {l : Addr} {its : Array Value} (ks : List (Addr × List Int)) {Q : Value → Shared → Prop} (nh : A.handled = none) (tl : s.heap.IsTuple l its) (eq : its.toList = ks.map fun p => Value.ref p.1)
    (ki : ∀ p ∈ ks, IsT P w s.heap p.2 p.1) (few : ks.length < 64) (un : A.units + 3 < cLine)
    (fin : ∀ (h' : Heap) (tk : Nat) L es ep t, SetTR P w h' s.heap.objs.size L es ep t → Got ks ks.length L → (∀ b o, s.heap.get? b = some o → h'.get? b = some o) → Q (.ref s.heap.objs.size) { s with heap := h', toks := tk }) :
    wpAny (model P w) A (call (.type "set") [.ref l]) Q E s := by
  have size : its.size = ks.length := by have q := congrArg List.length eq; simpa using q
  obtain ⟨c, rest, mro⟩ := F.called_set.mro
  have made := F.called_set.made; have sub := F.called_set.sub
  refine wpAny_call (codeAny_of_tree (show wpAny _ _ (callAny (.type "set") _) _ _ _ from ?_))
  refine wpAny_pure ⟨Code.quiet_builtin _ (by decide +kernel), codeAny_builtin F.entry_type_call (by
    rw [Around.under_plain (weight_type_call_type "set" [.ref l] []) rfl]
    have nt := F.called_set.notType; have cc := F.called_set.canCreate; have tc := F.typeCall_set_1 (.ref l)
    repeat (any_goals (first | assumption | wp_step))
    refine codeAny_mono (code_set_led1 (.ref l) (E := E) (Q₁ := fun ob s1 => ob = .ref s.heap.objs.size ∧ s1 = { s with heap := s.heap.push (sO w) }) ⟨rfl, rfl⟩) fun r s1 hr => ?_
    cases r with
    | error e => exact hr
    | ok fl =>
      cases fl with
      | ret ob =>
        obtain ⟨rfl, rfl⟩ := hr
        have hS : (s.heap.push (sO w)).get? s.heap.objs.size = some (sO w) := Heap.get?_push_size _ rfl
        have hT : Shared.TypeIs { s with heap := s.heap.push (sO w) } (.ref s.heap.objs.size) "set" := ⟨_, hS, rfl⟩
        have li := F.called_set.init.lookup; have bi := F.called_set.init.bind (.ref s.heap.objs.size)
        repeat (any_goals (first | assumption | wp_step))
        refine codeAny_mono (codeAny_call_builtin (R := wants (fun r s2 => r = .none ∧ ∃ h' tk L es ep t, s2 = { s with heap := h', toks := tk } ∧ SetTR P w h' s.heap.objs.size L es ep t ∧ Got ks ks.length L ∧ (∀ b o, s.heap.get? b = some o → h'.get? b = some o)) E)
          F.called_set.init.plain F.entry_set_init (check_set_init_1 hT ?_)) fun r2 s2 hr2 => ?_
        · obtain ⟨⟨oc, od, dt, sl⟩, ol, cl, n, dl⟩ := tl
          simp only at cl dl; subst cl; subst dl
          have ol1 : (s.heap.push (sO w)).get? l = some { cls := .type "tuple", dict := od, data := .seq its n, slots := sl } := Heap.get?_push_of_some _ ol
          have b1 := F.sub_tuple_set; have b2 := F.sub_tuple_frozenset
          have b3 : (Value.type "tuple" == Value.type "dict") = false := by decide
          have tl1 : (s.heap.push (sO w)).IsTuple l its := ⟨_, ol1, rfl, n, rfl⟩
          unfold Builtin.«set.__init__» noKeywords Builtin.Frozenset.updateFrom
          generalize hPI : pyIter = PI
          wp_walk
          subst hPI
          refine wpAny_pyIter_tuple tl1 (wpAny_bind (wpAny_runValue ?_))
          have lt : l < s.heap.objs.size := Heap.lt_size ol
          have nh3 : A.in1.in1.in1.handled = none := by simp [nh]
          have ne1 : l ≠ (s.heap.push (sO w)).objs.size := by rw [Heap.size_push]; exact Nat.ne_of_lt (Nat.lt_succ_of_lt lt)
          have nin : s.heap.objs.size ∉ [(s.heap.push (sO w)).objs.size, l] := by
            rw [Heap.size_push]
            intro z
            rcases List.mem_cons.mp z with z | z
            · exact absurd z (Nat.ne_of_lt (Nat.lt_succ_self _))
            · exact absurd (List.mem_singleton.mp z) (Nat.ne_of_gt lt)
          have val : ∀ (i : Nat) (v : Value), its[i]? = some v → ∃ p, ks[i]? = some p ∧ v = .ref p.1 := fun i v hv => by
            have q : its.toList[i]? = some v := (Array.getElem?_toList ..).trans hv
            rw [eq, List.getElem?_map] at q
            cases hq : ks[i]? with
            | none => rw [hq] at q; cases q
            | some p => rw [hq] at q; exact ⟨p, rfl, (Option.some.inj q).symm⟩
          have out : ∀ b, s.heap.objs.size ≤ b → s.heap.get? b = none := fun b hb => by
            cases q : s.heap.get? b with
            | none => rfl
            | some o => exact absurd (Nat.lt_of_lt_of_le (Heap.lt_size q) hb) (Nat.lt_irrefl _)
          refine set_update_tups ((Walks.tuple nh3 _ l ne1 its).toS) s.heap.objs.size nin ks size few val s.heap ki (out _ (Nat.le_refl _)) (fun b hb => out b (by rw [List.mem_singleton.mp hb, Heap.size_push]; exact Nat.le_succ _)) un (its.size - 0) 0 _ (by omega) (Nat.zero_le _)
            ⟨⟨_, Heap.get?_push_size _ rfl, rfl, rfl⟩, (tl1.push _)⟩ (fun b o e => Heap.get?_push_of_some _ (Heap.get?_push_of_some _ e)) ⟨[], #[], 0, _, setTR_fresh (Heap.get?_push_of_some _ hS), Got.zero ks⟩ ?_
          intro s' L es ep t hm hS' g' kp
          obtain ⟨h', g2, d', tk', os'⟩ := s'
          have eg : g2 = s.gens := hm.gens
          have ed : d' = s.drawn := hm.drawn
          have eo : os' = s.os := hm.os
          subst eg; subst ed; subst eo
          show wpAny _ _ _ _ _ _
          refine wpAny_pure (show wpAny _ _ (ret Value.none) _ _ _ from ?_)
          rw [size] at g'
          exact wpAny_pure ⟨rfl, h', tk', L, es, ep, t, rfl, hS', g', kp⟩
        · cases r2 with
          | error e => exact hr2
          | ok fl2 =>
            cases fl2 with
            | ret r =>
              obtain ⟨rfl, h', tk, L, es, ep, t, rfl, hS', g', k'⟩ := hr2
              repeat (any_goals (first | assumption | wp_step))
              exact fin _ _ _ _ _ _ hS' g' k'
            | _ => exact hr2.elim
      | _ => exact hr.elim)⟩
end
section
variable {X : Cx}
/-- len(set(t)), t a tuple of tuples of ints -/
def tLenSUU (K : PySem.W.Frag) (ta : TE) : TE := fun σ H Q => ta σ H fun x H1 => ∃ (l : Addr) (ks : List (Addr × List Int)), x = V.ref l ∧ SqT K H1 l (ks.map fun p => V.ref p.1) ∧ (∀ p ∈ ks, SqT K H1 p.1 (p.2.map V.int)) ∧ ks.length < 64 ∧
  ∀ n : Nat, (n = ks.length ↔ (ks.map (·.2)).Nodup) → Q (.int n) H1
theorem pe_lenSUU {a : Expr} {ta : TE} {p p2 q pos : Pos} (hc : X.calm = true) (hu : X.A.units + 64 < cLine) (hg : Gl X "len") (hm : X.mg "len" = none) (hg2 : Gl X "set") (hm2 : X.mg "set" = none) (ha : PE X a ta)
    (na : starEach [a] X.env = (false, eval a X.env) :: starEach [] X.env := by rfl) : PE X (.Call (.Name "len" p) [.Call (.Name "set" p2) [a] [] q] [] pos) (tLenSUU X.K ta) := by
  refine ⟨fun pins s σ H Q I h => Call_ (ld_blt I hg hm PySem.boot_len (PyProof.Rows.callWith_builtin1 (PyProof.Rows.args_cons (Call_ (ld_blt I hg2 hm2 PyProof.Rows.boot_set ?_)) rfl) rfl rfl))⟩
  refine PyProof.Rows.callWith_type1 (PyProof.Rows.args_cons (thn (ha.run pins s σ H _ I h) fun v s1 hh => PyProof.Rows.args_nil ?_) na) na rfl
  obtain ⟨x, H1, I1, r1, l, ks, rfl, hq, hk, few, q1⟩ := hh
  cases r1
  obtain ⟨its, r, pl, hz⟩ := I1.tuple hq
  refine set_of_tup2 (P := X.prog) (w := X.w) ks (I1.ok.hd hc) pl (by simpa using refs_of_vals r) (fun p hp => I1.isT (hk p hp)) few (by omega) fun h' tk L es ep t R g k => PyProof.Rows.args_nil ?_
  have I2 : Inv X pins σ H1 { s1 with heap := h', toks := tk } := I1.kept fun b o e => k b o e
  have hes : es.size = L.length := R.size (s := { s1 with heap := h', toks := tk })
  have hf := R.fits (s := { s1 with heap := h', toks := tk })
  obtain ⟨o, ho, hex, hd⟩ := R.ob
  refine call_len_set (s := { s1 with heap := h', toks := tk }) ho hex hd hf (by have := R.few; omega) ⟨.int es.size, H1, I2.tok _, ⟨_, rfl⟩, q1 es.size ?_⟩
  have e1 : (L.map (·.2)).length = es.size := by simp [hes]
  have e2 : (ks.map (·.2)).length = ks.length := by simp
  rw [← e1, ← e2]
  refine nd_iff R.nd fun k => ⟨fun z => ?_, fun z => ?_⟩
  · obtain ⟨p, hp, rfl⟩ := List.mem_map.mp z
    exact List.mem_map.mpr ⟨p, List.mem_of_mem_take (g.sub p hp), rfl⟩
  · obtain ⟨p, hp, rfl⟩ := List.mem_map.mp z
    exact g.all p (by rw [List.take_length]; exact hp)
end
end Wk

set_option Elab.async false
set_option linter.all false
set_option maxRecDepth 100000
set_option maxHeartbeats 4000000
namespace Wk
open PySem PySem.Spec PyProof.Rows L2 Evl
/-- the walk of a tuple's iterator under an enumerate -/
abbrev itO (l : Addr) : Obj := { cls := .type "tuple_iterator", data := .fields #[.ref l, .int 0 0] }
abbrev enO (it : Addr) : Obj := { cls := .type "enumerate", data := .fields #[.none, .bool false, .ref it, rawInt 0, .none, .none] }
theorem enumNewT (l : Addr) (its : Array Value) (n : Nat) (od : Option Addr) (sl : Array (Option Value)) :
    Meets (Builtin.«enumerate.__new__» ⟨[.type "enumerate", .ref l], []⟩) (fun _ R s => s.heap.get? l = some { cls := .type "tuple", dict := od, data := .seq its n, slots := sl } ∧
      R (.ok (.ret (.ref (s.heap.push (itO l)).objs.size))) { s with heap := (s.heap.push (itO l)).push (enO s.heap.objs.size) }) :=
  .of_wp fun prog w A R s h => by
    obtain ⟨hp, g, d, tk, os⟩ := s; obtain ⟨hl, h⟩ := h
    have su := sub_enumerate
    have tl : Heap.IsTuple (Shared.heap ⟨hp, g, d, tk, os⟩) l its := ⟨_, hl, rfl, n, rfl⟩
    wp_walk using wpAny_loadPart' hl
    refine wpAny_stack_any fun st => wpAny_pure ?_
    split
    · rename_i c _ _ _ _ _
      cases (c == Value.type "enumerate") <;> (wp_walk using wpAny_loadPart' hl, wpAny_pyIter_tuple tl; exact ⟨_, rfl, h⟩)
    · wp_walk using wpAny_loadPart' hl, wpAny_pyIter_tuple tl
      exact ⟨_, rfl, h⟩
section
variable {prog : Program} {w : World} {A : Around} {E : Value → Shared → Prop} {s : Shared}
theorem enumT_call {l : Addr} {its : Array Value} {Q : Value → Shared → Prop} (tl : s.heap.IsTuple l its)
    (h : ∀ h', IsEnum h' (s.heap.objs.size + 1) s.heap.objs.size 0 .none → h'.IsTupleIter s.heap.objs.size l 0 → h'.objs.size = s.heap.objs.size + 2 → (∀ b o, s.heap.get? b = some o → h'.get? b = some o) → Q (.ref (s.heap.objs.size + 1)) { s with heap := h' }) :
    wpAny (model prog w) A (call (.type "enumerate") [.ref l]) Q E s := by
  obtain ⟨⟨c, od, dt, sl⟩, hl, hc, n, hd⟩ := tl
  replace hc : c = .type "tuple" := hc
  replace hd : dt = .seq its n := hd
  subst hc hd
  refine callType_new F.called_enumerate (by decide) (F.typeCall_enumerate_1 _) (F.newCall_enumerate_1 _) (fun ob => F.args_object_init_2 ob _) F.entry_enumerate_new (enumNewT l its n od sl) ⟨hl, ?_⟩
  have hz : (s.heap.push (itO l)).objs.size = s.heap.objs.size + 1 := Heap.size_push ..
  show _ ∧ _
  rw [hz]
  have he : IsEnum ((s.heap.push (itO l)).push (enO s.heap.objs.size)) (s.heap.objs.size + 1) s.heap.objs.size 0 .none := by
    have q := Heap.get?_push_size (s.heap.push (itO l)) (o := enO s.heap.objs.size) rfl
    rw [hz] at q; exact q
  exact ⟨⟨_, he, rfl⟩, h _ he ⟨_, Heap.get?_push_of_some _ (Heap.get?_push_size _ rfl), rfl, rfl⟩ (by rw [Heap.size_push, hz]) fun b o x => Heap.get?_push_of_some _ (Heap.get?_push_of_some _ x)⟩
end
/-- the tuple at a, each item in a new pair with its place -/
def IteT (K : PySem.W.Frag) (a : Addr) : It :=
  ⟨fun i H => ∃ (xs : List V) (x : V), SqT K H a xs ∧ xs[i]? = some x, fun i H v H' => ∃ T x, v = .ref T ∧ H T = none ∧ H' = upd H T (.tup [.int (i : Nat), x]) ∧ ∀ xs, SqT K H a xs → xs[i]? = some x, fun i H => ∃ xs : List V, SqT K H a xs ∧ xs.length = i⟩
theorem turn_enumT {P : Program} {w : World} {K : PySem.W.Frag} {elts : List Expr} {kk : Nat} {tpos : Pos} (a e it : Addr) :
    Turn P w K (.Tuple elts kk tpos) (IteT K a) [e, it] e (fun i h => (∃ old, IsEnum h e it ((i : Nat) : Int) old) ∧ h.IsTupleIter it a i ∧ e ≠ it) where
  mem := List.mem_cons_self
  obj := fun i h st b hb => by
    obtain ⟨⟨old, he⟩, ⟨o, ho, hc, hd⟩, _⟩ := st
    rcases List.mem_cons.mp hb with z | z
    · rw [z]; exact ⟨_, he, fun v q => nomatch q⟩
    · rw [List.mem_singleton.mp z]; exact ⟨o, ho, fun v q => by rw [hd] at q; cases q⟩
  keep := fun i h h' st k => by
    obtain ⟨⟨old, he⟩, ⟨o, ho, r⟩, hne⟩ := st
    exact ⟨⟨old, k e (by simp) _ he⟩, ⟨o, k it (by simp) o ho, r⟩, hne⟩
  item := by
    intro X hP hw hK hc i pins s σ H E I hf st hg
    subst hP hw hK
    obtain ⟨⟨old, he⟩, hit, hne⟩ := st
    obtain ⟨xs, x, hq, hx⟩ := hg
    obtain ⟨its, rv, p, hz⟩ := I.tuple hq
    obtain ⟨u, hu, ru⟩ := rv.get hx
    have el : e < s.heap.objs.size := Heap.lt_size he
    have il : it < s.heap.objs.size := by obtain ⟨_, q, _⟩ := hit; exact Heap.lt_size q
    have nai : a ≠ it := fun z => by
      obtain ⟨o, ho, oc, _⟩ := p
      obtain ⟨o2, ho2, oc2, _⟩ := hit
      rw [z, ho2] at ho
      cases ho
      rw [oc2] at oc
      injection oc with q
      exact absurd q (by decide)
    have nae : e ≠ a := fun z => by
      obtain ⟨o, ho, oc, _⟩ := p
      have he2 := he
      unfold IsEnum at he2
      rw [z, ho] at he2
      cases he2
      injection oc with q
      exact absurd q (by decide)
    have hi : i < its.toArray.size := by
      have q := (List.getElem?_eq_some_iff.mp hu).1
      simpa using q
    refine wpAny_pyNext_enum_itemD (Draws.tuple (by simpa using I.ok.hd hc) it a nai its.toArray) he ⟨hit, p⟩ hi hne (by simp [hne, nae]) fun y h' tk hy ho hst hT hsz hk => ?_
    have ey : y = u := by
      have q : its.toArray[i]? = some y := hy
      rw [List.getElem?_toArray, hu] at q
      exact (Option.some.inj q).symm
    subst ey
    refine ⟨_, rfl, wpAny_letOwnedTupleGo_enum (s := { s with heap := h', toks := tk + 1 }) ho fun h2 he' sb => ?_⟩
    have hT2 : h2.get? s.heap.objs.size = some { cls := .type "tuple", data := .seq #[.int i tk, y] } := (sb.2 _ (Nat.ne_of_gt el)).trans hT
    have nw : ObjOk X.prog X.w (upd H s.heap.objs.size (.tup [.int (i : Nat), x])) h2 s.heap.objs.size (.tup [.int (i : Nat), x]) := ⟨by show 2 ≤ sizeLine; decide, [.int i tk, y], .cons ⟨_, rfl⟩ (.cons ru .nil), ⟨_, hT2, rfl, _, rfl⟩⟩
    have I1 : Inv X pins σ (upd H s.heap.objs.size (.tup [.int (i : Nat), x])) { s with heap := h2, toks := tk + 1 } := I.turnedNew (ch := [e, it]) (fun b ob hb q => by
        have b1 : b ≠ e := fun z => hb (by simp [z])
        have b2 : b ≠ it := fun z => hb (by simp [z])
        exact (sb.2 b b1).trans (hk b ob b1 b2 q)) hf (Nat.le_refl _) nw
    refine ⟨.ref s.heap.objs.size, _, I1, rfl, ⟨_, x, rfl, I.hok.fresh (Nat.le_refl _), rfl, fun ys hy => by rw [I.tuple_inj hy hq]; exact hx⟩, ⟨⟨y, ?_⟩, ?_, hne⟩, fun b hb => ?_⟩
    · rw [show ((i + 1 : Nat) : Int) = (i : Int) + 1 by omega]; exact he'
    · obtain ⟨o, ho2, r2⟩ := hst.1
      exact ⟨o, (sb.2 it (Ne.symm hne)).trans ho2, r2⟩
    · have hb2 : b < s.heap.objs.size := by
        rcases List.mem_cons.mp hb with z | z
        · rw [z]; exact el
        · rw [List.mem_singleton.mp z]; exact il
      rw [upd_ne (Nat.ne_of_lt hb2)]
      exact (hf b hb).1
  done := by
    intro X hP hw hK hc i pins s σ H E I hf st hg
    subst hP hw hK
    obtain ⟨⟨old, he⟩, hit, hne⟩ := st
    obtain ⟨xs, hq, hx⟩ := hg
    obtain ⟨its, rv, p, hz⟩ := I.tuple hq
    obtain ⟨f0, f1, f2, f3, f4, f5⟩ := hf it (by simp)
    have hl := rv.length
    have ei : i = its.toArray.size := by simp; omega
    have nai : a ≠ it := fun z => by
      obtain ⟨o, ho, oc, _⟩ := p
      obtain ⟨o2, ho2, oc2, _⟩ := hit
      rw [z, ho2] at ho
      cases ho
      rw [oc2] at oc
      injection oc with q
      exact absurd q (by decide)
    subst ei
    exact wpAny_pyNext_enum_endD (Draws.tuple (by simpa using I.ok.hd hc) it a nai its.toArray) he ⟨hit, p⟩ fun h' eb => ⟨rfl, I.turned (t' := s.toks) (fun b o hb q => eb b o hb q) f0 f1 f3 f4 f5⟩
  self := fun A i s Q E st h => let ⟨⟨_, he⟩, _⟩ := st; wpAny_pyIter_enum he h

def iEnumT (K : PySem.W.Frag) (ta : TA) : TI := fun σ H R => ta σ H fun vs H1 => ∃ a xs, vs = [.ref a] ∧ SqT K H1 a xs ∧ R (IteT K a) H1
/-- for i, x in enumerate(t), t a tuple -/
theorem pi_enumT {X : Cx} {e : Expr} {ta : TA} {p pos tpos : Pos} {elts : List Expr} {kk : Nat} (hg : Gl X "enumerate") (hm : X.mg "enumerate" = none) (ha : PA X [e] ta) (hs : starEach [e] X.env = [(false, eval e X.env)] := by rfl) :
    PI X (.Tuple elts kk tpos) (.Call (.Name "enumerate" p) [e] [] pos) (iEnumT X.K ta) := by
  refine ⟨fun pins s σ H R I h => Call_ (ld_blt I hg hm boot_enumerate (PyProof.Rows.callWith_type1 (thn (ha.run pos pins s σ H _ I h) fun us s1 hh => ?_) hs rfl))⟩
  obtain ⟨vs, H1, I1, r1, a, xs, rfl, hq, q⟩ := hh
  cases r1 with
  | cons r rr =>
    cases rr
    cases r
    obtain ⟨its, rv, pt, hz⟩ := I1.tuple hq
    refine enumT_call pt fun h' he hit hsz hk => wpAny_pyIter_enum he ?_
    refine ⟨s1.heap.objs.size + 1, [s1.heap.objs.size + 1, s1.heap.objs.size], _, _, H1, rfl, I1.kept (t' := s1.toks) hk, turn_enumT a (s1.heap.objs.size + 1) s1.heap.objs.size, ⟨⟨.none, he⟩, hit, Nat.succ_ne_self _⟩, fun b hb => ?_, q⟩
    have hle : s1.heap.objs.size ≤ b := by
      rcases List.mem_cons.mp hb with z | z
      · rw [z]; exact Nat.le_add_right _ _
      · rw [List.mem_singleton.mp z]; exact Nat.le_refl _
    exact I1.fpOk hle (I1.hok.fresh hle)
theorem walk_enumT {K : PySem.W.Frag} {a : Addr} {xs : List V} : Walk (IteT K a) xs.length (fun H => SqT K H a xs) (YPair (fun i => some (.int (i : Nat))) (fun i => xs[i]?)) := by
  refine ⟨fun i _ hi q => ⟨xs, xs[i], q, by simp [hi]⟩, fun _ q => ⟨xs, q, rfl⟩, fun i H v H' _ q y => ?_⟩
  obtain ⟨T, x, h1, h2, h3, h4⟩ := y
  exact ⟨T, .int (i : Nat), x, h1, h2, h3, rfl, h4 xs q⟩
section
variable {K : PySem.W.Frag} {σ : L2.St} {H : Hp} {t : TT} {te : TE}
/-- [e for x in t], t a tuple -/
theorem el_lcT {a : Addr} {xs : List V} {tl : TE} {j : Nat} {vs : List Nat} (f : Nat → Bool) (v : Nat → V) (h : Ev tl σ H (.ref a)) (hx : SqT K H a xs) (hz : xs.length ≤ 40000) (hw : ∀ x, wipe ((wipe σ vs).set j (some x)) vs = wipe σ vs)
    (ht : ∀ (i : Nat) (x : V) H1, Ex H H1 → xs[i]? = some x → EvT t ((wipe σ vs).set j (some x)) H1 (f i)) (he : ∀ (i : Nat) (x : V) H1, Ex H H1 → xs[i]? = some x → f i = true → Ev te ((wipe σ vs).set j (some x)) H1 (v i)) :
    EvL (tLc (iTup K tl) (gName j) t te vs) σ H (given xs.length f v) := fun H0 e Q q => h H0 e _ fun H1 e1 => ⟨a, rfl, ⟨xs, ex_t (e.trans e1) hx⟩, fun Dl hD =>
  lc_it (walk_tup (K := K) (a := a) (xs := xs)) (Cw H1 f v Dl) ⟨hD, Ex.new hD, upd_same⟩ (fun i H' _ p => ex_t ((e.trans e1).trans p.2.1) hx)
    (fun i x H' H2 hi p y => by
      obtain ⟨rfl, hxi⟩ := y
      exact ⟨hw x, cw_turn p (by omega) (ht i x H1 (e.trans e1) hxi) (fun hf => he i x H1 (e.trans e1) hxi hf)⟩)
    (fun H' p => q Dl H' (fresh_back e1 p.1) (e1.trans p.2.1) p.2.2)⟩
theorem given_all (n : Nat) (v : Nat → V) : given n (fun _ => true) v = (List.range n).map v := by
  unfold given
  rw [List.filter_eq_self.mpr (fun _ _ => rfl)]
theorem et_yes : EvT tYes σ H true := fun H1 _ _ q => q H1 (Ex.refl H1)
/-- all([..]) of flags -/
theorem ev_allL {bs : List Bool} {ta : TE} (h : EvL ta σ H (bs.map V.bl)) : Ev (tCB (rAll K) (tCons ta tNil)) σ H (.bl (bs.all id)) := fun H1 e Q q =>
  h H1 e _ fun p H2 _ e2 hp => ⟨p, bs, rfl, sq_of hp, q H2 e2⟩
/-- all([test(x) for x in t]) -/
theorem ev_allT {a : Addr} {xs : List V} {tl : TE} {j : Nat} {vs : List Nat} (g : Nat → Bool) (h : Ev tl σ H (.ref a)) (hx : SqT K H a xs) (hz : xs.length ≤ 40000) (hw : ∀ x, wipe ((wipe σ vs).set j (some x)) vs = wipe σ vs)
    (he : ∀ (i : Nat) (x : V) H1, Ex H H1 → xs[i]? = some x → Ev te ((wipe σ vs).set j (some x)) H1 (.bl (g i))) :
    Ev (tCB (rAll K) (tCons (tLc (iTup K tl) (gName j) tYes te vs) tNil)) σ H (.bl (((List.range xs.length).map g).all id)) :=
  ev_allL (by
    have q := el_lcT (K := K) (te := te) (fun _ => true) (fun i => .bl (g i)) h hx hz hw (fun _ _ _ _ _ => et_yes) fun i x H1 e hxi _ => he i x H1 e hxi
    rw [given_all] at q
    rw [List.map_map]
    exact q)
end
section
variable {K : PySem.W.Frag} {σ : L2.St} {H : Hp} {ta tb te : TE}
theorem ev_lenT {p : Addr} {xs : List V} (ha : Ev ta σ H (.ref p)) (h : SqT K H p xs) : Ev (tCB (rLenS K) (tCons ta tNil)) σ H (.int (xs.length : Int)) := fun H1 e Q q =>
  ha H1 e _ fun H2 e2 => ⟨p, xs, rfl, Or.inr (ex_t (e.trans e2) h), q H2 e2⟩
theorem all_get {α : Type} (ds : List α) (p : α → Bool) : ((List.range ds.length).map (fun i => ((ds[i]?).map p).getD false)).all id = ds.all p := by
  have e : (List.range ds.length).map (fun i => ((ds[i]?).map p).getD false) = ds.map p := by
    apply List.ext_getElem
    · simp
    · intro i h1 h2
      have hi : i < ds.length := by simpa using h1
      simp [hi]
  rw [e, List.all_map]
  rfl
end
section
variable {K : PySem.W.Frag} {σ : L2.St} {H : Hp} {g : TG} {tu tz : TS} {D : Ends}
/-- for i, x in enumerate(t) -/
theorem s_forEn {a : Addr} {xs : List V} {tl : TE} (h : Ev tl σ H (.ref a)) (hx : SqT K H a xs) (Pv : Nat → L2.St → Hp → Prop) (h0 : ∀ H1, Ex H H1 → Pv 0 σ H1) (hl : ∀ i σ' H', i ≤ xs.length → Pv i σ' H' → SqT K H' a xs)
    (hs : ∀ i y T σ' H', xs[i]? = some y → Pv i σ' H' → H' T = none → g (.ref T) σ' (upd H' T (.tup [.int (i : Nat), y])) fun σ2 H2 => tu { D with nx := Pv (i + 1), ct := Pv (i + 1), bk := D.nx } σ2 H2) (hd : ∀ σ' H', Pv xs.length σ' H' → D.nx σ' H') : tFor (iEnumT K (tCons tl tNil)) g tu D σ H :=
  h H (Ex.refl H) _ fun H1 e => ⟨a, xs, rfl, ex_t e hx, for_it (walk_enumT (K := K) (a := a) (xs := xs)) Pv (h0 H1 e) hl (fun i x σ' H2 H3 hi p y => by
    obtain ⟨T, u, y, rfl, hT, rfl, hu, hy⟩ := y
    cases hu
    exact hs i y T σ' H2 hy p hT) hd⟩
theorem q_forEn {a : Addr} {xs : List V} {tl : TE} (h : Ev tl σ H (.ref a)) (hx : SqT K H a xs) (Pv : Nat → L2.St → Hp → Prop) (h0 : ∀ H1, Ex H H1 → Pv 0 σ H1) (hl : ∀ i σ' H', i ≤ xs.length → Pv i σ' H' → SqT K H' a xs)
    (hs : ∀ i y T σ' H', xs[i]? = some y → Pv i σ' H' → H' T = none → g (.ref T) σ' (upd H' T (.tup [.int (i : Nat), y])) fun σ2 H2 => tu { D with nx := Pv (i + 1), ct := Pv (i + 1), bk := tz D } σ2 H2) (hd : ∀ σ' H', Pv xs.length σ' H' → tz D σ' H') : tSeq (tFor (iEnumT K (tCons tl tNil)) g tu) tz D σ H :=
  s_forEn (D := { D with nx := tz D }) h hx Pv h0 hl hs hd
end
end Wk

set_option Elab.async false
set_option linter.all false
set_option maxRecDepth 100000
set_option maxHeartbeats 2000000
namespace Wk
open PySem PySem.Spec PyProof.Rows L2 Evl
def top (i : Nat) : Stmt := PySem.Challenge.pw_wishreels_k88_fields_kept_and_refused.main.body.getD i (.Pass ⟨0, 0, 0, 0⟩)
abbrev FnP (K : PySem.W.Frag) (x : Str) (st : Stmt) (f : Addr) (fd : FuncData) : Prop := FunD K x x (defArgs st) (defBody st) (defScope st) [] [] f fd
/-- names that are the built-in ones -/
structure Bl (mg : Str → Option Value) : Prop where
  isi : mg "isinstance" = none
  len : mg "len" = none
  tuple : mg "tuple" = none
  list : mg "list" = none
  int : mg "int" = none
  bool : mg "bool" = none
  str : mg "str" = none
  all : mg "all" = none
  set : mg "set" = none
  enum : mg "enumerate" = none
  range : mg "range" = none
  abs : mg "abs" = none
  min : mg "min" = none
  repr : mg "repr" = none
/-- a pure promise: a plain value, what stood stays -/
def spP (R : Hp → List V → V → Prop) : Sp := fun vs H Q _ => ∃ z, R H vs z ∧ ∀ H', Ex H H' → Q z H'
theorem spP_v {R : Hp → List V → V → Prop} {vs : List V} {H : Hp} {z : V} (h : ∀ H1, Ex H H1 → R H1 vs z) : SpV (spP R) vs H z := fun H1 e Q q E => ⟨z, h H1 e, fun H2 e2 => q H2 e2⟩
def isI : PyData → Bool
  | .int _ => true
  | _ => false
/-- what a datum is worth as an int -/
def valI : PyData → Int
  | .int i => i
  | _ => 0
theorem isI_eq {d : PyData} (h : isI d = true) : d = .int (valI d) := by
  cases d <;> first | rfl | (simp [isI] at h)
theorem kit_int (d : PyData) : ∃ b, kitB (tyN d) "int" = some b ∧ (b = true → ∃ c, kitB (tyN d) "bool" = some c ∧ (b && !c) = isI d) ∧ (b = false → isI d = false) := by
  cases d with
  | none => exact ⟨false, show kitB "NoneType" "int" = some false by decide +kernel, fun h => (by cases h), fun _ => rfl⟩
  | bool b => exact ⟨true, show kitB "bool" "int" = some true by decide +kernel, fun _ => ⟨true, show kitB "bool" "bool" = some true by decide +kernel, rfl⟩, fun h => (by cases h)⟩
  | int i => exact ⟨true, show kitB "int" "int" = some true by decide +kernel, fun _ => ⟨false, show kitB "int" "bool" = some false by decide +kernel, rfl⟩, fun h => (by cases h)⟩
  | str z => exact ⟨false, show kitB "str" "int" = some false by decide +kernel, fun h => (by cases h), fun _ => rfl⟩
  | list ds => exact ⟨false, show kitB "list" "int" = some false by decide +kernel, fun h => (by cases h), fun _ => rfl⟩
  | tuple ds => exact ⟨false, show kitB "tuple" "int" = some false by decide +kernel, fun h => (by cases h), fun _ => rfl⟩
  | dict ds => exact ⟨false, show kitB "dict" "int" = some false by decide +kernel, fun h => (by cases h), fun _ => rfl⟩
def isTu : PyData → Bool
  | .tuple _ => true
  | _ => false
def itemsT : PyData → List PyData
  | .tuple ds => ds
  | _ => []
theorem kit_tup (d : PyData) : kitB (tyN d) "tuple" = some (isTu d) := by
  cases d with
  | none => exact show kitB "NoneType" "tuple" = some false by decide +kernel
  | bool b => exact show kitB "bool" "tuple" = some false by decide +kernel
  | int i => exact show kitB "int" "tuple" = some false by decide +kernel
  | str z => exact show kitB "str" "tuple" = some false by decide +kernel
  | list ds => exact show kitB "list" "tuple" = some false by decide +kernel
  | tuple ds => exact show kitB "tuple" "tuple" = some true by decide +kernel
  | dict ds => exact show kitB "dict" "tuple" = some false by decide +kernel
def isR (n : Int) (d : PyData) : Bool := isI d && (decide (0 ≤ valI d) && decide (valI d ≤ n - 1))
section
variable {P : Program} {w : World} {K : PySem.W.Frag} {mg : Str → Option Value} {base : Heap} {f : Addr} {fd : FuncData}
/-! is_integer, _law_is_int -/
abbrev spIsInt : Sp := spP fun H vs z => ∃ v d, vs = [v] ∧ Dq H v d ∧ z = .bl (isI d)
abbrev sIsInt : Stmt := top 10
theorem scIsInt : FnScope ["thing"] ["thing"] (defScope sIsInt) := ⟨rfl, rfl, rfl, by decide +kernel, rfl, by decide +kernel, by decide +kernel⟩
theorem ok_isInt (B : Bl mg) (F : FnP K "is_integer" sIsInt f fd) : FnOk P w K mg base CX0 1 f fd ["thing"] spIsInt := by
  refine F.ok scIsInt (fun vs H Q E h => ?_) (fun cdv A outer s H vs Q E hr h => ?_)
  · obtain ⟨z, ⟨v, d, rfl, _⟩, _⟩ := h
    rfl
  · obtain ⟨z, ⟨v, d, rfl, hd, rfl⟩, k⟩ := h
    refine ⟨_, pss_one (ps_ret (pe_and (pe_callB call_isi (by rfl) B.isi boot_isinstance (pa_cons (pv 0) (pa_cons (pe_bltn (v := .ty "int") (by rfl) B.int PyProof.Rows.boot_int rfl) pa_nil)))
      (pe_one (pe_not (pe_callB call_isi (by rfl) B.isi boot_isinstance (pa_cons (pv 0) (pa_cons (pe_bltn (v := .ty "bool") (by rfl) B.bool PyProof.Rows.boot_bool rfl) pa_nil))))))), ?_⟩
    obtain ⟨b, hb, h1, h2⟩ := kit_int d
    have v0 : Ev (tVar 0) (start ["thing"] [v]) H v := ev_var rfl
    cases b with
    | true =>
      obtain ⟨c, hc, e⟩ := h1 rfl
      rw [← e] at k
      exact s_ret (ev_andV (ev_isi v0 hd hb) fun _ => ev_notV (ev_isi v0 hd hc)) k
    | false =>
      rw [h2 rfl] at k
      exact s_ret (ev_andV (b := false) (ev_isi v0 hd hb) fun z => (by cases z)) k

/-! is_between, is_router -/
abbrev spBetween : Sp := spP fun H vs z => ∃ (a b : Int) (v : V) (d : PyData), vs = [.int a, .int b, v] ∧ Dq H v d ∧ z = .bl (isI d && (decide (a ≤ valI d) && decide (valI d ≤ b)))
abbrev sBetween : Stmt := top 11
theorem scBetween : FnScope ["least", "most", "thing"] ["least", "most", "thing"] (defScope sBetween) := ⟨rfl, rfl, rfl, by decide +kernel, rfl, by decide +kernel, by decide +kernel⟩
theorem ok_between (B : Bl mg) (C : Cal P w K mg base "is_integer" ["thing"] 1 spIsInt) (F : FnP K "is_between" sBetween f fd) : FnOk P w K mg base CX0 2 f fd ["least", "most", "thing"] spBetween := by
  refine F.ok scBetween (fun vs H Q E h => ?_) (fun cdv A outer s H vs Q E hr h => ?_)
  · obtain ⟨z, ⟨a, b, v, d, rfl, _⟩, _⟩ := h
    rfl
  · obtain ⟨z, ⟨a, b, v, d, rfl, hd, rfl⟩, k⟩ := h
    refine ⟨_, pss_one (ps_ret (pe_and (pe_cal C hr (by rfl) (pa_cons (pv 2) pa_nil)) (pe_one (pe_chain op_le op_le (pv 0) (pv 2) (pv 1))))), ?_⟩
    have v0 : Ev (tVar 0) (start ["least", "most", "thing"] [.int a, .int b, v]) H (.int a) := ev_var rfl
    have v1 : Ev (tVar 1) (start ["least", "most", "thing"] [.int a, .int b, v]) H (.int b) := ev_var rfl
    have v2 : Ev (tVar 2) (start ["least", "most", "thing"] [.int a, .int b, v]) H v := ev_var rfl
    refine s_ret (ev_andV (a := isI d) (ev_call (ea_cons v2 ea_nil) (spP_v fun H1 e => ⟨v, d, rfl, hd.mono e, rfl⟩)) fun hi => ?_) k
    rw [isI_eq hi] at hd
    cases hd
    exact ev_chain v0 v2 v1 rv_I0 rv_I0
abbrev spRouter : Sp := spP fun H vs z => ∃ (n : Int) (v : V) (d : PyData), vs = [.int n, v] ∧ Dq H v d ∧ z = .bl (isR n d)
abbrev sRouter : Stmt := top 14
theorem scRouter : FnScope ["size", "thing"] ["size", "thing"] (defScope sRouter) := ⟨rfl, rfl, rfl, by decide +kernel, rfl, by decide +kernel, by decide +kernel⟩
theorem ok_router (C : Cal P w K mg base "is_between" ["least", "most", "thing"] 2 spBetween) (F : FnP K "is_router" sRouter f fd) : FnOk P w K mg base CX0 3 f fd ["size", "thing"] spRouter := by
  refine F.ok scRouter (fun vs H Q E h => ?_) (fun cdv A outer s H vs Q E hr h => ?_)
  · obtain ⟨z, ⟨n, v, d, rfl, _⟩, _⟩ := h
    rfl
  · obtain ⟨z, ⟨n, v, d, rfl, hd, rfl⟩, k⟩ := h
    refine ⟨_, pss_one (ps_ret (pe_cal C hr (by rfl) (pa_cons pe_int (pa_cons (pe_op op_sub (pv 0) pe_int) (pa_cons (pv 1) pa_nil))))), ?_⟩
    exact s_ret (ev_call (ea_cons ev_c (ea_cons (ev_op (ev_var rfl) ev_c rv_I0) (ea_cons (ev_var rfl) ea_nil))) (spP_v fun H1 e => ⟨0, n - 1, v, d, rfl, hd.mono e, rfl⟩)) k
end
end Wk

set_option Elab.async false
set_option linter.all false
set_option maxRecDepth 100000
set_option maxHeartbeats 4000000
namespace Wk
open PySem PySem.Spec PyProof.Rows L2 Evl
/-! an object made, a method called, where what is raised is wished for at the caller's slots -/
section
variable {X : Cx} {CX : CXT} {k : Nat} {f C : Addr} {fd : FuncData} {ps : List Str} {sp : Sp} {W : L2.St → XK} {x m : Str} {p pos apos : Pos} {e o : Expr} {es : List Expr} {ta : TE} {t : TA}
def tMkAt (C : Addr) (sp : Sp) (W : L2.St → XK) (t : TA) : TE := fun σ H Q => t σ H fun vs H1 => ∀ x dx, H1 x = none → H1 dx = none → dx ≠ x → sp (.ref x :: vs) (upd (upd H1 dx (.own x)) x (.ins C dx [])) (fun v H2 => v = .non ∧ Q (.ref x) H2) (W σ)
theorem pe_mkAt (M : Mk X.K C f) (Fn : FnOk X.prog X.w X.K X.mg X.base CX k f fd ps sp) (hr : Room (k + 1) X.A) (hg : Gl X x) (hm : X.mg x = some (.ref C)) (hb : Binds X.K fd ps []) (hx : ∀ σ, PassesAt CX X σ (W σ)) (ha : PA X (e :: es) t)
    (hdb : (x == ("__debug__" : Str)) = false := by decide) (he : starEach (e :: es) X.env = (false, eval e X.env) :: starEach es X.env := by rfl) (hpl : (backTo pos (starEach es X.env)).any (·.1) = false := by rfl) :
    PE X (.Call (.Name x p) (e :: es) [] pos) (tMkAt C sp W t) := by
  refine ⟨fun pins s σ H Q I h => wpAny_Call_Name_kw (ld_glob I hg hm (PySem.W.callWith_K (h₀ := X.base) I.ok.mod.kin M.kp (thn (ha.run pos pins s σ H _ I h) fun us s1 hh => ?_) he hpl) hdb)⟩
  obtain ⟨vs, H1, I1, r, q⟩ := hh
  refine ⟨I1.kIn, ?_⟩
  have hq := q (s1.heap.objs.size + 1) s1.heap.objs.size (I1.hok.fresh (Nat.le_succ _)) (I1.hok.fresh (Nat.le_refl _)) (Nat.ne_of_lt (Nat.lt_succ_self _))
  have J := Inv.made (C := C) I1
  have rr : Vals (V.ref (s1.heap.objs.size + 1) :: vs) (Value.ref (s1.heap.objs.size + 1) :: us) := .cons rfl r
  have hl : (Value.ref (s1.heap.objs.size + 1) :: us).length = ps.length := rr.length.symm.trans (Fn.len _ _ _ _ hq)
  have bd := hb _ (Value.ref (s1.heap.objs.size + 1) :: us) J.kIn (by rw [List.append_nil]; exact hl)
  rw [List.append_nil] at bd
  refine wpAny_call (make_map (f := f) I1.kIn M.makes M.init (beq_iff_eq.mp M.fn) (codeAny_mono (Fn.run _ X.stack _ _ ⟨_, []⟩ _ _ _ (W σ) (hr.make C us []) (J.env0.make C us []) bd rr hq) fun r s' out => ?_))
  cases r with
  | error er => exact hx σ pins _ _ er s' J out
  | ok fl =>
    cases fl with
    | ret u =>
      obtain ⟨v, H', I3, rv, ev, q3⟩ := J.after out
      subst ev
      exact ⟨rv, ⟨V.ref (s1.heap.objs.size + 1), H', I3, rfl, q3⟩⟩
    | next => exact False.elim out
    | brk => exact False.elim out
    | cont => exact False.elim out
def tMeAt (C : Addr) (m : Str) (sp : Sp) (W : L2.St → XK) (ta : TE) (t : TA) : TE := fun σ H Q => ta σ H fun x H1 => ∃ a dx fs, x = .ref a ∧ H1 a = some (.ins C dx fs) ∧ fs.lookup m = none ∧ t σ H1 fun vs H2 => sp (x :: vs) H2 Q (W σ)
theorem pe_meAt {pl : Sem Bool} (ho : PE X o ta) (c : Cls X.K C) (hm : Meth X.K C m f) (Fn : FnOk X.prog X.w X.K X.mg X.base CX k f fd ps sp) (hr : Room k X.A) (hb : Binds X.K fd ps []) (hx : ∀ σ, PassesAt CX X σ (W σ)) (ha : PA X (e :: es) t)
    (hst : starEach (e :: es) X.env = (false, eval e X.env) :: starEach es X.env := by rfl) (hpl : (backTo pos (starEach es X.env)).any (·.1) = false := by rfl)
    (ht : eval (.Call (.Attribute o m apos) (e :: es) [] pos) X.env = (do
      let ov ← eval o X.env
      standAt apos.atName
      let (f, first) ← holding [ov] (getMethod ov m pl)
      callWith pos f first (backTo pos (starEach (e :: es) X.env)) (backToKw pos (keywordEach [] X.env))) := by rfl) :
    PE X (.Call (.Attribute o m apos) (e :: es) [] pos) (tMeAt C m sp W ta t) := by
  refine ⟨fun pins s σ H Q I h => PySem.W.methodCall_KW (pl := pl) (thn (ho.run pins s σ H _ I h) fun u s1 hh => ?_) ht⟩
  obtain ⟨x, H1, I1, rx, a, dx, fs, ex, ea, l, q⟩ := hh
  subst ex
  obtain rfl : u = Value.ref a := rx
  refine getmeth_ok I1 ea c hm l (PySem.W.callWith_K (first := [.ref a]) (h₀ := X.base) I.ok.mod.kin hm.kp (thn (ha.run pos pins s1 σ H1 _ I1 q) fun us s2 hh => ?_) hst hpl)
  obtain ⟨vs, H2, I2, r, q2⟩ := hh
  exact ⟨I2.kIn, run_fnS (us := .ref a :: us) (vs := .ref a :: vs) Fn hr hb (hx σ) I2 (.cons rfl r) q2⟩
end
/-! an own error with one field -/
/-- __init__ of such an error: self.router = router -/
def spXI (C : Addr) : Sp := fun vs H Q _ => ∃ (a : Addr) (y : V), vs = [.ref a, y] ∧ H a = some (exo a C none) ∧ ∀ dx, H dx = none → dx ≠ a → Q .non (upd (upd H dx (exd dx [("router", y)])) a (exo a C (some dx)))
/-- X(e) is made: where the error's dict is -/
theorem mk_err {C : Addr} {te : TE} {σ : L2.St} {H : Hp} {y : V} {W : XK} (h : Ev te σ H y) (k : ∀ d H', H d = none → Ex H H' → H' d = some (.xd [("router", y)]) → W (.ref C) (some d) H') : tMkO C (spXI C) [] (tCons te tNil) σ H W := by
  refine h H (Ex.refl H) _ fun H1 e => ⟨by show 1 ≤ 1000; decide, fun a ha => ?_⟩
  refine ⟨a, y, rfl, upd_same, fun dx hd hne => ⟨rfl, dx, [("router", y)], upd_same, by rw [upd_ne hne, upd_same], ?_, ?_⟩⟩
  · rw [upd_ne hne] at hd
    exact hd
  · have hd1 : H1 dx = none := by rw [upd_ne hne] at hd; exact hd
    refine k dx _ (fresh_back e hd1) (fun b o hb => ?_) upd_same
    have hb1 := e b o hb
    have nb : b ≠ dx := ne_of_none hb1 hd1
    have na : b ≠ a := ne_of_none hb1 ha
    rw [upd_ne nb, del_ne na, upd_ne na, upd_ne nb, upd_ne na]
    exact hb1
/-! parts of tuples -/
section
variable {K : PySem.W.Frag} {σ : L2.St} {H : Hp} {ta tb te : TE}
/-- what stands in a tuple (an old one or a new one) -/
def EvS (te : TE) (σ : L2.St) (H : Hp) (xs : List V) : Prop := ∀ H1, Ex H H1 → ∀ Q : VK, (∀ p H2, Ex H1 H2 → H2 p = some (.tup xs) → Q (.ref p) H2) → te σ H1 Q
theorem es_sl {a : Addr} {xs : List V} {tl th : TO} {lo hi : Option Int} (h : Ev te σ H (.ref a)) (h1 : EvO tl σ H lo) (h2 : EvO th σ H hi) (hs : H a = some (.tup xs)) : EvS (tSl (rSlA K) te tl th) σ H (cutV xs lo hi) := fun H1 e Q q =>
  h H1 e _ fun H2 e2 => h1 H2 (e.trans e2) _ fun H3 e3 => h2 H3 ((e.trans e2).trans e3) _ fun H4 e4 => by
    have hs4 := (((e.trans e2).trans e3).trans e4) _ _ hs
    refine ⟨a, xs, rfl, st_of hs4, fun hw => ?_, fun hw p hp => q p _ (((e2.trans e3).trans e4).trans (Ex.new hp)) upd_same⟩
    have ec : cutV xs lo hi = xs := by
      unfold cutV
      rw [hw.1, hw.2]
      simp
    rw [ec] at q
    exact q a H4 ((e2.trans e3).trans e4) hs4
theorem es_cat {xs ys : List V} (ha : EvS ta σ H xs) (hb : EvS tb σ H ys) (hz : xs.length + ys.length ≤ 100000) : EvS (tOp (rCatA K) ta tb) σ H (xs ++ ys) := fun H1 e Q q =>
  ha H1 e _ fun p H2 e2 hp => hb H2 (e.trans e2) _ fun p' H3 e3 hp' => by
    have hp3 := e3 _ _ hp
    refine ⟨p, p', xs, ys, rfl, rfl, st_of hp3, st_of hp', sz_of hz, fun hx => ?_, fun _ hy => ?_, fun _ _ r hr => q r _ ((e2.trans e3).trans (Ex.new hr)) upd_same⟩
    · rw [hx] at q
      exact q p' H3 (e2.trans e3) hp'
    · rw [hy, List.append_nil] at q
      exact q p H3 (e2.trans e3) hp3
theorem es_tup {t : TA} {xs : List V} (h : EvA t σ H xs) (hz : xs.length ≤ 100000) : EvS (tTup t) σ H xs := fun H1 e Q q => eu_tup h hz H1 e Q fun p H2 _ e2 hp => q p H2 e2 hp
theorem es_var {a : Addr} {xs : List V} (h : Ev te σ H (.ref a)) (hs : H a = some (.tup xs)) : EvS te σ H xs := fun H1 e Q q => h H1 e _ fun H2 e2 => q a H2 e2 ((e.trans e2) _ _ hs)
theorem es_mono {xs : List V} {H' : Hp} (e : Ex H H') (h : EvS te σ H xs) : EvS te σ H' xs := fun H1 e1 Q q => h H1 (e.trans e1) Q q
end
/-! x in t, t a tuple of data -/
section
variable {X : Cx}
def rInU (K : PySem.W.Frag) : R2 := fun x y H Q => ∃ d ds, Dp K H x d ∧ Dp K H y (.tuple ds) ∧ SeqAt.shaped d = true ∧ PyData.canLayAll0 ds = true ∧ Q (.bl (ds.any fun z => PyData.eqv z d)) H
def rNotInU (K : PySem.W.Frag) : R2 := fun x y H Q => ∃ d ds, Dp K H x d ∧ Dp K H y (.tuple ds) ∧ SeqAt.shaped d = true ∧ PyData.canLayAll0 ds = true ∧ Q (.bl (!ds.any fun z => PyData.eqv z d)) H
theorem op_inU (hu : X.A.units + 66 < cLine) : OpR X (compareOp .In) (rInU X.K) := fun pins s σ H x y v u Q I rx ry h => by
  obtain ⟨d, ds, hd, he, sd, se, q⟩ := h
  obtain ⟨as, r1⟩ := Dp.reads I d x v hd rx
  obtain ⟨bs, r2⟩ := Dp.reads I (.tuple ds) y u he ry
  have hdp := SeqAt.depth_of_shaped sd
  exact SeqAt.in_tuple_reads r2 r1 se (SeqAt.canLay_of_shaped sd) (by have := Nat.min_le_right (PyData.depthAll ds) d.depth; omega) ⟨.bl _, H, I, rfl, q⟩
theorem op_notInU (hu : X.A.units + 66 < cLine) : OpR X (compareOp .NotIn) (rNotInU X.K) := fun pins s σ H x y v u Q I rx ry h => by
  obtain ⟨d, ds, hd, he, sd, se, q⟩ := h
  obtain ⟨as, r1⟩ := Dp.reads I d x v hd rx
  obtain ⟨bs, r2⟩ := Dp.reads I (.tuple ds) y u he ry
  have hdp := SeqAt.depth_of_shaped sd
  exact SeqAt.notIn_tuple_reads r2 r1 se (SeqAt.canLay_of_shaped sd) (by have := Nat.min_le_right (PyData.depthAll ds) d.depth; omega) ⟨.bl _, H, I, rfl, q⟩
end
end Wk

set_option Elab.async false
set_option linter.all false
set_option maxRecDepth 100000
set_option maxHeartbeats 4000000
namespace Wk
open PySem PySem.Spec PyProof.Rows L2 Evl SeqAt
/-! == of a sequence and the empty one: by the lengths alone -/
section
variable {X : Cx}
def rEqEL (K : PySem.W.Frag) : R2 := fun x y H Q => ∃ a b xs, x = .ref a ∧ y = .ref b ∧ SqL K H a xs ∧ SqL K H b [] ∧ Q (.bl xs.isEmpty) H
theorem op_eqEL (hu : X.A.units < cLine) : OpR X (compareOp .Eq) (rEqEL X.K) := fun pins s σ H x y v u Q I rx ry h => by
  obtain ⟨a, b, xs, rfl, rfl, ha, hb, q⟩ := h
  cases rx
  cases ry
  obtain ⟨its, r1, p1, _⟩ := I.list ha
  obtain ⟨its2, r2, p2, _⟩ := I.list hb
  cases r2
  cases r1 with
  | nil => exact eq_listAt (e := fun _ => true) p1.isList p2.isList rfl hu (fun j h1 _ => absurd h1 (by simp)) ⟨.bl true, H, I, rfl, q⟩
  | cons r rr => exact eq_list_lengthsAt p1.isList p2.isList (by simp) hu ⟨.bl false, H, I, rfl, q⟩
def rEqEU (K : PySem.W.Frag) : R2 := fun x y H Q => ∃ a b xs, x = .ref a ∧ y = .ref b ∧ SqT K H a xs ∧ SqT K H b [] ∧ Q (.bl xs.isEmpty) H
theorem op_eqEU (hu : X.A.units < cLine) : OpR X (compareOp .Eq) (rEqEU X.K) := fun pins s σ H x y v u Q I rx ry h => by
  obtain ⟨a, b, xs, rfl, rfl, ha, hb, q⟩ := h
  cases rx
  cases ry
  obtain ⟨its, r1, p1, _⟩ := I.tuple ha
  obtain ⟨its2, r2, p2, _⟩ := I.tuple hb
  cases r2
  refine eq_tupleAt (e := fun _ => true) p1 p2 hu (fun j _ h2 => absurd h2 (by simp)) ⟨.bl xs.isEmpty, H, I, ?_, q⟩
  cases r1 <;> rfl
def rNeEU (K : PySem.W.Frag) : R2 := fun x y H Q => ∃ a b xs, x = .ref a ∧ y = .ref b ∧ SqT K H a xs ∧ SqT K H b [] ∧ Q (.bl (!xs.isEmpty)) H
theorem op_neEU (hu : X.A.units < cLine) : OpR X (compareOp .NotEq) (rNeEU X.K) := fun pins s σ H x y v u Q I rx ry h => by
  obtain ⟨a, b, xs, rfl, rfl, ha, hb, q⟩ := h
  cases rx
  cases ry
  obtain ⟨its, r1, p1, _⟩ := I.tuple ha
  obtain ⟨its2, r2, p2, _⟩ := I.tuple hb
  cases r2
  refine RcNeAt.tuples (e := fun _ => true) p1 p2 hu (fun j _ h2 => absurd h2 (by simp)) X.prog X.w _ _ ⟨.bl (!xs.isEmpty), H, I, ?_, q⟩
  cases r1 <;> rfl
end
/-! a dict and a tuple are unlike -/
theorem dictEqTup (l b : Addr) (o : Obj) (hoc : o.cls = .type "dict") (its : Array Value) (n : Nat) (dd : Option Addr) (sl : Array (Option Value)) :
    Meets (Builtin.«dict.__eq__» ⟨[.ref l, .ref b], []⟩) (fun _ R s => s.heap.get? l = some o ∧ s.heap.get? b = some { cls := .type "tuple", dict := dd, data := .seq its n, slots := sl } ∧ R (.ok (.ret .notImplemented)) s) :=
  .of_wp fun prog w A R s h => by
    obtain ⟨hp, g, d, tk, os⟩ := s
    obtain ⟨hl, hb, h⟩ := h
    obtain ⟨oc, od, dt, os2⟩ := o
    simp only at hoc
    subst hoc
    have f1 := F.sub_tuple_dict
    wp_walk using wpAny_loadPart' hl, wpAny_loadPart' hb
    exact ⟨_, rfl, h⟩
theorem tupEqDict (l b : Addr) (o : Obj) (hoc : o.cls = .type "dict") (its : Array Value) (n : Nat) (dd : Option Addr) (sl : Array (Option Value)) :
    Meets (Builtin.«tuple.__eq__» ⟨[.ref b, .ref l], []⟩) (fun _ R s => s.heap.get? b = some { cls := .type "tuple", dict := dd, data := .seq its n, slots := sl } ∧ s.heap.get? l = some o ∧ R (.ok (.ret .notImplemented)) s) :=
  .of_wp fun prog w A R s h => by
    obtain ⟨hp, g, d, tk, os⟩ := s
    obtain ⟨hb, hl, h⟩ := h
    obtain ⟨oc, od, dt, os2⟩ := o
    simp only at hoc
    subst hoc
    have f1 := F.sub_dict_tuple
    wp_walk using wpAny_loadPart' hl, wpAny_loadPart' hb
    exact ⟨_, rfl, h⟩
section
variable {A : Around} {s : Shared}
theorem eqAt_dictTup {l b : Addr} {o : Obj} {its : Array Value} (hl : s.heap.get? l = some o) (hoc : o.cls = .type "dict") (hb : s.heap.IsTuple b its) (hu : A.units < cLine) : EqAt A s (.ref l) (.ref b) false := by
  obtain ⟨⟨c2, dd, dt, sl⟩, ho2, hc2, n, hd2⟩ := hb
  simp only at hc2 hd2
  subst hc2 hd2
  have hne : l ≠ b := fun z => by
    rw [z, ho2] at hl
    cases hl
    exact absurd hoc (by simp)
  refine EqAt.of_refs hne fun prog w E Q h => ?_
  exact rc_eq_decline_or (k := false) ⟨_, hl, hoc⟩ ⟨_, ho2, rfl⟩ (by decide) F.sub_tuple_dict F.slot_dict_eq F.slot_tuple_eq_refl
    (fun _ hq => call_meets F.slot_dict_eq ⟨_, hl, hoc⟩ F.entry_dict_eq (F.args_dict_eq_2 _ _) (dictEqTup l b o hoc its n dd sl) ⟨hl, ho2, hq⟩)
    (fun _ hq => call_meets F.slot_tuple_eq_refl ⟨_, ho2, rfl⟩ F.entry_tuple_eq (F.args_tuple_eq_2 _ _) (tupEqDict l b o hoc its n dd sl) ⟨ho2, hl, hq⟩)
    (fun _ hq => wpAny_isSame_ref_other hne hl ho2 (by rw [hoc]; simp) hq) (.inr hu) h
end
/-- an item of an edited row -/
def Itm (d : PyData) : Prop := d = .dict [] ∨ (d.canLay0 = true ∧ d.depth ≤ 8)
section
variable {X : Cx}
/-- x not in l, l a list of such items, x a tuple: a flag -/
def rNotInX (K : PySem.W.Frag) : R2 := fun x y H Q => ∃ a p ds vs es, x = .ref a ∧ y = .ref p ∧ H p = some (.lst vs) ∧ DqA H vs ds ∧ (∀ d ∈ ds, Itm d) ∧ Dq H (.ref a) (.tuple es) ∧ PyData.canLay0 (.tuple es) = true ∧ ∀ b : Bool, Q (.bl b) H
theorem op_notInX (hu : X.A.units + 66 < cLine) : OpR X (compareOp .NotIn) (rNotInX X.K) := fun pins s σ H x y v u Q I rx ry h => by
  obtain ⟨a, p, ds, vs, es, rfl, rfl, hp, hds, hi, hx, cx, q⟩ := h
  cases rx
  cases ry
  obtain ⟨its, r1, p1, _⟩ := I.list (sq_of hp)
  have hxp := hx
  cases hxp with
  | tup h1 h2 =>
    obtain ⟨as, rx⟩ := Dp.reads I (.tuple es) (.ref a) (.ref a) (Dq.dp (K := X.K) cx hx) rfl
    obtain ⟨its2, r2, p2, _⟩ := I.tuple (st_of h1)
    have key : ∀ y ∈ its, ∃ b, EqAt X.A.in1 s y (.ref a) b := fun y hy => by
      obtain ⟨i, hiy⟩ := List.mem_iff_getElem?.mp hy
      have hil : i < vs.length := by
        have := (List.getElem?_eq_some_iff.mp hiy).1
        rw [r1.length]; exact this
      have hv : vs[i]? = some vs[i] := List.getElem?_eq_getElem hil
      obtain ⟨u2, hu2, ru⟩ := r1.get hv
      rw [hiy] at hu2
      cases hu2
      obtain ⟨d, ed, hd⟩ := hds.get hv
      rcases hi d (List.mem_of_getElem? ed) with z | ⟨z, zd⟩
      · subst z
        generalize hvv : vs[i] = vv at *
        cases hd with
        | dic hdd =>
          cases ru
          obtain ⟨_, _, vs2, _, o, es2, ep, g1, g2, _⟩ := (show ObjOk X.prog X.w H s.heap _ (.dK []) from I.hok _ _ hdd)
          exact ⟨false, eqAt_dictTup g1 g2.1 p2 (by show X.A.in1.units < cLine; simp; omega)⟩
      · obtain ⟨bs, ry⟩ := Dp.reads I d vs[i] y (Dq.dp (K := X.K) z hd) ru
        exact ⟨_, eqAt_reads d (.tuple es) X.A.in1 s y (.ref a) bs as ry rx z cx (by
          have hm := Nat.min_le_left d.depth (PyData.tuple es).depth
          show X.A.in1.units + _ < cLine
          simp
          omega)⟩
    have key2 : ∃ e : Value → Bool, ∀ y, y ∈ its.toArray → EqAt X.A.in1 s y (.ref a) (e y) := by
      refine ⟨fun y => @decide (EqAt X.A.in1 s y (.ref a) true) (Classical.propDecidable _), fun y hy => ?_⟩
      obtain ⟨b, hb⟩ := key y (by simpa using hy)
      by_cases c : EqAt X.A.in1 s y (.ref a) true
      · simp only [c, decide_true]
      · simp only [c, decide_false]
        cases b with
        | false => exact hb
        | true => exact absurd hb c
    obtain ⟨e, he⟩ := key2
    exact notIn_listAt e p1.isList he ⟨.bl _, H, I, rfl, q _⟩
end
end Wk

set_option Elab.async false
set_option linter.all false
set_option maxRecDepth 100000
set_option maxHeartbeats 2000000
namespace Wk
open PySem PySem.Spec PyProof.Rows L2 Evl
theorem cut_to (xs : List V) (i : Nat) (h : i ≤ xs.length) : cutV xs none (some (i : Int)) = xs.take i := by
  unfold cutV
  rw [HT.sIx_none, HT.sIx_nat, Nat.min_eq_left h]
  simp
theorem flat_ints (ns : List Int) : (ns.map V.int).all flatV = true := by
  rw [List.all_map, List.all_eq_true]
  intro x _
  rfl
theorem cut_from (xs : List V) (i : Nat) (h : i ≤ xs.length) : cutV xs (some (i : Int)) none = xs.drop i := by
  unfold cutV
  rw [HT.sIx_nat, HT.sIx_none, Nat.min_eq_left h]
  exact List.take_of_length_le (by simp)
theorem seqIx {k n : Nat} (h : k < n) : seqIndex? (k : Int) n = some k := by
  have q := ixN_seq (n := n) (i := (k : Int)) (j := k) (by
    unfold ixN
    rw [if_pos (by omega), if_pos (by omega)]
    simp)
  exact q.1
theorem ix_listK {X : Cx} {K : PySem.W.Frag} (hK : X.K = K) : IxR X (rIxL K) := by
  subst hK
  exact ix_list
theorem ixNat {n : Nat} {x : Int} (h0 : 0 ≤ x) (h1 : x < n) : ixN n x = some x.toNat := by
  unfold ixN
  rw [if_pos h0, if_pos h1]
theorem at_ints {os : List Int} {j : Nat} (h : j < os.length) : atI (os.map V.int) (j : Int) = some (.int os[j]) := atI_nat (by rw [List.getElem?_map, List.getElem?_eq_getElem h]; rfl)
theorem g_name {i : Nat} {x : V} {σ : L2.St} {H : Hp} {k : L2.St → Hp → Prop} (h : k (σ.set i (some x)) H) : gName i x σ H k := h
theorem asg_lst1 {te : TE} {g : TG} {D : Ends} {σ : L2.St} {H : Hp} (h : te σ H fun x H1 => 1 ≤ sizeLine ∧ ∀ b, H1 b = none → g (.ref b) σ (upd H1 b (.lst [x])) D.nx) : tAsg (tLst (tCons te tNil)) g D σ H := h
theorem cb1 {r : List V → Hp → VK → Prop} {ta : TE} {σ : L2.St} {H : Hp} {Q : VK} (h : ta σ H fun x H1 => r [x] H1 Q) : tCB r (tCons ta tNil) σ H Q := h
theorem q_c {i : Nat} {v : V} {tz : TS} {D : Ends} {σ : L2.St} {H : Hp} (h : tz D (σ.set i (some v)) H) : tSeq (tAsg (tC v) (gName i)) tz D σ H := h
theorem call_tupleK {X : Cx} {K : PySem.W.Frag} (hK : X.K = K) : CallR X (.type "tuple") (fun xs H Q => ∃ p ys, xs = [.ref p] ∧ ((SqL K H p ys ∧ ∀ l, H l = none → Q (.ref l) (upd H l (.tup ys))) ∨ (SqT K H p ys ∧ Q (.ref p) H))) := by
  subst hK
  exact call_tuple_of
theorem ret_cb {r : List V → Hp → VK → Prop} {ta : TE} {D : Ends} {σ : L2.St} {H : Hp} (h : ta σ H fun x H1 => r [x] H1 D.rt) : tRet (tCB r (tCons ta tNil)) D σ H := h
theorem ret_op {r : R2} {ta tb : TE} {D : Ends} {σ : L2.St} {H : Hp} (h : ta σ H fun x H1 => tb σ H1 fun y H2 => r x y H2 D.rt) : tRet (tOp r ta tb) D σ H := h
theorem call_listK2 {X : Cx} {K : PySem.W.Frag} (hK : X.K = K) : CallR X (.type "list") (fun xs H Q => ∃ p ys, xs = [.ref p] ∧ (SqL K H p ys ∨ SqT K H p ys) ∧ ∀ l, H l = none → Q (.ref l) (upd H l (.lst ys))) := by
  subst hK
  exact call_list_of
theorem take_snoc {α : Type} {l : List α} {i : Nat} {x : α} (h : l[i]? = some x) : l.take (i + 1) = l.take i ++ [x] := by
  rw [List.take_add_one, h]
  rfl
theorem ev_inS {K : PySem.W.Frag} {σ : L2.St} {H : Hp} {ta tb : TE} {x : V} {xs : List V} (ha : Ev ta σ H x) (hb : EvS tb σ H xs) (hx : flatV x = true) (hf : xs.all flatV = true) : Ev (tOp (rIn K false) ta tb) σ H (.bl (inV x xs)) := fun H1 e Q q =>
  ha H1 e _ fun H2 e2 => hb H2 (e.trans e2) _ fun p H3 e3 hp => ⟨p, xs, rfl, .inr (st_of hp), hx, hf, q H3 (e2.trans e3)⟩
theorem modP (a b : Int) (h : 0 < b) : 0 ≤ a % b ∧ a % b < b := ⟨Int.emod_nonneg _ (by omega), Int.emod_lt_of_pos _ h⟩
theorem q_asgW {te : TE} {tz : TS} {D : Ends} {σ : L2.St} {H : Hp} {i : Nat} (h : te σ H fun x H1 => tz D (σ.set i (some x)) H1) : tSeq (tAsg te (gName i)) tz D σ H := h
end Wk


set_option Elab.async false
set_option linter.all false
set_option maxRecDepth 100000
set_option maxHeartbeats 2000000
namespace Wk
open L2 PySem PySem.Spec PyProof.Rows
section
variable {X : Cx}
/-- one entry more by a comprehension, in a dict of either kind of keys -/
theorem put_dp {ps : List (Addr × Obj)} {σ : L2.St} {H Hn : Hp} {s : Shared} {D : Addr} {y z : V} {u r : Value}
    {E : Value → Shared → Prop} {Q : Unit → Shared → Prop} (hu : X.A.units < cLine) (I : Inv X ps σ H s)
    (g : DPut H D y z Hn) (ry : L2.RelV y u) (rz : L2.RelV z r) (h : ∀ s', Inv X ps σ Hn s' → Q () s') :
    wpAny (model X.prog X.w) X.A (dictSet D u r) Q E s := by
  rcases g with ⟨kvs, k, e, rfl, l, rfl⟩ | ⟨kvs, k, b, e, rfl, eb, l, rfl⟩
  · exact d_dictSet I e l ry rz h
  · obtain rfl : u = Value.ref b := ry
    obtain ⟨z1, nd, xs, rel, dd⟩ := dt_of I.hok e
    have l1 := length_putK kvs k z
    refine wpAny_dictSet_heap (hsz := by rw [← Paired.length rel]; exact z1) hu (key_of I.hok eb) dd
      fun h1 d1 sb => h _ ?_
    obtain ⟨q, es, ep, hq, a1, a2, a3, _, a4⟩ := d1
    refine d_write I (by rw [e]; trivial) sb ⟨q, hq⟩ ⟨by omega, nd, _, (rel.put k eb rz).keeps ?_, q, es, ep, hq, a1, a2, a3, a4⟩
    intro c ys ec
    exact (upd_ne (ne_of ec e (by intro z; cases z))).trans ec
end
/-- what one item does: the target, the tests, then key, value and the entry -/
def dqStep (g : TG) (tt : TT) (tk tv : TE) (vs : List Nat) (D : Addr) (Nx : Hp → Prop) (σ : L2.St) (x : V) (H : Hp) : Prop :=
  g x (wipe σ vs) H fun σa Ha => wipe σa vs = wipe σ vs ∧ tt σa Ha fun b Hb =>
    if b = true then tk σa Hb fun y Hc => tv σa Hc fun z Hd => ∃ Hn, DPut Hd D y z Hn ∧ Nx Hn
    else Nx Hb
/-- the walk of such a comprehension by a measure -/
def dqWalk (J : It) (step : (Hp → Prop) → V → Hp → Prop) (Qs : Hp → Prop) (W : Nat → Nat → Hp → Prop) : Prop :=
  ∀ i m H, W i m H → (J.stop i H ∧ Qs H) ∨
    (J.go i H ∧ ∃ Nx : Hp → Prop, (∀ Ha, Nx Ha → ∃ k, k < m ∧ W (i + 1) k Ha) ∧ ∀ x Ha, J.yld i H x Ha → step Nx x Ha)
theorem dq_loop {Y : Cx} {σ : L2.St} {vs : List Nat} {R : Result → Shared → Prop} {J : It} {fp : List Addr} {it D : Addr}
    {tn : Nat → Heap → Prop} {kx vx tg iter : Expr} {ifs : List Expr} {scope : Scope} {pos : Pos} {g : TG} {tt : TT} {tk tv : TE}
    {W : Nat → Nat → Hp → Prop} {Qs : Hp → Prop} (hc : Y.calm = true) (hx : Y.xe = fun _ _ => False) (hu : Y.A.units < cLine)
    (T : Turn Y.prog Y.w Y.K tg J fp it tn) (pg : PG Y tg g) (pt : PTs Y ifs tt) (pk : PE Y kx tk) (pv : PE Y vx tv)
    (own : ∀ {σ' : L2.St} {H' : Hp} {s' : Shared}, Inv Y [] σ' H' s' → (∀ b ∈ fp, H' b = none) → ∀ b ∈ fp, FpOk Y [] H' b)
    (walk : dqWalk J (fun Nx x H => dqStep g tt tk tv vs D Nx σ x H) Qs W)
    (last : ∀ H s, Inv Y [] (wipe σ vs) H s → Qs H → R (.ok .next) s)
    {m : Nat} {H : Hp} {s : Shared} (I : Inv Y [] (wipe σ vs) H s) (st : tn 0 s.heap) (nf : ∀ b ∈ fp, H b = none) (w : W 0 m H) :
    codeAny (model Y.prog Y.w) Y.A
      (.compLoop (.DictComp kx vx [⟨tg, iter, ifs, 0⟩] scope pos) 0 (.ref it) (.ref D) Y.env) R s := by
  refine compLoop_anyD (fun k s1 => ∃ i H1, Inv Y [] (wipe σ vs) H1 s1 ∧ tn i s1.heap ∧ (∀ b ∈ fp, H1 b = none) ∧ W i k H1)
    (fun k s1 hk => ?_) m ⟨0, H, I, st, nf, w⟩
  obtain ⟨i, H1, I1, st1, nf1, w1⟩ := hk
  cases walk i k H1 w1 with
  | inl e =>
    refine thnF (T.done Y rfl rfl rfl hc i [] s1 _ H1 (fun _ _ => False) I1 (own I1 nf1) st1 e.1) ?_
    rintro _ s2 ⟨rfl, I2⟩
    exact last H1 s2 I2 e.2
  | inr e =>
    obtain ⟨go, Nx, less, step⟩ := e
    refine thnF (T.item Y rfl rfl rfl hc i [] s1 _ H1 (fun _ _ => False) I1 (own I1 nf1) st1 go) ?_
    rintro _ s2 ⟨u, rfl, it2⟩
    refine thnF it2 ?_
    rintro _ s3 ⟨x, H3, I3, rx, yx, st3, nf3⟩
    have pin := I3.pinned (own I3 nf3) (T.obj _ _ st3)
    have t1 := pg.run _ s3 _ H3 x u _ pin rx (step x H3 yx)
    rw [hx] at t1
    refine thnF t1 ?_
    rintro _ s4 ⟨σ4, H4, I4, ew, q4⟩
    have back : ∀ {s9 : Shared} {H9 : Hp}, Inv Y ([] ++ pinsAt fp s3.heap) σ4 H9 s9 → Nx H9 →
        ∃ j, j < k ∧ ∃ i' H', Inv Y [] (wipe σ vs) H' s9 ∧ tn i' s9.heap ∧ (∀ b ∈ fp, H' b = none) ∧ W i' j H' := by
      intro s9 H9 I9 nx
      obtain ⟨j, lt, wj⟩ := less H9 nx
      have same : ∀ b ∈ fp, ∀ o, s3.heap.get? b = some o → s9.heap.get? b = some o ∧ H9 b = none := by
        intro b hb o eo
        have a := I9.pin (b, o) (List.mem_append_right _ (List.mem_append_right _ (mem_pinsAt hb eo)))
        exact ⟨a.1, a.2.1⟩
      refine ⟨j, lt, i + 1, H9, ?_, T.keep _ _ _ st3 fun b hb o eo => (same b hb o eo).1, ?_, wj⟩
      · refine (I9.unpinned (pins := [])).weak (by rw [← ew, wipe_length]) ?_
        intro n v en
        rw [← ew] at en
        exact (wipe_some en).1
      · intro b hb
        obtain ⟨o, eo, _⟩ := T.obj _ _ st3 b hb
        exact (same b hb o eo).2
    have t2 := pt.run _ s4 σ4 H4 _ I4 q4
    rw [hx] at t2
    refine thnF t2 ?_
    rintro b s5 ⟨H5, I5, q5⟩
    cases b with
    | false => exact back I5 q5
    | true =>
      have t3 := pk.run _ s5 σ4 H5 _ I5 q5
      rw [hx] at t3
      refine thnF t3 ?_
      rintro ky s6 ⟨y, H6, I6, ry, q6⟩
      have t4 := pv.run _ s6 σ4 H6 _ I6 q6
      rw [hx] at t4
      refine thnF t4 ?_
      rintro vy s7 ⟨z, H7, I7, rz, Hn, put, nx⟩
      exact put_dp hu I7 put ry rz fun s8 I8 => back I8 nx
/-- {k: v for .. in .. if ..}, keys tuples -/
def tDq (wi : TI) (g : TG) (tt : TT) (tk tv : TE) (vs : List Nat) : TE := fun σ H Q => wi σ H fun J H1 => ∀ D, H1 D = none →
  ∃ W : Nat → Nat → Hp → Prop, (∃ m, W 0 m (upd H1 D (.dT []))) ∧
    dqWalk J (fun Nx x Ha => dqStep g tt tk tv vs D Nx σ x Ha) (fun Ha => Q (.ref D) Ha) W
/-- the context of the block -/
abbrev Bq (X : Cx) (scope : Scope) (s : Shared) (H : Hp) (C : Addr) (cl : List (Str × Addr)) (fp : List Addr) : Cx :=
  X.blk s H scope (compEnvC scope cl C X.env) fp
theorem pe_dq {X : Cx} {kx vx tg iter : Expr} {ifs : List Expr} {scope : Scope} {own : List (Str × Nat)} {pos : Pos}
    {wi : TI} {g : TG} {tt : TT} {tk tv : TE} (hc : X.calm = true) (hu : X.A.units + 1 < cLine) (hN : X.N.Nodup)
    (hi : PI X tg iter wi) (ok : BlkOk X.N X.env.scope scope own) (hg : ∀ s H C cl fp, PG (Bq X scope s H C cl fp) tg g)
    (ht : ∀ s H C cl fp, PTs (Bq X scope s H C cl fp) ifs tt) (hk : ∀ s H C cl fp, PE (Bq X scope s H C cl fp) kx tk)
    (he : ∀ s H C cl fp, PE (Bq X scope s H C cl fp) vx tv) (hs : ∀ x, foldedSetIterable iter X.env x = pure x := by intro _; rfl) :
    PE X (.DictComp kx vx [⟨tg, iter, ifs, 0⟩] scope pos) (tDq wi g tt tk tv (own.map (·.2))) := by
  constructor
  intro ps s σ H Q I h
  rw [arm_eval_DictComp]
  have look : ∀ y ∈ scope.names, y.2 = .free → ∃ c, X.env.cells.lookup y.1 = some c := by
    intro y hy e
    exact I.ok.has _ (ok.free y hy e)
  refine wpAny_comprehension_free (use := none) rfl hs (closure_ok look) ok.kind (fun y hy e => (ok.uniq y hy).trans (by rw [e])) ?_
  refine thn (hi.run ps s σ H _ I h) ?_
  intro xv s1 h1
  refine thn h1 ?_
  rintro _ s2 ⟨it, fp, tn, J, H2, rfl, I2, T, st2, f2, q⟩
  refine wpAny_newObj_type ?_
  refine newEnv_comp ?_
  obtain ⟨D, hD⟩ : ∃ D, D = s2.heap.objs.size := ⟨_, rfl⟩
  rw [← hD]
  obtain ⟨W, ⟨m0, w0⟩, walk⟩ := q D (I2.hok.fresh (Nat.le_of_eq hD.symm))
  obtain ⟨s3, e3⟩ : ∃ s3 : Shared, s3 = { s2 with heap := s2.heap.push { cls := .type "dict", data := .dict #[] } } := ⟨_, rfl⟩
  have g3 : ∀ b o, s2.heap.get? b = some o → s3.heap.get? b = some o := by
    intro b o e
    rw [e3]
    exact Heap.get?_push_of_some _ (by exact e)
  have I3 : Inv X ps σ (upd H2 D (.dT [])) s3 := by
    rw [e3, hD]
    exact I2.laid (t' := s2.toks) (fun b o e => Heap.get?_push_of_some _ e) (Nat.le_refl _) (dt_empty s2.heap I2.big)
  rw [← e3]
  obtain ⟨H3, eH3⟩ : ∃ H3, H3 = upd H2 D (.dT []) := ⟨_, rfl⟩
  rw [← eH3] at I3 w0
  have f3 : ∀ b ∈ fp, FpOk X ps H3 b ∧ b < s3.heap.objs.size := by
    intro b hb
    obtain ⟨o, e, _⟩ := T.obj 0 _ st2 b hb
    refine ⟨⟨?_, (f2 b hb).2⟩, Heap.lt_size (g3 b o e)⟩
    rw [eH3, upd_ne (by rw [hD]; exact Nat.ne_of_lt (Heap.lt_size e))]
    exact (f2 b hb).1
  have st3 : tn 0 s3.heap := T.keep _ _ _ st2 fun b _ o e => g3 b o e
  have Ib := block_start I3 ok hN f3
  obtain ⟨C, hC⟩ : ∃ C, C = s3.heap.objs.size := ⟨_, rfl⟩
  rw [← hC] at Ib ⊢
  obtain ⟨cl, ecl⟩ : ∃ cl, cl = cellsFrom (C + 1) scope.names (cloFrom X.env.cells scope.names []) := ⟨_, rfl⟩
  rw [← ecl] at Ib ⊢
  have st4 : tn 0 (pushCells (s3.heap.push { cls := .type "dict", data := .dict #[] }) scope.names) := T.keep _ _ _ st3 fun b _ o e =>
    pushCells_keeps _ _ _ _ (Heap.get?_push_of_some _ e)
  have loop : codeAny (model X.prog X.w) X.A
      (.compLoop (.DictComp kx vx [⟨tg, iter, ifs, 0⟩] scope pos) 0 (.ref it) (.ref D) (compEnvC scope cl C X.env))
      (compPost (model X.prog X.w) X.A X.xe none (EP X ps σ Q) (.ref D) C)
      { s3 with heap := pushCells (s3.heap.push { cls := .type "dict", data := .dict #[] }) scope.names } := by
    refine dq_loop (Y := Bq X scope s3 H3 C cl fp) (σ := σ) hc rfl (Nat.lt_of_succ_lt hu) T (hg s3 H3 C cl fp)
      (ht s3 H3 C cl fp) (hk s3 H3 C cl fp) (he s3 H3 C cl fp) ?_ walk ?_ Ib st4 (fun b hb => (f3 b hb).1.1) w0
    · intro σ' H' s' I' nf b hb
      refine ⟨nf b hb, (I'.ok.exf b hb).1, I'.ok.exfs b hb, .inl hb, fun x c e => (I'.ok.exf b hb).2 x c e, ?_⟩
      intro p hp
      exact absurd (show p ∈ ([] : List (Addr × Obj)) ++ [] from hp) (by simp)
    · intro H6 s6 I6 q6
      have I7 : Inv X ps σ H6 s6 := by
        refine I3.call' (ch := fp) I6.os I6.base I6.hok I6.bare ?_
        intro b hb
        obtain ⟨_, n1, _, n2, n3, n4⟩ := (f3 b hb).1
        exact ⟨n2, n1, n3, n4⟩
      obtain ⟨m, hn, _⟩ := I6.loc
      refine ⟨m, hn, fun h' sb => ?_⟩
      obtain ⟨n0, n1, n2, n3, n4, n5⟩ := I3.fpOk (b := C) (Nat.le_of_eq hC.symm) (show H6 C = none from I6.free)
      refine ⟨.ref D, H6, ?_, rfl, q6⟩
      exact I7.turned (t' := s6.toks) (fun b o hb e => (sb.2 b hb).trans e) n0 n1 n3 n4 n5
  exact codeAny_compStart_dict loop (T.self _ 0 _ _ _ st4 loop)
end Wk

set_option Elab.async false
set_option linter.all false
set_option maxRecDepth 100000
set_option maxHeartbeats 2000000
namespace Wk
open L2 PySem PySem.Spec PyProof.Rows Evl
/-- the items that a comprehension has put, item j of the source by Y j -/
def Grown (Y : Nat → V → Hp → Prop) (H : Hp) : List Nat → List V → Prop
  | [], us => us = []
  | j :: js, us => ∃ u r, us = u :: r ∧ Y j u H ∧ Grown Y H js r
def UpY (Y : Nat → V → Hp → Prop) : Prop := ∀ i u H H', Ex H H' → Y i u H → Y i u H'
theorem Grown.up {Y : Nat → V → Hp → Prop} (hY : UpY Y) {H H' : Hp} (e : Ex H H') : ∀ {js : List Nat} {us : List V}, Grown Y H js us → Grown Y H' js us
  | [], _, h => h
  | j :: js, _, ⟨u, r, h1, h2, h3⟩ => ⟨u, r, h1, hY j u H H' e h2, Grown.up hY e h3⟩
theorem Grown.snoc {Y : Nat → V → Hp → Prop} {H : Hp} {j : Nat} {u : V} (h : Y j u H) : ∀ {js : List Nat} {us : List V}, Grown Y H js us → Grown Y H (js ++ [j]) (us ++ [u])
  | [], _, h0 => by
    rw [show _ = [] from h0]
    exact ⟨u, [], rfl, h, rfl⟩
  | k :: js, _, ⟨v, r, h1, h2, h3⟩ => by
    subst h1
    exact ⟨v, r ++ [u], rfl, h2, Grown.snoc h h3⟩
theorem Grown.len {Y : Nat → V → Hp → Prop} {H : Hp} : ∀ {js : List Nat} {us : List V}, Grown Y H js us → us.length = js.length
  | [], _, h0 => by
    rw [show _ = [] from h0]
    rfl
  | k :: js, _, ⟨v, r, h1, h2, h3⟩ => by
    subst h1
    simp [Grown.len h3]
def upTo (f : Nat → Bool) (i : Nat) : List Nat := (List.range i).filter f
theorem upTo_yes {f : Nat → Bool} {i : Nat} (h : f i = true) : upTo f (i + 1) = upTo f i ++ [i] := by
  unfold upTo
  rw [List.range_succ, List.filter_append]
  simp [h]
theorem upTo_no {f : Nat → Bool} {i : Nat} (h : f i = false) : upTo f (i + 1) = upTo f i := by
  unfold upTo
  rw [List.range_succ, List.filter_append]
  simp [h]
theorem upTo_len (f : Nat → Bool) (i : Nat) : (upTo f i).length ≤ i := by
  unfold upTo
  have h := List.length_filter_le f (List.range i)
  rw [List.length_range] at h
  exact h
/-- what is evaluated is told by Y, the heap may grow -/
def EvY (te : TE) (σ : L2.St) (H : Hp) (Y : V → Hp → Prop) : Prop := ∀ H1, Ex H H1 → ∀ Q : VK, (∀ u H2, Ex H1 H2 → Y u H2 → Q u H2) → te σ H1 Q
def off (D : Addr) (H : Hp) : Hp := fun a => if a = D then none else H a
theorem off_ex {D : Addr} {H H' : Hp} (e : Ex H H') : Ex (off D H) (off D H') := fun a o h => by
  unfold off at h ⊢
  by_cases z : a = D
  · rw [if_pos z] at h
    cases h
  · rw [if_neg z] at h ⊢
    exact e a o h
theorem off_in (D : Addr) (H : Hp) : Ex (off D H) H := fun a o h => by
  unfold off at h
  split at h
  · cases h
  · exact h
theorem off_upd {D : Addr} {H : Hp} {o : HO} : off D (upd H D o) = off D H := by
  funext a
  unfold off upd
  split <;> rfl
theorem off_at {D a : Addr} {H : Hp} (h : a ≠ D) : off D H a = H a := by
  unfold off
  rw [if_neg h]
/-- a word of an item that outlives new objects and does not speak of lists -/
structure GoodY (Y : Nat → V → Hp → Prop) : Prop where
  up : UpY Y
  off : ∀ i u H D l, H D = some (.lst l) → Y i u H → Y i u (Wk.off D H)
def Gw (Y : Nat → V → Hp → Prop) (H : Hp) (f : Nat → Bool) (D : Addr) (i : Nat) (H' : Hp) : Prop :=
  H D = none ∧ Ex H H' ∧ ∃ us, H' D = some (.lst us) ∧ Grown Y (off D H') (upTo f i) us
theorem gw_turn {Y : Nat → V → Hp → Prop} (hY : GoodY Y) {H H' : Hp} {f : Nat → Bool} {D : Addr} {i : Nat} {t : TT} {te : TE} {σ2 : L2.St} (p : Gw Y H f D i H') (hi : i < 50000)
    (ht : EvT t σ2 H' (f i)) (he : f i = true → EvY te σ2 H' (Y i)) :
    t σ2 H' fun b H3 => if b = true then te σ2 H3 fun y H4 => ∃ acc, H4 D = some (.lst acc) ∧ acc.length < sizeLine ∧ Gw Y H f D (i + 1) (upd H4 D (.lst (acc ++ [y])))
      else Gw Y H f D (i + 1) H3 := by
  obtain ⟨p1, p2, us, p3, p4⟩ := p
  refine ht H' (Ex.refl _) _ fun H3 e3 => ?_
  cases hf : f i with
  | false =>
    refine ⟨p1, p2.trans e3, us, e3 _ _ p3, ?_⟩
    rw [upTo_no hf]
    exact p4.up hY.up (off_ex e3)
  | true =>
    refine he hf H3 e3 _ fun u H4 e4 y => ?_
    have d4 := e4 _ _ (e3 _ _ p3)
    have l1 := p4.len
    have l2 := upTo_len f i
    refine ⟨us, d4, sz_lt (by omega), p1, Ex.mut ((p2.trans e3).trans e4) p1, us ++ [u], upd_same, ?_⟩
    rw [upTo_yes hf, off_upd]
    exact Grown.snoc (hY.off i u H4 D us d4 y) (p4.up hY.up (off_ex (e3.trans e4)))
/-- a list comprehension whose items may be new objects -/
theorem grow_lc {J : It} {n : Nat} {Gd : Hp → Prop} {Yx : Nat → V → Prop} {Y : Nat → V → Hp → Prop} {j : Nat} {vs : List Nat} {σ : L2.St} {H : Hp} {D : Addr} {Qd : Hp → Prop} {t : TT} {te : TE}
    (w : Walk J n Gd (fun i H x H' => H' = H ∧ Yx i x)) (hY : GoodY Y) (f : Nat → Bool) (hD : H D = none) (hn : n ≤ 40000) (hG : ∀ H', Ex H H' → Gd H') (hw : ∀ x, wipe ((wipe σ vs).set j (some x)) vs = wipe σ vs)
    (ht : ∀ i x H', Ex H H' → i < n → Yx i x → EvT t ((wipe σ vs).set j (some x)) H' (f i)) (he : ∀ i x H', Ex H H' → i < n → Yx i x → f i = true → EvY te ((wipe σ vs).set j (some x)) H' (Y i))
    (hq : ∀ us H', Ex H H' → H' D = some (.lst us) → Grown Y H' (upTo f n) us → Qd H') :
    ∃ W : Nat → Nat → Hp → Prop, (∃ m, W 0 m (upd H D (.lst []))) ∧ ∀ i m H, W i m H →
      (J.stop i H ∧ Qd H) ∨ (J.go i H ∧ ∃ Nx : Hp → Prop, (∀ H', Nx H' → ∃ m', m' < m ∧ W (i + 1) m' H') ∧ ∀ x H', J.yld i H x H' → gName j x (wipe σ vs) H' fun σ2 H2 => wipe σ2 vs = wipe σ vs ∧ t σ2 H2 fun b H3 =>
        if b = true then te σ2 H3 fun y H4 => ∃ acc, H4 D = some (.lst acc) ∧ acc.length < sizeLine ∧ Nx (upd H4 D (.lst (acc ++ [y]))) else Nx H3) := by
  refine lc_it w (Gw Y H f D) ⟨hD, Ex.new hD, [], upd_same, rfl⟩ (fun i H' _ p => hG H' p.2.1) (fun i x H' H2 hi p y => ?_) (fun H' p => ?_)
  · obtain ⟨rfl, yx⟩ := y
    exact ⟨hw x, gw_turn hY p (by omega) (ht i x _ p.2.1 hi yx) (fun hf => he i x _ p.2.1 hi yx hf)⟩
  · obtain ⟨_, e, us, d, g⟩ := p
    exact hq us H' e d (g.up hY.up (off_in D H'))
/-- the keys of a dict are the first i of k, each with True -/
def KHas (k : Nat → List L2.Key) (i : Nat) (kvs : List (List L2.Key × V)) : Prop :=
  ∀ q, (valV kvs q = some (V.bl true) ∧ ∃ j, j < i ∧ k j = q) ∨ (valV kvs q = none ∧ ∀ j, j < i → k j ≠ q)
/-- the keys that a comprehension has put -/
def Kw (k : Nat → List L2.Key) (H : Hp) (D : Addr) (i : Nat) (H' : Hp) : Prop :=
  H D = none ∧ Ex H H' ∧ ∃ kvs, H' D = some (.dT kvs) ∧ kvs.length ≤ i ∧ KHas k i kvs
/-- {x: True for x in ..}, of tuples of whole numbers or texts -/
theorem grow_dq {J : It} {n : Nat} {Gd : Hp → Prop} {Yx : Nat → V → Prop} {k : Nat → List L2.Key} {j : Nat} {vs : List Nat} {σ : L2.St} {H : Hp} {D : Addr} {Qd : Hp → Prop} {tk tv : TE}
    (w : Walk J n Gd (fun i H x H' => H' = H ∧ Yx i x)) (hD : H D = none) (hn : n ≤ 40000) (hG : ∀ H', Ex H H' → Gd H') (hw : ∀ x, wipe ((wipe σ vs).set j (some x)) vs = wipe σ vs)
    (hk : ∀ i x H', Ex H H' → i < n → Yx i x → EvY tk ((wipe σ vs).set j (some x)) H' (fun u H2 => ∃ b, u = .ref b ∧ H2 b = some (.tup ((k i).map kV))))
    (hv : ∀ i x H', Ex H H' → i < n → Yx i x → Ev tv ((wipe σ vs).set j (some x)) H' (.bl true))
    (hq : ∀ kvs H', Ex H H' → H' D = some (.dT kvs) → KHas k n kvs → Qd H') :
    ∃ W : Nat → Nat → Hp → Prop, (∃ m, W 0 m (upd H D (.dT []))) ∧ dqWalk J (fun Nx x Ha => dqStep (gName j) tYes tk tv vs D Nx σ x Ha) Qd W := by
  refine ⟨fun i m H' => m = n - i ∧ i ≤ n ∧ Kw k H D i H', ⟨n, by simp, Nat.zero_le _, hD, Ex.new hD, [], upd_same, Nat.le_refl _, fun q => .inr ⟨rfl, fun j hj => absurd hj (Nat.not_lt_zero _)⟩⟩, ?_⟩
  rintro i m H1 ⟨rfl, hi, p1, p2, kvs, p3, p4, p5⟩
  by_cases lt : i < n
  · refine .inr ⟨w.goes i H1 lt (hG H1 p2), Kw k H D (i + 1), fun Ha q => ⟨n - (i + 1), by omega, rfl, lt, q⟩, fun x Ha y => ?_⟩
    obtain ⟨rfl, yx⟩ := w.yields i H1 x Ha lt (hG H1 p2) y
    refine ⟨hw x, ?_⟩
    show tk _ _ _
    refine hk i x _ p2 lt yx _ (Ex.refl _) _ fun u H2 e2 hu => ?_
    obtain ⟨b, rfl, hb⟩ := hu
    refine hv i x _ p2 lt yx H2 e2 _ fun H3 e3 => ?_
    have d3 := e3 _ _ (e2 _ _ p3)
    refine ⟨_, DPut.t d3 (e3 _ _ hb) (sz_lt (by omega)), p1, Ex.mut ((p2.trans e2).trans e3) p1, _, upd_same, ?_, fun q => ?_⟩
    · have := length_putK kvs (k i) (V.bl true)
      omega
    · rw [valV_put]
      by_cases e : q = k i
      · rw [if_pos e]
        exact .inl ⟨rfl, i, Nat.lt_succ_self i, e.symm⟩
      · rw [if_neg e]
        rcases p5 q with ⟨z, j', h1, h2⟩ | ⟨z, h2⟩
        · exact .inl ⟨z, j', by omega, h2⟩
        · refine .inr ⟨z, fun j' hj => ?_⟩
          rcases Nat.lt_succ_iff_lt_or_eq.mp hj with h3 | h3
          · exact h2 j' h3
          · subst h3
            exact fun z2 => e z2.symm
  · have e : i = n := by omega
    subst e
    exact .inl ⟨w.stops H1 (hG H1 p2), hq kvs H1 p2 p3 p5⟩
end Wk

set_option Elab.async false
set_option linter.all false
set_option maxRecDepth 100000
set_option maxHeartbeats 2000000
namespace Wk
open PySem PySem.Spec PyProof.Rows L2 Evl
/-! several except clauses, each with the same name for what it caught -/
def unAs (i : Nat) (D : Ends) : Ends := { nx := fun σ' H' => D.nx (σ'.set i none) H', rt := D.rt, bk := fun σ' H' => D.bk (σ'.set i none) H', ct := fun σ' H' => D.ct (σ'.set i none) H' }
/-- what these clauses wish of an exception, one behind the other -/
def wClauses (K : PySem.W.Frag) (i : Nat) (Wo : WX) (D : Ends) : List (Value × (Addr → Value → Option Addr → TS)) → WX
  | [] => Wo
  | y :: r => fun cls d σ H => ∃ b, PySem.W.exmOne K cls y.1 = some b ∧ (b = true → ∀ a, H a = none → y.2 a cls d (unAs i D) (σ.set i (some (.ref a))) H) ∧ (b = false → wClauses K i Wo D r cls d σ H)
inductive Clauses (X : Cx) (n : Str) : List ExceptHandler → List (Value × (Addr → Value → Option Addr → TS)) → Prop
  | nil : Clauses X n [] []
  | cons {x : Str} {c : Value} {ts : Addr → Value → Option Addr → TS} {b₀ : Stmt} {su : List Stmt} {np pos' : Pos} {hs : List ExceptHandler} {l : List (Value × (Addr → Value → Option Addr → TS))} (hc : Names X x c)
      (hsu : ∀ (a : Addr) (oe : Obj) (cls : Value) (d : Option Addr) (pn : List (Addr × Obj)), Zc cls d oe → (∃ vs, oe.data = .fields vs) → PSs (X.suite a ((a, oe) :: pn)) (b₀ :: su) (ts a cls d)) (r : Clauses X n hs l) :
      Clauses X n (.ExceptHandler (some (.Name x np)) (some n) (b₀ :: su) pos' :: hs) ((c, ts) :: l)
section
variable {X : Cx} {n : Str} {i : Nat} {body : List Stmt} {h₀ : ExceptHandler} {hds : List ExceptHandler} {l : List (Value × (Addr → Value → Option Addr → TS))} {pos : Pos} {tb : WX → TS} {Wout : WX}
theorem ps_try_clauses (hs : X.stack = X.env :: X.outer) (hf : X.env.frame = some X.env.locals) (hN : X.N.Nodup) (hi : X.N[i]? = some n) (hln : X.env.kindOf n = some .local) (tk : Takes X Wout)
    (hb : ∀ (W : WX) (pn : List (Addr × Obj)) (xe : Value → Shared → Prop), Takes (X.tr pn xe) W → PassesOwn (model X.prog X.w) X.A X.env xe → PSs (X.tr pn xe) body (tb W))
    (hh : Clauses X n (h₀ :: hds) l) : PS X (.Try body (h₀ :: hds) [] [] pos) (fun D σ H => tb (wClauses X.K i Wout D l) D σ H) := by
  refine ⟨fun pins s σ H D I h => ?_⟩
  have ok := I.ok
  have hfr : X.A.frames = some (X.env :: X.outer) := by rw [ok.frames, hs]
  have hloc : Loc X.env.scope n := .inl hln
  refine wpAny_Try_except (wpAny_mono ((hb (wClauses X.K i Wout D l) (X.pn ++ pins) (fun e s₁ => wpAny (model X.prog X.w) X.A (noteFrame e X.env) (fun _ s₂ => wpAny (model X.prog X.w) X.A (setFlight e none) (fun _ s₃ =>
    wpAny (model X.prog X.w) X.A (handleBy e X.env (h₀ :: hds)) (SP X pins D) X.xe s₃) X.xe s₂) X.xe s₁) ?air PassesOwn.looking).run [] s σ H D (I.toTry _) h) ?fine (fun _ _ he => he))
  case fine =>
    intro f s1 hsp
    cases f with
    | next => obtain ⟨σ', H', J', q⟩ := hsp; exact wpAny_execs_nil ⟨σ', H', J'.ofTry ok, q⟩
    | brk => obtain ⟨σ', H', J', q⟩ := hsp; exact ⟨σ', H', J'.ofTry ok, q⟩
    | cont => obtain ⟨σ', H', J', q⟩ := hsp; exact ⟨σ', H', J'.ofTry ok, q⟩
    | ret u => obtain ⟨v, σ', H', J', r, q⟩ := hsp; exact ⟨v, σ', H', J'.ofTry ok, r, q⟩
  case air =>
    intro u s' xx
    obtain ⟨a, B, sI, pins', σ', H', cls, d, rfl, J', nb, up, sky, na, os, ag, w⟩ := xx
    have J : Inv X pins σ' H' sI := J'.ofTry ok
    rw [hs] at sky
    refine Sky.land (L := X.env.locals) Zc.steady hfr hf sky fun h3 fl3 up3 => ?_
    have J3 : Inv X pins σ' H' { s' with heap := h3 } := J.landed nb fl3.1 (up.trans up3) os ag
    obtain ⟨oe3, vs3, he3, hz3, hd3⟩ := fl3.there
    have nfr : a ∉ frs (X.env :: X.outer) := fun hm => by
      obtain ⟨_, o', e', hnf⟩ := fl3.2.2.1.mem hm
      rw [he3] at e'
      cases e'
      exact hnf _ hd3
    have nL : a ≠ X.env.locals := fun z => nfr (List.mem_filterMap.mpr ⟨X.env, List.mem_cons_self, by rw [hf, z]⟩)
    have nF : a ∉ X.fs := fun hm => by
      obtain ⟨e, he, q⟩ := List.mem_filterMap.mp hm
      exact nfr (List.mem_filterMap.mpr ⟨e, List.mem_cons_of_mem _ he, q⟩)
    have S3 := J3.suite he3 hd3 na nL nF
    have go : ∀ {hs' : List ExceptHandler} {l' : List (Value × (Addr → Value → Option Addr → TS))}, Clauses X n hs' l' → wClauses X.K i Wout D l' cls d σ' H' → wpAny (model X.prog X.w) X.A (handleBy (.ref a) X.env hs') (SP X pins D) X.xe { s' with heap := h3 } := by
      intro hs' l' hk
      induction hk with
      | nil =>
        intro w
        refine wpAny_handleBy_nil ?_
        obtain ⟨k1, k2, k3, oe, vs, T, oT, ts', he, hz, hd, h1, hr⟩ := id fl3
        unfold PySem.passOn
        refine wpAny_bind (wpAny_field he hd h1 ?_)
        rw [if_neg (show ¬ ((Value.ref T == Value.none) = true) from by simp)]
        have fin : wpAny (model X.prog X.w) X.A (setFlight (.ref a) X.env.frame) (fun _ s4 => wpAny (model X.prog X.w) X.A (throw (.ref a) : Sem Flow) (SP X pins D) X.xe s4) X.xe { s' with heap := h3 } := by
          rw [hf]
          exact HandSPX.setFlight_upZ fl3 fun h4 hh4 up4 => wpAny_throw (tk _ _ ⟨a, B, sI, pins, σ', H', cls, d, rfl, J, nb, (up.trans up3).trans up4, .inr (.inr (by rw [hs]; exact hh4)), na, os, ag, w⟩)
        first
          | exact wpAny_bind (wpAny_pure (wpAny_bind fin))
          | exact wpAny_bind fin
      | @cons x c ts b₀ su np pos' hs2 l2 hc hsu r ih =>
        intro w
        obtain ⟨b, hb1, hyes, hno⟩ := w
        refine wpAny_handleBy_cons (codeAny_handlers_test ?_) (by intro q; cases q)
        have LM := PySem.W.exm_one (M := model X.prog X.w) (J3.kIn) (fun A Q E s k q => wpAny_typeOf_ref (k _ _ he3) (by rw [hz3.1]; exact q)) hb1
        have test : ∀ {Q E : Value → Shared → Prop}, Q c { s' with heap := h3 } → wpAny (model X.prog X.w) (X.A.mark (some (.ref a))) (eval (.Name x np) X.env) Q E { s' with heap := h3 } := fun {Q E} q => by
          obtain ⟨hg, hdbg, hm | ⟨hm, hv, hnn⟩⟩ := hc
          · exact ld_glob (X := X.suite a ((a, oe3) :: (X.pn ++ pins))) S3 hg hm q hdbg
          · exact ld_blt (X := X.suite a ((a, oe3) :: (X.pn ++ pins))) S3 hg hm hv q hnn hdbg
        refine test (LM.here ?_)
        cases b with
        | false => exact ih (hno rfl)
        | true =>
          refine codeAny_handlers_suite_as (HandSPX.lands_againZ fl3 fun h4 fl4 up4 => ?_)
          have J4 : Inv X pins σ' H' { s' with heap := h4 } := J.landed nb fl4.1 ((up.trans up3).trans up4) os ag
          obtain ⟨oe4, vs4, he4, hz4, hd4⟩ := fl4.there
          have S4 := J4.suite he4 hd4 na nL nF
          refine store_ok (X := X.suite a ((a, oe4) :: (X.pn ++ pins))) (v := .ref a) S4 hN hi hloc rfl (fun s5 S5 => ?_) (.inr hln)
          refine wpAny_mono ((hsu a oe4 cls d (X.pn ++ pins) hz4 ⟨_, hd4⟩).run [] s5 _ H' _ S5 (hyes rfl a na)) (fun f s6 hsp => ?_) (fun _ _ z => False.elim z)
          cases f with
          | next => obtain ⟨σ6, H6, S6, q6⟩ := hsp; exact gone_ok (S6.unsuite ok) hN hi hln fun s7 J7 => ⟨_, _, J7, q6⟩
          | brk => obtain ⟨σ6, H6, S6, q6⟩ := hsp; exact gone_ok (S6.unsuite ok) hN hi hln fun s7 J7 => ⟨_, _, J7, q6⟩
          | cont => obtain ⟨σ6, H6, S6, q6⟩ := hsp; exact gone_ok (S6.unsuite ok) hN hi hln fun s7 J7 => ⟨_, _, J7, q6⟩
          | ret u => obtain ⟨v6, σ6, H6, S6, r6, q6⟩ := hsp; exact gone_ok (S6.unsuite ok) hN hi hln fun s7 J7 => ⟨_, _, _, J7, r6, q6⟩
    exact go hh w
end
end Wk

set_option Elab.async false
set_option linter.all false
set_option maxRecDepth 100000
set_option maxHeartbeats 4000000
namespace Wk
open PySem PySem.Spec PyProof.Rows L2 Evl
/-- an error class without a field -/
structure ErrN (K : PySem.W.Frag) (mg : Str → Option Value) (x : Str) (C : Addr) : Prop where
  g : mg x = some (.ref C)
  q : PySem.W.excIn K C [.type "ValueError", .type "Exception", .type "BaseException", .type "object"] "ValueError.__new__" = true
  k : PySem.W.keepIn K (.ref C) = true
  b : PySem.W.subIn K (.ref C) (.type "BaseException") = some true
  t : PySem.W.typeIn K (.ref C) = some (.type "type")
theorem pmk_errN {X : Cx} {K : PySem.W.Frag} {mg : Str → Option Value} {x : Str} {C : Addr} {p pos : Pos} (hK : X.K = K) (hm : X.mg = mg) (T : ErrN K mg x C) (hg : Gl X x) (hdb : (x == ("__debug__" : Str)) = false := by decide) :
    PMk X (.Call (.Name x p) [] [] pos) (fun _ H Q => Q (.ref C) none H) := by
  subst hK hm
  intro ps s σ H Q I h
  refine wpAny_Call_Name_kw (ld_glob I hg T.g ?_ hdb)
  refine PySem.W.callWith_K0 I.kIn T.k ?_
  show wpAny _ _ (call (.ref C) []) _ _ _
  obtain ⟨bm, N, nm, qn, bs, hdct, sn, sub, ab, col, dd, k0, k1, k2, k3, k5, mN, hC, hN, hni, T2⟩ := exc_obj I.kIn T.q
  refine wpAny_call_exc_subT PySem.F.excBase_ValueError T2 hC hN hni (fun h' e hm => ?_) (Nat.zero_le _)
  exact mk_of I hm (raises_own T.b T.t) h (I.hok.gone hm.new)
structure CalX (P : Program) (w : World) (K : PySem.W.Frag) (mg : Str → Option Value) (base : Heap) (x : Str) (ps : List Str) (k : Nat) (sp : Sp) : Prop where
  ex : ∃ (f : Addr) (fd : FuncData), FnOk P w K mg base (L2.CX P w) k f fd ps sp ∧ mg x = some (.ref f) ∧ PySem.W.keepIn K (.ref f) = true ∧ Binds K fd ps []
def isStr : PyData → Bool
  | .str _ => true
  | _ => false
theorem kit_str (d : PyData) : kitB (tyN d) "str" = some (isStr d) := by
  cases d with
  | none => exact show kitB "NoneType" "str" = some false by decide +kernel
  | bool b => exact show kitB "bool" "str" = some false by decide +kernel
  | int i => exact show kitB "int" "str" = some false by decide +kernel
  | str z => exact show kitB "str" "str" = some true by decide +kernel
  | list ds => exact show kitB "list" "str" = some false by decide +kernel
  | tuple ds => exact show kitB "tuple" "str" = some false by decide +kernel
  | dict ds => exact show kitB "dict" "str" = some false by decide +kernel
theorem tu_inv {H : Hp} {v : V} {d : PyData} (hd : Dq H v d) (h : isTu d = true) : ∃ (a : Addr) (xs : List V) (ds : List PyData), v = .ref a ∧ d = .tuple ds ∧ H a = some (.tup xs) ∧ DqA H xs ds := by
  cases hd <;> first | (cases h; done) | skip
  rename_i a xs ds h1 h2
  exact ⟨a, xs, ds, rfl, rfl, h1, h2⟩
theorem pss_when {X : Cx} {l : List Stmt} {t : TS} {c : Prop} (h : c → PSs X l t) : PSs X l (fun D σ H => c ∧ t D σ H) := ⟨fun pins s σ H D I hh => (h hh.1).run pins s σ H D I hh.2⟩
theorem call_isiK {X : Cx} {K : PySem.W.Frag} (hK : X.K = K) : CallR X (.builtin "isinstance") (rIsi K) := by
  subst hK
  exact call_isi
theorem call_isEK {X : Cx} {K : PySem.W.Frag} {a D : Addr} {oe : Obj} {pn : List (Addr × Obj)} (hK : X.K = K) (C : ExcC K D) (hz : Zc (.ref D) none oe) (hf : ∃ vs, oe.data = .fields vs) : CallR (X.suite a ((a, oe) :: pn)) (.builtin "isinstance") (rIsE K D a) := by
  subst hK
  exact call_isE C hz hf
theorem all_bad {f : PyData → Bool} {l : List PyData} (h : ∃ x, x ∈ l ∧ f x = false) : l.all f = false := by
  obtain ⟨x, hx, hf⟩ := h
  cases hc : l.all f with
  | false => rfl
  | true =>
    rw [List.all_eq_true.mp hc x hx] at hf
    cases hf
/-- a method that may raise -/
structure MskX (P : Program) (w : World) (K : PySem.W.Frag) (mg : Str → Option Value) (base : Heap) (CS : Addr) (m : Str) (ps : List Str) (n : Nat) (sp : Sp) : Prop where
  ex : ∃ (fM : Addr) (fd : FuncData), Meth K CS m fM ∧ FnOk P w K mg base (L2.CX P w) n fM fd ps sp ∧ Binds K fd ps []
def W0 : WX := fun _ _ _ _ => False
end Wk

set_option Elab.async false
set_option linter.all false
set_option maxRecDepth 100000
set_option maxHeartbeats 2000000
namespace Wk
open PySem PySem.Spec PyProof.Rows L2 Evl
/-! the pool: a dict of two lists and three numbers -/
abbrev kC : L2.Key := .inr "cells"
abbrev kG : L2.Key := .inr "great"
abbrev kH : L2.Key := .inr "held"
abbrev kS : L2.Key := .inr "state"
abbrev kM : L2.Key := .inr "many"
abbrev plV (c g : Addr) (h s m : Int) : List (L2.Key × V) := [(kC, .ref c), (kG, .ref g), (kH, .int h), (kS, .int s), (kM, .int m)]
theorem pl_c {c g : Addr} {h s m : Int} : valV (plV c g h s m) kC = some (.ref c) := valV_pos rfl
theorem pl_g {c g : Addr} {h s m : Int} : valV (plV c g h s m) kG = some (.ref g) := by
  rw [valV_neg (show ¬ kC = kG by decide +kernel)]
  exact valV_pos rfl
theorem pl_h {c g : Addr} {h s m : Int} : valV (plV c g h s m) kH = some (.int h) := by
  rw [valV_neg (show ¬ kC = kH by decide +kernel), valV_neg (show ¬ kG = kH by decide +kernel)]
  exact valV_pos rfl
theorem pl_s {c g : Addr} {h s m : Int} : valV (plV c g h s m) kS = some (.int s) := by
  rw [valV_neg (show ¬ kC = kS by decide +kernel), valV_neg (show ¬ kG = kS by decide +kernel), valV_neg (show ¬ kH = kS by decide +kernel)]
  exact valV_pos rfl
theorem pl_m {c g : Addr} {h s m : Int} : valV (plV c g h s m) kM = some (.int m) := by
  rw [valV_neg (show ¬ kC = kM by decide +kernel), valV_neg (show ¬ kG = kM by decide +kernel), valV_neg (show ¬ kH = kM by decide +kernel), valV_neg (show ¬ kS = kM by decide +kernel)]
  exact valV_pos rfl
theorem ne_ch : ¬ kC = kH := by decide +kernel
theorem ne_gh : ¬ kG = kH := by decide +kernel
theorem ne_sh : ¬ kS = kH := by decide +kernel
theorem ne_mh : ¬ kM = kH := by decide +kernel
theorem ne_cs : ¬ kC = kS := by decide +kernel
theorem ne_gs : ¬ kG = kS := by decide +kernel
theorem ne_hs : ¬ kH = kS := by decide +kernel
theorem ne_ms : ¬ kM = kS := by decide +kernel
theorem ne_cm : ¬ kC = kM := by decide +kernel
theorem ne_gm : ¬ kG = kM := by decide +kernel
theorem ne_hm : ¬ kH = kM := by decide +kernel
theorem ne_sm : ¬ kS = kM := by decide +kernel
theorem put_h {c g : Addr} {h s m x : Int} : putK (plV c g h s m) kH (.int x) = plV c g x s m := by
  simp only [putK, plV, List.any_cons, List.map_cons, List.map_nil, List.any_nil, if_neg ne_ch, if_neg ne_gh, if_neg ne_sh, if_neg ne_mh, decide_true, Bool.true_or, Bool.or_true, if_true]
theorem put_s {c g : Addr} {h s m x : Int} : putK (plV c g h s m) kS (.int x) = plV c g h x m := by
  simp only [putK, plV, List.any_cons, List.map_cons, List.map_nil, List.any_nil, if_neg ne_cs, if_neg ne_gs, if_neg ne_hs, if_neg ne_ms, decide_true, Bool.true_or, Bool.or_true, if_true]
theorem put_m {c g : Addr} {h s m x : Int} : putK (plV c g h s m) kM (.int x) = plV c g h s x := by
  simp only [putK, plV, List.any_cons, List.map_cons, List.map_nil, List.any_nil, if_neg ne_cm, if_neg ne_gm, if_neg ne_hm, if_neg ne_sm, decide_true, Bool.true_or, Bool.or_true, if_true]
/-- the pool is the dict at p, its list of great ones at g, its cells at c, which stay; G is what stays -/
structure Pq (G H : Hp) (p g c : Addr) : Prop where
  ex : Ex G H
  gp : G p = none
  gg : G g = none
  ne : p ≠ g
  at_ : ∃ (cs gs : List Int) (h s m : Int), G c = some (.lst (cs.map V.int)) ∧ 1 ≤ cs.length ∧ cs.length ≤ 64 ∧ H p = some (.dK (plV c g h s m)) ∧ H g = some (.lst (gs.map V.int)) ∧ (∀ x ∈ gs, 0 ≤ x) ∧ gs.length ≤ 63 ∧ 0 ≤ h ∧ 0 ≤ m
def Of2 (p g : Addr) (H H' : Hp) : Prop := ∀ b o, b ≠ p → b ≠ g → H b = some o → H' b = some o
theorem Of2.refl (p g : Addr) (H : Hp) : Of2 p g H H := fun _ _ _ _ h => h
theorem Of2.trans {p g : Addr} {H H1 H2 : Hp} (a : Of2 p g H H1) (b : Of2 p g H1 H2) : Of2 p g H H2 := fun c o h1 h2 h => b c o h1 h2 (a c o h1 h2 h)
theorem Of2.ex {p g : Addr} {H H1 : Hp} (e : Ex H H1) : Of2 p g H H1 := fun c o _ _ h => e c o h
section
variable {G H : Hp} {p g c : Addr}
theorem Pq.p_at (h : Pq G H p g c) : ∃ o, H p = some o := by
  obtain ⟨_, _, _, _, _, _, _, _, h1, _⟩ := h.at_
  exact ⟨_, h1⟩
theorem Pq.g_at (h : Pq G H p g c) : ∃ o, H g = some o := by
  obtain ⟨_, _, _, _, _, _, _, _, _, h1, _⟩ := h.at_
  exact ⟨_, h1⟩
theorem Pq.np (h : Pq G H p g c) {a : Addr} (ha : H a = none) : a ≠ p := fun z => by
  obtain ⟨o, h1⟩ := h.p_at
  rw [z, h1] at ha
  cases ha
theorem Pq.ng (h : Pq G H p g c) {a : Addr} (ha : H a = none) : a ≠ g := fun z => by
  obtain ⟨o, h1⟩ := h.g_at
  rw [z, h1] at ha
  cases ha
theorem Pq.ext (h : Pq G H p g c) {H' : Hp} (e : Ex H H') : Pq G H' p g c := by
  obtain ⟨cs, gs, a, s, m, h1, h2, h3, h4, h5, r⟩ := h.at_
  exact ⟨h.ex.trans e, h.gp, h.gg, h.ne, cs, gs, a, s, m, h1, h2, h3, e _ _ h4, e _ _ h5, r⟩
theorem Pq.new (h : Pq G H p g c) {a : Addr} {o : HO} (ha : H a = none) : Pq (upd G a o) (upd H a o) p g c := by
  obtain ⟨cs, gs, k, s, m, h1, h2, h3, h4, h5, r⟩ := h.at_
  have ga := fresh_back h.ex ha
  have np := h.np ha
  have ng := h.ng ha
  refine ⟨fun b u hb => ?_, by rw [upd_ne (Ne.symm np)]; exact h.gp, by rw [upd_ne (Ne.symm ng)]; exact h.gg, h.ne, cs, gs, k, s, m, (Ex.new ga) _ _ h1, h2, h3, (Ex.new ha) _ _ h4, (Ex.new ha) _ _ h5, r⟩
  by_cases c : b = a
  · rw [c, upd_same] at hb ⊢
    exact hb
  · rw [upd_ne c] at hb ⊢
    exact h.ex _ _ hb
theorem Pq.mut (h : Pq G H p g c) {a : Addr} {o : HO} (ga : G a = none) (np : a ≠ p) (ng : a ≠ g) : Pq G (upd H a o) p g c := by
  obtain ⟨cs, gs, k, s, m, h1, h2, h3, h4, h5, r⟩ := h.at_
  exact ⟨Ex.mut h.ex ga, h.gp, h.gg, h.ne, cs, gs, k, s, m, h1, h2, h3, by rw [upd_ne (Ne.symm np)]; exact h4, by rw [upd_ne (Ne.symm ng)]; exact h5, r⟩
theorem Pq.hold (h : Pq G H p g c) {a : Addr} {o : HO} (ha : H a = some o) (np : a ≠ p) (ng : a ≠ g) (ga : G a = none) : Pq (upd G a o) H p g c := by
  obtain ⟨cs, gs, k, s, m, h1, h2, h3, r⟩ := h.at_
  refine ⟨fun b u hb => ?_, by rw [upd_ne (Ne.symm np)]; exact h.gp, by rw [upd_ne (Ne.symm ng)]; exact h.gg, h.ne, cs, gs, k, s, m, (Ex.new ga) _ _ h1, h2, h3, r⟩
  by_cases c : b = a
  · rw [c, upd_same] at hb
    cases hb
    rw [c]
    exact ha
  · rw [upd_ne c] at hb
    exact h.ex _ _ hb
end
open Classical in
noncomputable def Hd2 (H : Hp) (p g : Addr) : Hp := fun b => if b = p ∨ b = g then none else H b
theorem hd2_at {H : Hp} {p g b : Addr} (hp : b ≠ p) (hg : b ≠ g) : Hd2 H p g b = H b := by
  unfold Hd2
  rw [if_neg (fun z => z.elim hp hg)]
section
variable {G H : Hp} {p g c : Addr}
theorem Pq.sub (h : Pq G H p g c) : Ex G (Hd2 H p g) := fun b o hb => by
  have hp : b ≠ p := fun z => by rw [z, h.gp] at hb; cases hb
  have hg : b ≠ g := fun z => by rw [z, h.gg] at hb; cases hb
  rw [hd2_at hp hg]
  exact h.ex _ _ hb
theorem Pq.hd (h : Pq G H p g c) : Pq (Hd2 H p g) H p g c := by
  obtain ⟨cs, gs, k, s, m, h1, r⟩ := h.at_
  refine ⟨fun b o hb => ?_, by unfold Hd2; rw [if_pos (Or.inl rfl)], by unfold Hd2; rw [if_pos (Or.inr rfl)], h.ne, cs, gs, k, s, m, h.sub _ _ h1, r⟩
  unfold Hd2 at hb
  split at hb
  · cases hb
  · exact hb
theorem Pq.off {H' : Hp} (h : Pq (Hd2 H p g) H' p g c) : Of2 p g H H' := fun b o hp hg hb => h.ex b o (by rw [hd2_at hp hg]; exact hb)
theorem Pq.back {H' : Hp} (h0 : Pq G H p g c) (h : Pq (Hd2 H p g) H' p g c) : Pq G H' p g c := by
  obtain ⟨cs, gs, k, s, m, h1, h2, h3, r⟩ := h.at_
  obtain ⟨cs0, _, _, _, _, g1, g2, g3, _⟩ := h0.at_
  exact ⟨h0.sub.trans h.ex, h0.gp, h0.gg, h0.ne, cs0, gs, k, s, m, g1, g2, g3, r⟩
end
/-! what stays grows by new things only -/
structure Gq (p g c : Addr) (G H G' H' : Hp) : Prop where
  ex : Ex G G'
  nw : ∀ b, G b = none → H b ≠ none → G' b = none
  off : Of2 p g H H'
  pl : Pq G' H' p g c
section
variable {p g c : Addr}
theorem Gq.refl {G H : Hp} (h : Pq G H p g c) : Gq p g c G H G H := ⟨Ex.refl _, fun _ h _ => h, Of2.refl _ _ _, h⟩
theorem Gq.trans {G H G1 H1 G2 H2 : Hp} (a : Gq p g c G H G1 H1) (b : Gq p g c G1 H1 G2 H2) : Gq p g c G H G2 H2 := by
  refine ⟨a.ex.trans b.ex, fun x hc hh => ?_, a.off.trans b.off, b.pl⟩
  by_cases cp : x = p
  · rw [cp]; exact b.pl.gp
  by_cases cg : x = g
  · rw [cg]; exact b.pl.gg
  refine b.nw x (a.nw x hc hh) ?_
  cases hx : H x with
  | none => exact absurd hx hh
  | some o => rw [a.off x o cp cg hx]; simp
theorem Gq.new {t : Addr} {G H : Hp} {o : HO} (h : Pq G H p g c) (ht : H t = none) : Gq p g c G H (upd G t o) (upd H t o) := by
  refine ⟨Ex.new (fresh_back h.ex ht), fun b hb hh => ?_, Of2.ex (Ex.new ht), h.new ht⟩
  have nb : b ≠ t := fun z => hh (by rw [z]; exact ht)
  rw [upd_ne nb]
  exact hb
theorem Gq.ext {G H H' : Hp} (h : Pq G H p g c) (e : Ex H H') : Gq p g c G H G H' := ⟨Ex.refl _, fun _ h _ => h, Of2.ex e, h.ext e⟩
theorem Gq.draw {G H H' : Hp} (h : Pq G H p g c) (h' : Pq (Hd2 H p g) H' p g c) : Gq p g c G H G H' := ⟨Ex.refl _, fun _ h _ => h, h'.off, h.back h'⟩
end
end Wk

set_option Elab.async false
set_option linter.all false
set_option maxRecDepth 100000
set_option maxHeartbeats 4000000
namespace Wk
open PySem PySem.Spec PyProof.Rows L2 Evl
theorem rng_getD (ns : List Int) : (List.range ns.length).map (fun i => V.int (ns.getD i 0)) = ns.map V.int := by
  apply List.ext_getElem
  · simp
  · intro i h1 h2
    have h3 : i < ns.length := by simpa using h1
    simp [List.getD_eq_getElem?_getD, List.getElem?_eq_getElem h3]
theorem given_yesAll (n : Nat) (v : Nat → V) : given n (fun _ => true) v = (List.range n).map v := by
  unfold given
  rw [List.filter_eq_self.mpr fun _ _ => rfl]
theorem cut_all {ns : List Int} (h : ns.length ≤ 63) : cutV (ns.map V.int) none (some 63) = ns.map V.int := by
  unfold cutV
  rw [HT.sIx_none, show ((63 : Int)) = ((63 : Nat) : Int) from rfl, HT.sIx_nat, List.length_map, Nat.min_eq_right h]
  simp
  exact List.take_of_length_le (by simp)
theorem getD_at {ns : List Int} {i : Nat} {x : V} (hx : (ns.map V.int)[i]? = some x) : x = .int (ns.getD i 0) := by
  rw [List.getElem?_map] at hx
  cases hn : ns[i]? with
  | none => rw [hn] at hx; cases hx
  | some n =>
    rw [hn] at hx
    rw [show ns.getD i 0 = n by rw [List.getD_eq_getElem?_getD, hn]; rfl]
    exact (Option.some.inj hx).symm
theorem mergeK_new : ∀ (more acc : List (L2.Key × V)), ((acc ++ more).map Prod.fst).Nodup → mergeK acc more = acc ++ more
  | [], acc, _ => by rw [List.append_nil]; rfl
  | p :: r, acc, h => by
    have hn : valV acc p.1 = none := by
      cases hv : valV acc p.1 with
      | none => rfl
      | some v =>
        exfalso
        have hm : p.1 ∈ acc.map Prod.fst := by
          clear h
          induction acc with
          | nil => cases hv
          | cons q s ih =>
            by_cases c : q.1 = p.1
            · rw [List.map_cons, c]; exact List.mem_cons_self
            · obtain ⟨a, b⟩ := q
              rw [valV_neg c] at hv
              exact List.mem_cons_of_mem _ (ih hv)
        rw [List.map_append, List.nodup_append] at h
        exact h.2.2 _ hm _ (by rw [List.map_cons]; exact List.mem_cons_self) rfl
    show mergeK (putK acc p.1 p.2) r = _
    rw [putK_new p.2 hn]
    have e : acc ++ [(p.1, p.2)] ++ r = acc ++ p :: r := by simp
    rw [← e]
    exact mergeK_new r _ (by rw [e]; exact h)
theorem merge_pl {c g : Addr} {h s m : Int} : mergeK [] (plV c g h s m) = plV c g h s m := by
  have z := mergeK_new (plV c g h s m) [] (show [kC, kG, kH, kS, kM].Nodup by decide +kernel)
  rw [List.nil_append] at z
  exact z
def absI (i : Int) : Int := if i < 0 then -i else i
theorem absI_nn (i : Int) : 0 ≤ absI i := by unfold absI; split <;> omega
section
variable {P : Program} {w : World} {K : PySem.W.Frag} {mg : Str → Option Value} {base : Heap} {f : Addr} {fd : FuncData}
/-! _law_pool -/
def spPool (K : PySem.W.Frag) : Sp := fun vs H Q _ => ∃ (a : Addr) (ns : List Int), vs = [.ref a] ∧ SqL K H a (ns.map V.int) ∧ ns.length ≤ 63 ∧ ∀ G H' p g c, Ex H G → Pq G H' p g c → Q (.ref p) H'
abbrev sPool : Stmt := top 46
abbrev nPool : List Str := ["_law_script", "_law_cells", "_law_great", "_law_state", "_law_cell"]
theorem scPool : FnScope nPool ["_law_script"] (defScope sPool) := ⟨rfl, rfl, rfl, by decide +kernel, rfl, by decide +kernel, by decide +kernel⟩
theorem ok_pool (B : Bl mg) (F : FnP K "_law_pool" sPool f fd) : FnOk P w K mg base CX0 1 f fd ["_law_script"] (spPool K) := by
  refine F.ok scPool (fun vs H Q E h => ?_) (fun cdv A outer s H vs Q E hr h => ?_)
  · obtain ⟨a, ns, rfl, _⟩ := h
    rfl
  · obtain ⟨a, ns, rfl, hs, hl, k⟩ := h
    refine ⟨_, pss_cons (ps_setLc (i := 1) (own := [("_law_cell", 4)]) (g := gName 4) (tt := tYes) rfl scPool.nd rfl rfl (sw_true rfl rfl rfl (by decide +kernel)) (pi_list (pe_slice sl_list (pv 0) po_none (po_some pe_int))) (blkOk_by (N := nPool) (sc := defScope sPool) (by decide +kernel))
          (fun _ _ _ _ _ => pg_name (i := 4) scPool.nd rfl (Or.inl rfl)) (fun _ _ _ _ _ => pts_nil)
          (fun _ _ _ _ _ => pe_callTy call_int1 (by rfl) B.int PyProof.Rows.boot_int (pa_cons (pv 4) pa_nil)))
      (pss_cons (ps_setLc (i := 2) (own := [("_law_cell", 4)]) (g := gName 4) rfl scPool.nd rfl rfl (sw_true rfl rfl rfl (by decide +kernel)) (pi_list (pv 1)) (blkOk_by (N := nPool) (sc := defScope sPool) (by decide +kernel))
          (fun _ _ _ _ _ => pg_name (i := 4) scPool.nd rfl (Or.inl rfl)) (fun _ _ _ _ _ => pts_one (pt_cmpR op_ge (pe_callB call_abs (by rfl) B.abs boot_abs (pa_cons (pv 4) pa_nil)) (pe_op op_pow pe_int pe_int) (nomark _)))
          (fun _ _ _ _ _ => pe_callB call_abs (by rfl) B.abs boot_abs (pa_cons (pv 4) pa_nil)))
      (pss_cons (ps_set (i := 3) scPool.nd rfl (Or.inl rfl) pe_int)
      (pss_cons (ps_for (passes_of rfl) rfl (pi_list (pv 1)) (pg_name (i := 4) scPool.nd rfl (Or.inl rfl))
          (pss_one (ps_set (i := 3) scPool.nd rfl (Or.inl rfl) (pe_op op_mod (pe_callTy call_int1 (by rfl) B.int PyProof.Rows.boot_int (pa_cons (pe_op op_add (pe_op op_add (pe_op op_mul (pv 3) pe_int) (pe_op op_mod (pv 4) pe_int)) pe_int) pa_nil)) pe_int))))
      (pss_one (ps_ret (pe_disp (pps_cons pe_str (pe_op op_cat (pv 1) (pe_lst (pa_cons (pe_callB call_len_seq (by rfl) B.len PySem.boot_len (pa_cons (pv 1) pa_nil)) pa_nil)))
          (pps_cons pe_str (pv 2) (pps_cons pe_str pe_int (pps_cons pe_str (pv 3) (pps_cons pe_str pe_int pps_nil))))) rfl rfl (by simp) (by decide))))))), ?_⟩
    have hsl : EvL (tSl (rSlL K) (tVar 0) tNoPart (tPart (tC (.int 63)))) (wipe (start nPool [V.ref a]) [4]) H (ns.map V.int) := by
      have q := el_sl (K := K) (te := tVar 0) (σ := wipe (start nPool [V.ref a]) [4]) (H := H) (ev_var rfl) eo_none (eo_some (i := 63) ev_c) hs
      rw [cut_all hl] at q
      exact q
    have hlc := el_lcNL (K := K) (σ := start nPool [V.ref a]) (H := H) (j := 4) (vs := [4]) (te := tCB (fun xs H Q => (∃ i, xs = [.int i] ∧ Q (.int i) H) ∨ ∃ k, xs = [.bl k] ∧ Q (.int (if k then 1 else 0)) H) (tCons (tVar 4) tNil)) (t := tYes) (fun _ => true) (fun i => V.int (ns.getD i 0)) hsl (by rw [List.length_map]; omega) (fun x => rfl) (fun _ _ _ _ _ => et_yes) (fun i x H1 e hx _ => by
      rw [getD_at hx]
      exact ev_cb (ea_cons (ev_var rfl) ea_nil) fun H2 e2 Q2 q => .inl ⟨_, rfl, q H2 (Ex.refl H2)⟩)
    rw [given_yesAll, List.length_map, rng_getD] at hlc
    refine q_asgL hlc fun c H1 hc e1 hc1 => ?_
    refine q_asgL (el_lcL (K := K) (a := c) (xs := ns.map V.int) (fun i => decide ((10 : Int) ^ (18 : Int).toNat ≤ absI (ns.getD i 0))) (fun i => V.int (absI (ns.getD i 0))) (ev_var rfl) (sq_of hc1) (by rw [List.length_map]; omega) (fun x => rfl) (fun i x H2 e2 hx => by
      rw [getD_at hx]
      exact et_test fun H7 e7 Q7 q7 => ⟨_, rfl, _, rfl, 10, 18, rfl, rfl, ⟨by decide, by decide, by decide⟩, _, _, rfl, rfl, q7 H7 (Ex.refl _)⟩) (fun i x H2 e2 hx _ => by
      rw [getD_at hx]
      exact fun H7 e7 Q7 q7 => ⟨_, rfl, _, rfl, q7 H7 (Ex.refl _)⟩)) fun g H2 hg e2 hg2 => ?_
    have hgs : ∃ gs : List Int, H2 g = some (.lst (gs.map V.int)) ∧ (∀ x ∈ gs, 0 ≤ x) ∧ gs.length ≤ 63 := by
      refine ⟨(((List.range (ns.map V.int).length).filter fun i => decide ((10 : Int) ^ (18 : Int).toNat ≤ absI (ns.getD i 0)))).map fun i => absI (ns.getD i 0), ?_, ?_, ?_⟩
      · rw [hg2]
        unfold given
        rw [List.map_map]
        rfl
      · intro x hx
        rw [List.mem_map] at hx
        obtain ⟨i, _, rfl⟩ := hx
        exact absI_nn _
      · rw [List.length_map]
        have z := List.length_filter_le (fun i => decide ((10 : Int) ^ (18 : Int).toNat ≤ absI (ns.getD i 0))) (List.range (ns.map V.int).length)
        rw [List.length_range, List.length_map] at z
        rw [List.length_map]
        omega
    obtain ⟨gs, hgs1, hgs2, hgs3⟩ := hgs
    refine q_c ?_
    refine q_forLn (a := c) (xs := ns.map V.int) (K := K) (ev_var rfl) (sq_of (e2 _ _ hc1)) (fun i σ' H' => ∃ (s : Int) (o : Option V), σ' = [some (.ref a), some (.ref c), some (.ref g), some (.int s), o] ∧ Ex H2 H') (fun H3 e3 => ⟨20011, _, rfl, e3⟩) (fun i σ' H' _ h => by
      obtain ⟨_, _, _, e⟩ := h
      exact sq_of (e _ _ (e2 _ _ hc1))) (fun i x σ' H' hx h => ?_) (fun σ' H' h => ?_)
    · obtain ⟨s, o, rfl, e⟩ := h
      rw [getD_at hx]
      exact ⟨.int s, rfl, s, 48271, rfl, rfl, .inr ⟨by decide, by decide⟩, .int (ns.getD i 0), rfl, _, 2147483629, rfl, rfl, (show (0 : Int) < 2147483629 by decide), _, _, rfl, rfl, _, 1, rfl, rfl, .inl ⟨_, rfl, _, 2147483647, rfl, rfl, (show (0 : Int) < 2147483647 by decide), _, _, rfl, e⟩⟩
    · obtain ⟨s, o, rfl, e⟩ := h
      intro p hp
      have e3 := Ex.new (o := .dK []) hp
      have hc3 := e3 _ _ (e _ _ (e2 _ _ hc1))
      have hg3 := e3 _ _ (e _ _ hgs1)
      have hp3 : (upd H' p (.dK [])) p = some (.dK []) := upd_same
      generalize upd H' p (.dK []) = H3 at *
      refine ⟨.ref c, rfl, .ref c, rfl, ⟨c, _, rfl, .inl (sq_of hc3), by show 1 ≤ sizeLine; decide, fun l hl3 => ?_⟩⟩
      have e4 := Ex.new (o := .lst [V.int ((ns.map V.int).length : Int)]) hl3
      have hc4 := e4 _ _ hc3
      have hg4 := e4 _ _ hg3
      have hp4 := e4 _ _ hp3
      have hl4 : (upd H3 l (.lst [V.int ((ns.map V.int).length : Int)])) l = some (.lst [V.int ((ns.map V.int).length : Int)]) := upd_same
      generalize upd H3 l (.lst [V.int ((ns.map V.int).length : Int)]) = H4 at *
      refine ⟨c, l, _, _, rfl, rfl, hc4, hl4, by rw [List.length_map]; exact sz_of (by simp; omega), fun c' hc' => ?_⟩
      have e5 := Ex.new (o := .lst (ns.map V.int ++ [V.int ((ns.map V.int).length : Int)])) hc'
      have hg5 := e5 _ _ hg4
      have hp5 := e5 _ _ hp4
      have hc5 : (upd H4 c' (.lst (ns.map V.int ++ [V.int ((ns.map V.int).length : Int)]))) c' = some (.lst (ns.map V.int ++ [V.int ((ns.map V.int).length : Int)])) := upd_same
      have hcp : p ≠ c' := fun z => by rw [← z, hp4] at hc'; cases hc'
      have hcg : g ≠ c' := fun z => by rw [← z, hg4] at hc'; cases hc'
      generalize upd H4 c' (.lst (ns.map V.int ++ [V.int ((ns.map V.int).length : Int)])) = H5 at *
      refine ⟨.ref g, rfl, .int s, rfl, hp5, plV c' g 0 s 0, rfl, by show 5 ≤ 15; decide, ?_⟩
      rw [merge_pl]
      have hH5 : Ex H H5 := ((((e1.trans e2).trans e).trans e3).trans e4).trans e5
      have hHp : H p = none := fresh_back ((e1.trans e2).trans e) hp
      have hHg : H g = none := fresh_back e1 hg
      have hHc : H c' = none := fresh_back ((((e1.trans e2).trans e).trans e3).trans e4) hc'
      have hgp : p ≠ g := fun z => by
        rw [z] at hp
        have := e _ _ hgs1
        rw [hp] at this
        cases this
      have hll : ns.map V.int ++ [V.int ((ns.map V.int).length : Int)] = (ns ++ [((ns.map V.int).length : Int)]).map V.int := by simp
      rw [hll] at hc5
      refine k (upd H c' (.lst ((ns ++ [((ns.map V.int).length : Int)]).map V.int))) _ p g c' (Ex.new hHc) ⟨?_, by rw [upd_ne hcp]; exact hHp, by rw [upd_ne hcg]; exact hHg, hgp, _, gs, 0, s, 0, upd_same, by simp, by simp; omega, upd_same, by rw [upd_ne (Ne.symm hgp)]; exact hg5, hgs2, hgs3, by decide, by decide⟩
      refine Ex.mut (fun b o hb => ?_) (by rw [upd_ne hcp]; exact hHp)
      by_cases z : b = c'
      · rw [z, upd_same] at hb
        cases hb
        rw [z]
        exact hc5
      · rw [upd_ne z] at hb
        exact hH5 _ _ hb
end
end Wk

set_option Elab.async false
set_option linter.all false
set_option maxRecDepth 100000
set_option maxHeartbeats 4000000
namespace Wk
open PySem PySem.Spec PyProof.Rows L2 Evl
section
variable {G H : Hp} {p g c : Addr}
theorem Pq.put (h0 : Pq G H p g c) {h s m : Int} (hh : 0 ≤ h) (hm : 0 ≤ m) : Pq G (upd H p (.dK (plV c g h s m))) p g c := by
  obtain ⟨cs, gs, k, s', m', h1, h2, h3, h4, h5, h6, h7, h8, h9⟩ := h0.at_
  exact ⟨Ex.mut h0.ex h0.gp, h0.gp, h0.gg, h0.ne, cs, gs, h, s, m, h1, h2, h3, upd_same, by rw [upd_ne (Ne.symm h0.ne)]; exact h5, h6, h7, hh, hm⟩
theorem Pq.pop (h0 : Pq G H p g c) {gs : List Int} (h1 : ∀ x ∈ gs, 0 ≤ x) (h2 : gs.length ≤ 63) : Pq G (upd H g (.lst (gs.map V.int))) p g c := by
  obtain ⟨cs, gs', k, s', m', i1, i2, i3, i4, i5, i6, i7, i8, i9⟩ := h0.at_
  exact ⟨Ex.mut h0.ex h0.gg, h0.gp, h0.gg, h0.ne, cs, gs, k, s', m', i1, i2, i3, by rw [upd_ne h0.ne]; exact i4, upd_same, h1, h2, i8, i9⟩
end
section
variable {K : PySem.W.Frag} {σ : L2.St} {H : Hp} {ta te : TE} {tz : TS} {D : Ends}
theorem rd_up {H H' : Hp} {a : Addr} {u : HO} (e : Ex H H') (h : Rd H a u) : Rd H' a u := h.elim (fun h => .inl (e _ _ h)) fun ⟨o, h⟩ => .inr ⟨o, e _ _ h⟩
theorem ev_dgetS {a : Addr} {k : Str} {v : V} {kvs : List (L2.Key × V)} (ha : Ev ta σ H (.ref a)) (hr : Rd H a (.dK kvs)) (hv : valV kvs (.inr k) = some v) : Ev (tDGet ta (tC (.str k))) σ H v := fun H1 e Q q =>
  ha H1 e _ fun H2 e2 => show ∃ (a' : Addr) (v' : V), _ ∧ DGet H2 a' (.str k) (some v') ∧ Q v' H2 from ⟨a, v, rfl, .inl ⟨kvs, .inr k, rd_up (e.trans e2) hr, rfl, hv.symm⟩, q H2 e2⟩
theorem q_putS {p : Addr} {k : Str} {v : V} {kvs : List (L2.Key × V)} (ho : σ[0]? = some (some (.ref p))) (h : Ev te σ H v) (hp : H p = some (.dK kvs)) (hl : kvs.length < 1000) (q : ∀ H1, Ex H H1 → tz D σ (upd H1 p (.dK (putK kvs (.inr k) v)))) :
    tSeq (tAsg te (gSub (tVar 0) (tC (.str k)) rSetD)) tz D σ H :=
  h H (Ex.refl _) _ fun H1 e => ⟨.ref p, ho, p, _, rfl, DPut.k (k := .inr k) (e _ _ hp) (sz_lt (by omega)), q H1 e⟩
end
section
variable {P : Program} {w : World} {K : PySem.W.Frag} {mg : Str → Option Value} {base : Heap} {f : Addr} {fd : FuncData}
/-! _law_draw -/
def spDrw : Sp := fun vs H Q _ => ∃ (G : Hp) (p g c : Addr) (z : Int), vs = [.ref p, .int z] ∧ Pq G H p g c ∧ 0 < z ∧ z ≤ 1000000000 ∧ ∀ H' (i : Int), Pq G H' p g c → 0 ≤ i → i < z → Q (.int i) H'
abbrev sDrw : Stmt := top 47
abbrev nDrw : List Str := ["_law_pool_here", "_law_many", "_law_held", "_law_count", "_law_cell", "_law_state", "_law_mixed"]
theorem scDrw : FnScope nDrw ["_law_pool_here", "_law_many"] (defScope sDrw) := ⟨rfl, rfl, rfl, by decide +kernel, rfl, by decide +kernel, by decide +kernel⟩
theorem ok_drw (B : Bl mg) (F : FnP K "_law_draw" sDrw f fd) : FnOk P w K mg base CX0 1 f fd ["_law_pool_here", "_law_many"] spDrw := by
  refine F.ok scDrw (fun vs H Q E h => ?_) (fun cdv A outer s H vs Q E hr h => ?_)
  · obtain ⟨G, p, g, c, z, rfl, _⟩ := h
    rfl
  · obtain ⟨G, p, g, c, z, rfl, hP, hz, hz2, k⟩ := h
    have hu : (A.deeper (envOfC "_law_draw" (defScope sDrw) s.heap.objs.size f cdv)).units + 1 < cLine := by have := hr.un; omega
    refine ⟨_, pss_cut (ps_if (PW.pt (pw_and (pt_cmpR op_lt (pe_dget hu (pv 0) pe_str (fun _ _ => rfl)) pe_int (nomark _)) (pw_and1 (pt_cmpR op_gt (pe_callB call_len_seq (by rfl) B.len PySem.boot_len (pa_cons (pe_dget hu (pv 0) pe_str (fun _ _ => rfl)) pa_nil)) pe_int (nomark _)))))
          (pss_one (ps_asg (pe_bm PySem.F.plainAttrs_list PySem.F.slot_list_pop PySem.F.type_list_pop mt_popAt (pe_dget hu (pv 0) pe_str (fun _ _ => rfl)) (pa_cons pe_int pa_nil)) (pg_sub (pv 0) pe_str (set_dict hu)))) pss_nil)
      (pss_cons (ps_set (i := 2) scDrw.nd rfl (Or.inl rfl) (pe_callTy call_int1 (by rfl) B.int PyProof.Rows.boot_int (pa_cons (pe_dget hu (pv 0) pe_str (fun _ _ => rfl)) pa_nil)))
      (pss_cons (ps_if (pt_cmpR op_gt (pv 2) pe_int (nomark _))
          (pss_cons (ps_asg (pe_op op_fdiv (pv 2) (pv 1)) (pg_sub (pv 0) pe_str (set_dict hu)))
          (pss_one (ps_ret (pe_op op_mod (pv 2) (pv 1))))) pss_nil)
      (pss_cons (ps_set (i := 3) scDrw.nd rfl (Or.inl rfl) (pe_op op_add (pe_callTy call_int1 (by rfl) B.int PyProof.Rows.boot_int (pa_cons (pe_dget hu (pv 0) pe_str (fun _ _ => rfl)) pa_nil)) pe_int))
      (pss_cons (ps_asg (pv 3) (pg_sub (pv 0) pe_str (set_dict hu)))
      (pss_cons (ps_set (i := 4) scDrw.nd rfl (Or.inl rfl) (pe_op op_mod (pe_callTy call_int1 (by rfl) B.int PyProof.Rows.boot_int (pa_cons (pe_ix ix_list (pe_dget hu (pv 0) pe_str (fun _ _ => rfl)) (pe_op op_mod (pv 3) (pe_callB call_len_seq (by rfl) B.len PySem.boot_len (pa_cons (pe_dget hu (pv 0) pe_str (fun _ _ => rfl)) pa_nil))) (fun _ _ => rfl)) pa_nil)) pe_int))
      (pss_cons (ps_set (i := 5) scDrw.nd rfl (Or.inl rfl) (pe_op op_mod (pe_callTy call_int1 (by rfl) B.int PyProof.Rows.boot_int (pa_cons (pe_op op_add (pe_op op_add (pe_op op_mul (pe_callTy call_int1 (by rfl) B.int PyProof.Rows.boot_int (pa_cons (pe_dget hu (pv 0) pe_str (fun _ _ => rfl)) pa_nil)) pe_int) (pv 4)) (pe_op op_mul pe_int (pv 3))) pa_nil)) pe_int))
      (pss_cons (ps_asg (pv 5) (pg_sub (pv 0) pe_str (set_dict hu)))
      (pss_cons (ps_set (i := 6) scDrw.nd rfl (Or.inl rfl) (pe_op op_mod (pe_callTy call_int1 (by rfl) B.int PyProof.Rows.boot_int (pa_cons (pe_op op_mul (pv 5) (pe_op op_add (pe_op op_fdiv (pv 5) pe_int) pe_int)) pa_nil)) pe_int))
      (pss_cons (ps_set (i := 6) scDrw.nd rfl (Or.inl rfl) (pe_op op_mod (pe_callTy call_int1 (by rfl) B.int PyProof.Rows.boot_int (pa_cons (pe_op op_mul (pv 6) (pe_op op_add (pe_op op_fdiv (pv 6) pe_int) pe_int)) pa_nil)) pe_int))
      (pss_one (ps_ret (pe_op op_mod (pe_op op_fdiv (pv 6) pe_int) (pv 1))))))))))))), ?_⟩
    have hzz : z < 1073741824 := by omega
    refine q_cut (M := fun σ' H' => σ' = start nDrw [.ref p, .int z] ∧ Pq G H' p g c) ?_ ?_
    · obtain ⟨cs, gs, h, s, m, h1, h2, h3, h4, h5, h6, h7, h8, h9⟩ := hP.at_
      refine s_when (b := decide (h < 2) && decide (0 < ((gs.map V.int).length : Int))) (et_and (et_test (ev_op (r := rI0 fun i j => .bl (decide (i < j))) (ev_dgetS (ev_var rfl) (.inl h4) pl_h) ev_c rv_I0)) fun _ => et_test (ev_op (r := rI0 fun i j => .bl (decide (j < i))) (ev_len (K := K) (ev_dgetS (ev_var rfl) (.inl h4) pl_g) (sq_of h5)) ev_c rv_I0)) (fun hb H1 e1 => ?_) (fun _ H1 e1 => ⟨rfl, hP.ext e1⟩)
      rw [Bool.and_eq_true] at hb
      have hg0 := of_decide_eq_true hb.2
      rw [List.length_map] at hg0
      have hP1 := hP.ext e1
      have hp1 := e1 _ _ h4
      have hg1 := e1 _ _ h5
      have hi : (gs.map V.int)[0]? = some (.int (gs[0]'(by omega))) := by rw [List.getElem?_map, List.getElem?_eq_getElem (by omega)]; rfl
      refine ⟨.ref p, rfl, p, .ref g, rfl, .inl ⟨_, kG, .inl hp1, rfl, pl_g.symm⟩, Or.inl ⟨rfl, _, sq_of hg1⟩, g, _, 0, 0, .int (gs[0]'(by omega)), rfl, rfl, hg1, by decide, by decide, seqIx (k := 0) (by rw [List.length_map]; omega), hi, ?_⟩
      have hx0 : 0 ≤ gs[0]'(by omega) := h6 _ (List.getElem_mem _)
      have hP2 : Pq G (upd H1 g (.lst ((gs.eraseIdx 0).map V.int))) p g c := hP1.pop (fun x hx => h6 x (List.mem_of_mem_eraseIdx hx)) (by have := List.length_eraseIdx_le gs 0; omega)
      have hp2 : (upd H1 g (.lst ((gs.eraseIdx 0).map V.int))) p = some (.dK (plV c g h s m)) := by rw [upd_ne hP.ne]; exact hp1
      have em : (gs.map V.int).eraseIdx 0 = (gs.eraseIdx 0).map V.int := by cases gs <;> rfl
      rw [em]
      generalize upd H1 g (.lst ((gs.eraseIdx 0).map V.int)) = H2 at *
      refine ⟨.ref p, rfl, p, _, rfl, DPut.k (k := kH) hp2 (by show 5 < sizeLine; decide), rfl, ?_⟩
      rw [put_h]
      exact hP2.put hx0 h9
    · rintro σ' H1 ⟨rfl, hP1⟩
      obtain ⟨cs, gs, h, s, m, h1, h2, h3, h4, h5, h6, h7, h8, h9⟩ := hP1.at_
      refine ⟨.ref p, rfl, p, .int h, rfl, .inl ⟨_, kH, .inl h4, rfl, pl_h.symm⟩, .inl ⟨h, rfl, ?_⟩⟩
      refine g_name ?_
      refine q_when (b := decide (1 < h)) (et_test (ev_op (r := rI0 fun i j => .bl (decide (j < i))) (ev_var rfl) ev_c rv_I0)) (fun hb H2 e2 => ?_) (fun hb H2 e2 => ?_)
      · have hp2 := e2 _ _ h4
        have hP2 := hP1.ext e2
        have md := modP h z hz
        refine ⟨.int h, rfl, .int z, rfl, h, z, rfl, rfl, ⟨hz, hzz⟩, .ref p, rfl, p, _, rfl, DPut.k (k := kH) hp2 (by show 5 < sizeLine; decide), ?_⟩
        rw [put_h]
        exact ⟨.int h, rfl, .int z, rfl, h, z, rfl, rfl, hz, k _ _ (hP2.put (Int.ediv_nonneg h8 (by omega)) h9) md.1 md.2⟩
      · have hp2 := e2 _ _ h4
        have hP2 := hP1.ext e2
        refine ⟨.ref p, rfl, p, .int m, rfl, .inl ⟨_, kM, .inl hp2, rfl, pl_m.symm⟩, .inl ⟨m, rfl, m, 1, rfl, rfl, ?_⟩⟩
        refine g_name ?_
        change tSeq _ _ _ [some (.ref p), some (.int z), some (.int h), some (.int (m + 1)), none, none, none] H2
        have hm1 : 0 ≤ m + 1 := by omega
        generalize m + 1 = m1 at *
        refine q_putS (p := p) rfl (ev_var (i := 3) (v := .int m1) rfl) hp2 (by show 5 < 1000; decide) fun H3 e3 => ?_
        rw [put_m]
        have hP3 : Pq G (upd H3 p (.dK (plV c g h s m1))) p g c := (hP2.ext e3).put h8 hm1
        have hp3 : (upd H3 p (.dK (plV c g h s m1))) p = some (.dK (plV c g h s m1)) := upd_same
        generalize upd H3 p (.dK (plV c g h s m1)) = H4 at *
        have hc4 := hP3.ex _ _ h1
        have hcl : (0 : Int) < (cs.length : Int) := by omega
        have md := modP m1 (cs.length : Int) hcl
        obtain ⟨j, hj⟩ : ∃ j : Nat, m1 % (cs.length : Int) = (j : Int) := ⟨(m1 % (cs.length : Int)).toNat, by omega⟩
        have hjl : j < cs.length := by omega
        have hcj : (cs.map V.int)[j]? = some (.int cs[j]) := by rw [List.getElem?_map, List.getElem?_eq_getElem hjl]; rfl
        generalize cs[j] = v at *
        refine ⟨.ref p, rfl, p, .ref c, rfl, .inl ⟨_, kC, .inl hp3, rfl, pl_c.symm⟩, .int m1, rfl, .ref p, rfl, p, .ref c, rfl, .inl ⟨_, kC, .inl hp3, rfl, pl_c.symm⟩, c, _, rfl, .inl (sq_of hc4), m1, _, rfl, rfl, by rw [List.length_map]; exact hcl, ?_⟩
        rw [List.length_map]
        dsimp only
        rw [hj]
        refine ⟨c, _, (j : Int), .int v, rfl, rfl, sq_of hc4, atI_nat hcj, .inl ⟨v, rfl, v, 2147483629, rfl, rfl, (show (0 : Int) < 2147483629 by decide), ?_⟩⟩
        refine g_name ?_
        change tSeq _ _ _ [some (.ref p), some (.int z), some (.int h), some (.int m1), some (.int (v % 2147483629)), none, none] H4
        generalize v % 2147483629 = v1 at *
        refine ⟨.ref p, rfl, p, .int s, rfl, .inl ⟨_, kS, .inl hp3, rfl, pl_s.symm⟩, .inl ⟨s, rfl, s, 69621, rfl, rfl, .inr ⟨by decide, by decide⟩, .int v1, rfl, _, v1, rfl, rfl, .int m1, rfl, 30103, m1, rfl, rfl, .inl ⟨by decide, by decide⟩, _, _, rfl, rfl, .inl ⟨_, rfl, _, 2147483647, rfl, rfl, (show (0 : Int) < 2147483647 by decide), ?_⟩⟩⟩
        refine g_name ?_
        change tSeq _ _ _ [some (.ref p), some (.int z), some (.int h), some (.int m1), some (.int v1), some (.int ((s * 69621 + v1 + 30103 * m1) % 2147483647)), none] H4
        have hs1 := modP (s * 69621 + v1 + 30103 * m1) 2147483647 (by decide)
        generalize (s * 69621 + v1 + 30103 * m1) % 2147483647 = s1 at *
        refine q_putS (p := p) rfl (ev_var (i := 5) (v := .int s1) rfl) hp3 (by show 5 < 1000; decide) fun H5 e5 => ?_
        rw [put_s]
        have hP5 : Pq G (upd H5 p (.dK (plV c g h s1 m1))) p g c := (hP3.ext e5).put h8 hm1
        generalize upd H5 p (.dK (plV c g h s1 m1)) = H6 at *
        refine ⟨.int s1, rfl, .int s1, rfl, s1, 1009, rfl, rfl, ⟨by decide, by decide⟩, _, 48271, rfl, rfl, s1, _, rfl, rfl, .inl ⟨by omega, by omega⟩, .inl ⟨_, rfl, _, 2147483629, rfl, rfl, (show (0 : Int) < 2147483629 by decide), ?_⟩⟩
        refine g_name ?_
        change tSeq _ _ _ [some (.ref p), some (.int z), some (.int h), some (.int m1), some (.int v1), some (.int s1), some (.int ((s1 * (s1 / 1009 + 48271)) % 2147483629))] H6
        have hy := modP (s1 * (s1 / 1009 + 48271)) 2147483629 (by decide)
        generalize (s1 * (s1 / 1009 + 48271)) % 2147483629 = y at *
        refine ⟨.int y, rfl, .int y, rfl, y, 2003, rfl, rfl, ⟨by decide, by decide⟩, _, 40692, rfl, rfl, y, _, rfl, rfl, .inl ⟨by omega, by omega⟩, .inl ⟨_, rfl, _, 2147483399, rfl, rfl, (show (0 : Int) < 2147483399 by decide), ?_⟩⟩
        refine g_name ?_
        dsimp only
        change tRet _ _ [some (.ref p), some (.int z), some (.int h), some (.int m1), some (.int v1), some (.int s1), some (.int ((y * (y / 2003 + 40692)) % 2147483399))] H6
        generalize (y * (y / 2003 + 40692)) % 2147483399 = y1 at *
        have md2 := modP (y1 / 16) z hz
        exact ⟨.int y1, rfl, y1, 16, rfl, rfl, ⟨by decide, by decide⟩, .int z, rfl, _, z, rfl, rfl, hz, k _ _ hP5 md2.1 md2.2⟩
/-- a draw, as a call -/
theorem ev_drw {G H : Hp} {p g c : Addr} {z : Int} {Q : VK} (h : Pq G H p g c) (hz : 0 < z) (hz2 : z ≤ 1000000000) (k : ∀ H' (i : Int), Gq p g c G H G H' → 0 ≤ i → i < z → Q (.int i) H') (E : XK) : spDrw [.ref p, .int z] H Q E :=
  ⟨Hd2 H p g, p, g, c, z, rfl, h.hd, hz, hz2, fun H' i hP h0 h1 => k H' i (Gq.draw h hP) h0 h1⟩
end
end Wk

set_option Elab.async false
set_option linter.all false
set_option maxRecDepth 100000
set_option maxHeartbeats 4000000
namespace Wk
open PySem PySem.Spec PyProof.Rows L2 Evl
/-! texts of bits -/
abbrev T (l : List Nat) : Str := ⟨l.toArray⟩
theorem T_cat (a b : List Nat) : T a ++ T b = T (a ++ b) := TL.ext_tl (TL.tl_append (T a) (T b))
theorem T_inj {a b : List Nat} (h : T a = T b) : a = b := congrArg (fun x : Str => x.cps.toList) h
theorem T_len (a : List Nat) : (T a).length = a.length := by simp [T, Str.length]
def IsB (l : List Nat) : Prop := ∀ c ∈ l, c = 48 ∨ c = 49
theorem IsB.nil : IsB [] := fun _ h => by cases h
theorem IsB.app {a b : List Nat} (h : IsB a) (k : IsB b) : IsB (a ++ b) := fun c hc => (List.mem_append.mp hc).elim (h c) (k c)
theorem IsB.take {a : List Nat} (h : IsB a) (n : Nat) : IsB (a.take n) := fun c hc => h c (List.mem_of_mem_take hc)
theorem IsB.drop {a : List Nat} (h : IsB a) (n : Nat) : IsB (a.drop n) := fun c hc => h c (List.mem_of_mem_drop hc)
theorem t_empty : (Str.ofString "") = T [] := by decide +kernel
theorem t_zero : (Str.ofString (toString (0 : Int))) = T [48] := by decide +kernel
theorem t_one : (Str.ofString (toString (1 : Int))) = T [49] := by decide +kernel
def BitV (v : V) : Prop := v = .str (T [48]) ∨ v = .str (T [49])
theorem bits_of : ∀ us : List V, (∀ u ∈ us, BitV u) → ∃ l : List Nat, IsB l ∧ l.length = us.length ∧ us = l.map fun c => V.str (T [c])
  | [], _ => ⟨[], IsB.nil, rfl, rfl⟩
  | u :: us, h => by
    obtain ⟨l, h1, h2, h3⟩ := bits_of us fun x hx => h x (List.mem_cons_of_mem _ hx)
    rcases h u List.mem_cons_self with e | e
    · exact ⟨48 :: l, fun c hc => (List.mem_cons.mp hc).elim (fun z => .inl z) (h1 c), by simp [h2], by rw [List.map_cons, ← h3, e]⟩
    · exact ⟨49 :: l, fun c hc => (List.mem_cons.mp hc).elim (fun z => .inr z) (h1 c), by simp [h2], by rw [List.map_cons, ← h3, e]⟩
theorem joinL_ones : ∀ l : List Nat, TL.joinL [] (l.map fun c => [c]) = l
  | [] => rfl
  | [c] => rfl
  | c :: d :: r => by
    show [c] ++ ([] ++ TL.joinL [] ((d :: r).map fun c => [c])) = _
    rw [joinL_ones (d :: r)]
    rfl
theorem join_T (a : List Nat) (ys : List (List Nat)) : Txt.join (T a) (ys.map T) = T (TL.joinL a ys) := by
  rw [TL.join_eq]
  refine TL.ext_tl ?_
  rw [TL.tl_join]
  show TL.joinL a _ = TL.joinL a ys
  congr 1
  rw [List.map_map]
  exact List.map_id _
theorem join_bits (l : List Nat) : Txt.join (T []) (l.map fun c => T [c]) = T l := by
  have z := join_T [] (l.map fun c => [c])
  rw [List.map_map, joinL_ones] at z
  exact z
theorem sum_ones : ∀ l : List Nat, ((l.map fun c => T [c]).map (·.length)).sum = l.length
  | [] => rfl
  | c :: r => by
    rw [List.map_cons, List.map_cons, List.sum_cons, sum_ones r, List.length_cons]
    show 1 + r.length = _
    omega
/-! what is evaluated with draws -/
def EvP (p g c : Addr) (G : Hp) (te : TE) (σ : L2.St) (Y : V → Prop) : Prop := ∀ H, Pq G H p g c → ∀ Q : VK, (∀ H' v, Gq p g c G H G H' → Y v → Q v H') → te σ H Q
section
variable {p g c : Addr} {G : Hp} {σ : L2.St} {te ta tb : TE} {v : V} {Y : V → Prop}
theorem ep_ev (h : Ev te σ G v) (hy : Y v) : EvP p g c G te σ Y := fun H hP Q k => h H hP.ex _ fun H1 e1 => k H1 v (Gq.ext hP e1) hy
theorem ep_drw {i : Nat} {z : Int} {E : XK} (hp : σ[i]? = some (some (.ref p))) (hz : Ev te σ G (.int z)) (h0 : 0 < z) (h1 : z ≤ 1000000000) :
    EvP p g c G (tCall spDrw [] E (tCons (tVar i) (tCons te tNil))) σ (fun v => ∃ j : Int, v = .int j ∧ 0 ≤ j ∧ j < z) := fun H hP Q k =>
  ⟨.ref p, hp, hz H hP.ex _ fun H1 e1 => ev_drw (hP.ext e1) h0 h1 (fun H' i g1 h0 h1 => k H' _ ((Gq.ext hP e1).trans g1) ⟨i, rfl, h0, h1⟩) E⟩
theorem Gq.reset {H H' : Hp} {D : Addr} {o o' : HO} (hP : Pq G H p g c) (hD : H D = none) (h : Gq p g c G H (upd G D o) H') : Gq p g c G H (upd G D o') (upd H' D o') := by
  have gD := fresh_back hP.ex hD
  have np := hP.np hD
  have ng := hP.ng hD
  refine ⟨Ex.new gD, fun b hb hh => ?_, fun b u hp hg hb => ?_, ?_⟩
  · have nb : b ≠ D := fun z => hh (by rw [z]; exact hD)
    rw [upd_ne nb]
    exact hb
  · have nb : b ≠ D := fun z => by rw [z, hD] at hb; cases hb
    rw [upd_ne nb]
    exact h.off b u hp hg hb
  · obtain ⟨cs, gs, k, s, m, h1, h2, h3, h4, h5, r⟩ := h.pl.at_
    obtain ⟨cs0, _, _, _, _, i1, i2, i3, _⟩ := hP.at_
    have nc : c ≠ D := fun z => by rw [z, gD] at i1; cases i1
    refine ⟨fun b u hb => ?_, by rw [upd_ne (Ne.symm np)]; exact hP.gp, by rw [upd_ne (Ne.symm ng)]; exact hP.gg, hP.ne, cs0, gs, k, s, m, by rw [upd_ne nc]; exact i1, i2, i3, by rw [upd_ne (Ne.symm np)]; exact h4, by rw [upd_ne (Ne.symm ng)]; exact h5, r⟩
    by_cases z : b = D
    · rw [z, upd_same] at hb ⊢
      exact hb
    · rw [upd_ne z] at hb ⊢
      exact h.pl.ex _ _ (by rw [upd_ne z]; exact hb)
/-- a list comprehension over range(n) with draws, whose items are plain -/
theorem ep_lcR {j : Nat} {vs : List Nat} {M N : Nat} {H : Hp} {Q : VK} (hP : Pq G H p g c) (ha : EvP p g c G ta σ (fun v => ∃ n : Nat, v = .int (n : Int) ∧ M ≤ n ∧ n ≤ N)) (hN : N ≤ 1000) (hw : ∀ x, wipe ((wipe σ vs).set j (some x)) vs = wipe σ vs)
    (he : ∀ (G' : Hp) (i : Nat), Ex G G' → EvP p g c G' te ((wipe σ vs).set j (some (.int (i : Int)))) Y)
    (k : ∀ H' D us, H D = none → Gq p g c G H (upd G D (.lst us)) H' → M ≤ us.length → us.length ≤ N → (∀ u ∈ us, Y u) → Q (.ref D) H') : tLc (iRng1 (tCons ta tNil)) (gName j) tYes te vs σ H Q := by
  refine ha H hP _ fun H1 v g1 hv => ?_
  obtain ⟨n, rfl, hm, hn⟩ := hv
  have hP1 : Pq G H1 p g c := g1.pl
  refine ⟨(n : Int), rfl, by omega, by omega, fun D hD => ?_⟩
  have hHD : H D = none := by
    cases hx : H D with
    | none => rfl
    | some o =>
      rw [g1.off D o (hP1.np hD) (hP1.ng hD) hx] at hD
      cases hD
  refine lc_range (lo := 0) (n := (n : Int).toNat) (fun i H' => ∃ us : List V, us.length = i ∧ (∀ u ∈ us, Y u) ∧ Gq p g c G H1 (upd G D (.lst us)) H') ⟨[], rfl, (fun _ h => by cases h), Gq.new hP1 hD⟩ (fun i H' hi hh => ?_) (fun H' hh => ?_)
  · obtain ⟨us, h1, h2, h3⟩ := hh
    have e0 : (0 : Int) + (i : Int) = (i : Int) := Int.zero_add _
    show wipe ((wipe σ vs).set j (some (.int ((0 : Int) + (i : Int))))) vs = wipe σ vs ∧ te ((wipe σ vs).set j (some (.int ((0 : Int) + (i : Int))))) H' fun y H4 => ∃ acc, H4 D = some (.lst acc) ∧ acc.length < sizeLine ∧ ∃ us : List V, us.length = i + 1 ∧ (∀ u ∈ us, Y u) ∧ Gq p g c G H1 (upd G D (.lst us)) (upd H4 D (.lst (acc ++ [y])))
    rw [e0]
    refine ⟨hw _, he (upd G D (.lst us)) i h3.ex H' h3.pl _ fun H4 y g4 hy => ?_⟩
    have g5 := h3.trans g4
    refine ⟨us, g5.pl.ex _ _ upd_same, sz_lt (by omega), us ++ [y], by simp [h1], fun u hu => (List.mem_append.mp hu).elim (h2 u) fun z => by rw [List.mem_singleton.mp z]; exact hy, ?_⟩
    exact Gq.reset hP1 hD g5
  · obtain ⟨us, h1, h2, h3⟩ := hh
    exact k H' D us hHD (g1.trans h3) (by omega) (by omega) h2
end
section
variable {P : Program} {w : World} {K : PySem.W.Frag} {mg : Str → Option Value} {base : Heap} {f : Addr} {fd : FuncData}
/-- str of a drawn bit -/
theorem ep_bit {p g c : Addr} {G : Hp} {σ : L2.St} {i : Nat} {E : XK} (hp : σ[i]? = some (some (.ref p))) :
    EvP p g c G (tCB (fun xs H Q => ∃ i : Int, xs = [.int i] ∧ i.natAbs.log2 < 1920 ∧ Q (.str (toString i)) H) (tCons (tCall spDrw [] E (tCons (tVar i) (tCons (tC (.int 2)) tNil))) tNil)) σ BitV := fun H hP Q k => by
  refine ep_drw (z := 2) hp ev_c (by decide) (by decide) H hP _ fun H' v g1 hv => ?_
  obtain ⟨j, rfl, h0, h1⟩ := hv
  have hj : j = 0 ∨ j = 1 := by omega
  rcases hj with rfl | rfl
  · exact ⟨0, rfl, by decide, k H' _ g1 (.inl (congrArg V.str t_zero))⟩
  · exact ⟨1, rfl, by decide, k H' _ g1 (.inr (congrArg V.str t_one))⟩
/-- ''.join of drawn bits -/
theorem ep_bits {p g c : Addr} {G : Hp} {σ : L2.St} {ta : TE} {i j : Nat} {vs : List Nat} {E : XK} {M N : Nat} (hp : (wipe σ vs)[i]? = some (some (.ref p))) (hij : i ≠ j) (ha : EvP p g c G ta σ (fun v => ∃ n : Nat, v = .int (n : Int) ∧ M ≤ n ∧ n ≤ N)) (hN : N ≤ 1000) (hw : ∀ x, wipe ((wipe σ vs).set j (some x)) vs = wipe σ vs) :
    EvP p g c G (tM1 (fun x xs H Q => ∃ a p, ∃ ys : List Str, x = .str a ∧ xs = [.ref p] ∧ (SqL K H p (ys.map V.str) ∨ SqT K H p (ys.map V.str)) ∧ (ys.map (·.length)).sum + ys.length * a.length ≤ 16777216 ∧ Q (.str (Txt.join a ys)) H) (tC (.str ""))
      (tLc (iRng1 (tCons ta tNil)) (gName j) tYes (tCB (fun xs H Q => ∃ i : Int, xs = [.int i] ∧ i.natAbs.log2 < 1920 ∧ Q (.str (toString i)) H) (tCons (tCall spDrw [] E (tCons (tVar i) (tCons (tC (.int 2)) tNil))) tNil)) vs)) σ
      (fun v => ∃ l, v = .str (T l) ∧ IsB l ∧ M ≤ l.length ∧ l.length ≤ N) := fun H hP Q k => by
  refine ⟨⟨_, rfl⟩, ?_⟩
  refine ep_lcR (Y := BitV) hP ha hN hw (fun G' n e => ep_bit (by rw [List.getElem?_set_ne (Ne.symm hij)]; exact hp)) fun H' D us hD g1 hml hl hY => ?_
  obtain ⟨l, hb, hl2, rfl⟩ := bits_of us hY
  have hDl := g1.pl.ex _ _ upd_same
  refine ⟨_, D, l.map fun c => T [c], rfl, rfl, .inl (sq_of (by rw [List.map_map]; exact hDl)), ?_, ?_⟩
  · rw [sum_ones, t_empty]
    show l.length + _ * 0 ≤ _
    omega
  · rw [t_empty, join_bits]
    have gD := fresh_back hP.ex hD
    refine k H' _ ⟨Ex.refl _, fun b h _ => h, g1.off, ?_⟩ ⟨l, rfl, hb, by omega, by omega⟩
    obtain ⟨cs, gs, k, s, m, h1, h2, h3, h4, h5, r⟩ := g1.pl.at_
    obtain ⟨cs0, _, _, _, _, i1, i2, i3, _⟩ := hP.at_
    exact ⟨(Ex.new gD).trans g1.pl.ex, hP.gp, hP.gg, hP.ne, cs0, gs, k, s, m, i1, i2, i3, h4, h5, r⟩
/-! _law_bits -/
def spBits : Sp := fun vs H Q _ => ∃ (G : Hp) (p g c : Addr) (m : Nat), vs = [.ref p, .int (m : Int)] ∧ Pq G H p g c ∧ m ≤ 10 ∧ ∀ H' l, Gq p g c G H G H' → IsB l → l.length ≤ m → Q (.str (T l)) H'
abbrev sBits : Stmt := top 48
abbrev nBits : List Str := ["_law_pool_here", "_law_most", "_law_k"]
theorem scBits : FnScope nBits ["_law_pool_here", "_law_most"] (defScope sBits) := ⟨rfl, rfl, rfl, by decide +kernel, rfl, by decide +kernel, by decide +kernel⟩
theorem ok_bits (B : Bl mg) (C : Cal P w K mg base "_law_draw" ["_law_pool_here", "_law_many"] 1 spDrw) (F : FnP K "_law_bits" sBits f fd) : FnOk P w K mg base CX0 2 f fd ["_law_pool_here", "_law_most"] spBits := by
  refine F.ok scBits (fun vs H Q E h => ?_) (fun cdv A outer s H vs Q E hr h => ?_)
  · obtain ⟨G, p, g, c, m, rfl, _⟩ := h
    rfl
  · obtain ⟨G, p, g, c, m, rfl, hP, hm, k⟩ := h
    refine ⟨_, pss_one (ps_ret (pe_join pe_str (pe_lc (own := [("_law_k", 2)]) (g := gName 2) (tt := tYes) rfl scBits.nd (pi_range1 (by rfl) B.range (pa_cons (pe_cal C hr (by rfl) (pa_cons (pv 0) (pa_cons (pe_op op_add (pv 1) pe_int) pa_nil))) pa_nil)) (blkOk_by (N := nBits) (sc := defScope sBits) (by decide +kernel))
          (fun _ _ _ _ _ => pg_name (i := 2) scBits.nd rfl (Or.inl rfl)) (fun _ _ _ _ _ => pts_nil)
          (fun _ _ _ _ _ => pe_callTy call_str_int (by rfl) B.str PyProof.Rows.boot_str (pa_cons (pe_cal C hr (by rfl) (pa_cons (pv 0) (pa_cons pe_int pa_nil))) pa_nil))))), ?_⟩
    refine ep_bits (K := K) (G := G) (g := g) (c := c) (M := 0) (N := m) (i := 0) (j := 2) rfl (by decide) (fun H1 hP1 Q1 k1 => ep_drw (z := (m : Int) + 1) rfl (ev_op (r := rI0 fun i j => .int (i + j)) (ev_var rfl) ev_c rv_I0) (by omega) (by omega) H1 hP1 _ fun H2 v g2 hv => ?_) (by omega) (fun x => rfl) H hP _ fun H' v g1 hv => ?_
    · obtain ⟨j, rfl, h0, h1⟩ := hv
      exact k1 H2 _ g2 ⟨j.toNat, by rw [Int.toNat_of_nonneg h0], by omega, by omega⟩
    · obtain ⟨l, rfl, hb, _, hl⟩ := hv
      exact k H' l g1 hb hl
end
end Wk

set_option Elab.async false
set_option linter.all false
set_option maxRecDepth 100000
set_option maxHeartbeats 4000000
namespace Wk
open PySem PySem.Spec PyProof.Rows L2 Evl
/-! rows: a text of bits and where to -/
abbrev Row := List Nat × V
def NxV (v : V) : Prop := v = .str "here" ∨ v = .str "drop" ∨ ∃ i : Nat, i < 8 ∧ v = .int (i : Int)
def kvOf (es : List Row) : List (L2.Key × V) := es.map fun e => (.inr (T e.1), e.2)
theorem kv_len (es : List Row) : (kvOf es).length = es.length := List.length_map ..
theorem kv_keys (es : List Row) : (kvOf es).map (·.1) = (es.map fun e => T e.1).map Sum.inr := by
  unfold kvOf
  rw [List.map_map, List.map_map]
  rfl
theorem key_eq {a b : List Nat} : ((.inr (T a) : L2.Key) = .inr (T b)) = (a = b) := propext ⟨fun h => T_inj (by injection h), fun h => by rw [h]⟩
theorem kv_put (es : List Row) (l : List Nat) (v : V) : putK (kvOf es) (.inr (T l)) v = kvOf (putK es l v) := by
  have h1 : ((kvOf es).any fun kv => decide (kv.1 = (.inr (T l) : L2.Key))) = es.any fun kv => decide (kv.1 = l) := by
    unfold kvOf
    rw [List.any_map]
    congr 1
    funext e
    simp only [Function.comp, key_eq]
  unfold putK
  rw [h1]
  split
  · unfold kvOf
    rw [List.map_map, List.map_map]
    refine List.map_congr_left fun e _ => ?_
    simp only [Function.comp, key_eq]
    split <;> rfl
  · unfold kvOf
    rw [List.map_append]
    rfl
theorem kv_val (l : List Nat) : ∀ es : List Row, valV (kvOf es) (.inr (T l)) = valV es l
  | [] => rfl
  | e :: es => by
    obtain ⟨a, v⟩ := e
    by_cases h : a = l
    · rw [valV_pos h]
      exact valV_pos (by rw [h])
    · rw [valV_neg h, ← kv_val l es]
      exact valV_neg (fun z => h (T_inj (by injection z)))
theorem putK_mem {es : List Row} {l : List Nat} {v : V} {e : Row} (h : e ∈ putK es l v) : e = (l, v) ∨ e ∈ es := by
  unfold putK at h
  split at h
  · obtain ⟨x, hx, hh⟩ := List.mem_map.mp h
    split at hh
    · rename_i c
      rw [← hh, c]
      exact .inl rfl
    · rw [← hh]; exact .inr hx
  · rcases List.mem_append.mp h with h | h
    · exact .inr h
    · exact .inl (List.mem_singleton.mp h)
theorem putK_ndE {es : List Row} {l : List Nat} {v : V} (h : (es.map (·.1)).Nodup) : ((putK es l v).map (·.1)).Nodup := by
  cases hv : valV es l with
  | none => exact nd_putK v h hv
  | some u =>
    unfold putK
    split
    · rw [List.map_map]
      have e : (es.map ((fun x : Row => x.1) ∘ fun kv => if kv.1 = l then (kv.1, v) else kv)) = es.map (·.1) := List.map_congr_left fun p _ => by
        show (if p.1 = l then (p.1, v) else p).1 = p.1
        split <;> rfl
      rw [e]
      exact h
    · rename_i c
      exfalso
      rw [valV_any, hv] at c
      exact c rfl
structure EsOk (es : List Row) (m : Nat) : Prop where
  nd : (es.map (·.1)).Nodup
  len : es.length ≤ m
  it : ∀ e ∈ es, IsB e.1 ∧ e.1.length ≤ 10 ∧ NxV e.2
theorem EsOk.nil (m : Nat) : EsOk [] m := ⟨List.nodup_nil, Nat.zero_le _, fun _ h => by cases h⟩
theorem EsOk.put {es : List Row} {i : Nat} {l : List Nat} {v : V} (h : EsOk es i) (h1 : IsB l) (h2 : l.length ≤ 10) (h3 : NxV v) : EsOk (putK es l v) (i + 1) :=
  ⟨putK_ndE h.nd, by have := length_putK es l v; have := h.len; omega, fun e he => (putK_mem he).elim (fun z => by rw [z]; exact ⟨h1, h2, h3⟩) (h.it e)⟩
theorem EsOk.le {es : List Row} {i j : Nat} (h : EsOk es i) (hij : i ≤ j) : EsOk es j := ⟨h.nd, Nat.le_trans h.len hij, h.it⟩
theorem val_at : ∀ {es : List Row} {i : Nat} {e : Row}, (es.map (·.1)).Nodup → es[i]? = some e → valV es e.1 = some e.2
  | [], i, e, _, h => by cases h
  | x :: es, 0, e, _, h => by
    obtain rfl : x = e := Option.some.inj h
    exact valV_pos rfl
  | x :: es, i + 1, e, nd, h => by
    rw [List.map_cons] at nd
    obtain ⟨n1, n2⟩ := List.nodup_cons.mp nd
    have hm : e ∈ es := List.mem_of_getElem? (show es[i]? = some e from h)
    have ne : ¬ x.1 = e.1 := fun z => n1 (by rw [z]; exact List.mem_map.mpr ⟨e, hm, rfl⟩)
    obtain ⟨a, b⟩ := x
    rw [valV_neg ne]
    exact val_at n2 h
/-- the tuples at us are the rows es -/
inductive EsT (H : Hp) : List V → List Row → Prop
  | nil : EsT H [] []
  | cons {b : Addr} {us : List V} {e : Row} {es : List Row} : H b = some (.tup [.str (T e.1), e.2]) → EsT H us es → EsT H (.ref b :: us) (e :: es)
theorem EsT.mono {H H' : Hp} (x : Ex H H') : ∀ {us : List V} {es : List Row}, EsT H us es → EsT H' us es
  | _, _, .nil => .nil
  | _, _, .cons h t => .cons (x _ _ h) (t.mono x)
theorem EsT.length {H : Hp} : ∀ {us : List V} {es : List Row}, EsT H us es → us.length = es.length
  | _, _, .nil => rfl
  | _, _, .cons h t => by simp [t.length]
theorem EsT.at_ {H : Hp} : ∀ {us : List V} {es : List Row} {i : Nat} {u : V}, EsT H us es → us[i]? = some u → ∃ b e, u = .ref b ∧ es[i]? = some e ∧ H b = some (.tup [.str (T e.1), e.2])
  | _, _, i, u, .nil, h => by cases h
  | _, _, 0, u, .cons (b := b) (e := e) hb t, h => ⟨b, e, (Option.some.inj h).symm, rfl, hb⟩
  | _, _, i + 1, u, .cons hb t, h => by
    obtain ⟨b, e, h1, h2, h3⟩ := t.at_ (show _ = some u from h)
    exact ⟨b, e, h1, h2, h3⟩
/-! slices and sums of texts -/
section
variable {σ : L2.St} {H : Hp} {ta tb te : TE} {tl th : TO}
theorem cut_take (l : List Nat) (n : Nat) : cutS (T l) none (some (n : Int)) = T (l.take n) := by
  unfold cutS
  rw [HT.sIx_none, HT.sIx_nat, T_len]
  show T ((l.drop 0).take (min n l.length - 0)) = _
  rw [List.drop_zero, Nat.sub_zero, ← List.take_eq_take_min]
theorem cut_init (l : List Nat) : cutS (T l) none (some (-1)) = T (l.take (l.length - 1)) := by
  unfold cutS
  rw [HT.sIx_none, T_len]
  show T ((l.drop 0).take ((-1 + (l.length : Int)).toNat - 0)) = _
  rw [List.drop_zero, Nat.sub_zero]
  congr 2
  omega
theorem ev_slS {l : List Nat} {lo hi : Option Int} (h : Ev te σ H (.str (T l))) (h1 : EvO tl σ H lo) (h2 : EvO th σ H hi) (hl : l.length ≤ 1000) : Ev (tSl rSlS te tl th) σ H (.str (cutS (T l) lo hi)) := fun H1 e _ q =>
  h H1 e _ fun H2 e2 => h1 H2 (e.trans e2) _ fun H3 e3 => h2 H3 ((e.trans e2).trans e3) _ fun H4 e4 => ⟨T l, rfl, by rw [T_len]; exact sz_of (by omega), q H4 ((e2.trans e3).trans e4)⟩
abbrev rAddS : V → V → Hp → VK → Prop := fun x y H Q => ∃ i j, x = .str i ∧ y = .str j ∧ i.length + j.length ≤ sizeLine ∧ Q (.str (i ++ j)) H
theorem ev_addS {a b : List Nat} (h : Ev ta σ H (.str (T a))) (h1 : Ev tb σ H (.str (T b))) (hl : a.length + b.length ≤ 1000) : Ev (tOp rAddS ta tb) σ H (.str (T (a ++ b))) :=
  ev_op h h1 fun H1 _ Q q => ⟨T a, T b, rfl, rfl, by rw [T_len, T_len]; exact sz_of (by omega), by rw [T_cat]; exact q H1 (Ex.refl _)⟩
theorem t_lit1 : (Str.ofString "1") = T [49] := by decide +kernel
/-- start[:-1] + str(1 - int(start[-1:] == '1')) -/
abbrev tFlip (i : Nat) : TE := tOp rAddS (tSl rSlS (tVar i) tNoPart (tPart (tUn (rU fun i => .int (-i)) (tC (.int 1)))))
  (tCB (fun xs H Q => ∃ i : Int, xs = [.int i] ∧ i.natAbs.log2 < 1920 ∧ Q (.str (toString i)) H) (tCons (tOp (rI0 fun i j => .int (i - j)) (tC (.int 1))
    (tCB (fun xs H Q => (∃ i, xs = [.int i] ∧ Q (.int i) H) ∨ ∃ k, xs = [.bl k] ∧ Q (.int (if k then 1 else 0)) H) (tCons (tOp rEq (tSl rSlS (tVar i) (tPart (tUn (rU fun i => .int (-i)) (tC (.int 1)))) tNoPart) (tC (.str "1"))) tNil))) tNil))
def flip1 (l : List Nat) : List Nat := l.take (l.length - 1) ++ (if cutS (T l) (some (-1)) none = Str.ofString "1" then [48] else [49])
theorem flip_isB {l : List Nat} (h : IsB l) : IsB (flip1 l) := by
  refine (h.take _).app fun c hc => ?_
  split at hc
  · exact .inl (List.mem_singleton.mp hc)
  · exact .inr (List.mem_singleton.mp hc)
theorem flip_len {l : List Nat} (h : l.length ≤ 10) : (flip1 l).length ≤ 10 := by
  unfold flip1
  rw [List.length_append, List.length_take]
  have : (if cutS (T l) (some (-1)) none = Str.ofString "1" then [48] else [49]).length = 1 := by split <;> rfl
  rw [this]
  omega
theorem ev_flip {i : Nat} {l : List Nat} (h : σ[i]? = some (some (.str (T l)))) (hl : l.length ≤ 10) : Ev (tFlip i) σ H (.str (T (flip1 l))) := by
  have hm1 : EvO (tPart (tUn (rU fun i => .int (-i)) (tC (.int 1)))) σ H (some (-1)) := eo_some (ev_un ev_c ru_neg)
  have h1 := ev_slS (ev_var h) (eo_none (H := H)) hm1 (by omega)
  rw [cut_init] at h1
  refine ev_addS (b := if cutS (T l) (some (-1)) none = Str.ofString "1" then [48] else [49]) h1 ?_ ?_
  · have h2 := ev_op (ev_slS (ev_var h) hm1 (eo_none (H := H)) (by omega)) (ev_c (v := .str "1")) (rv_eq (x := .str (cutS (T l) (some (-1)) none)) rfl)
    intro H1 e Q q
    refine h2 H1 e _ fun H2 e2 => ?_
    by_cases c : cutS (T l) (some (-1)) none = Str.ofString "1"
    · rw [if_pos c] at q
      refine .inr ⟨_, rfl, 1, _, rfl, rfl, _, rfl, ?_⟩
      have d : decide (V.str (cutS (T l) (some (-1)) none) = V.str "1") = true := decide_eq_true (by rw [c])
      rw [d]
      refine ⟨by decide, ?_⟩
      rw [show (toString ((1 : Int) - if true = true then 1 else 0) : String) = toString (0 : Int) from rfl, t_zero]
      exact q H2 e2
    · rw [if_neg c] at q
      refine .inr ⟨_, rfl, 1, _, rfl, rfl, _, rfl, ?_⟩
      have d : decide (V.str (cutS (T l) (some (-1)) none) = V.str "1") = false := decide_eq_false (fun z => c (by injection z))
      rw [d]
      refine ⟨by decide, ?_⟩
      rw [show (toString ((1 : Int) - if false = true then 1 else 0) : String) = toString (1 : Int) from rfl, t_one]
      exact q H2 e2
  · rw [List.length_take]
    have : (if cutS (T l) (some (-1)) none = Str.ofString "1" then [48] else [49]).length = 1 := by split <;> rfl
    rw [this]
    omega
end
/-! what stays grows by all that is new -/
section
variable {p g c : Addr}
theorem Gq.grow {G H H' : Hp} (h : Pq G H p g c) (e : Ex H H') : Gq p g c G H (fun b => match H b with | none => H' b | some _ => G b) H' := by
  obtain ⟨op, hp⟩ := h.p_at
  obtain ⟨og, hg⟩ := h.g_at
  obtain ⟨cs, gs, k, s, m, h1, h2, h3, h4, h5, r⟩ := h.at_
  refine ⟨fun b o hb => ?_, fun b hb hh => ?_, Of2.ex e, fun b o hb => ?_, ?_, ?_, h.ne, cs, gs, k, s, m, ?_, h2, h3, e _ _ h4, e _ _ h5, r⟩
  · rw [h.ex _ _ hb]
    exact hb
  · cases hx : H b with
    | none => exact absurd hx hh
    | some o => exact hb
  · cases hx : H b with
    | none => rw [hx] at hb; exact hb
    | some o' => rw [hx] at hb; exact e _ _ (h.ex _ _ hb)
  · rw [hp]
    exact h.gp
  · rw [hg]
    exact h.gg
  · rw [h.ex _ _ h1]
    exact h1
/-- a new thing that is left again -/
theorem Gq.less {G H H' : Hp} {D : Addr} {o : HO} (hP : Pq G H p g c) (hD : H D = none) (h : Gq p g c G H (upd G D o) H') : Gq p g c G H G H' := by
  have gD := fresh_back hP.ex hD
  obtain ⟨cs, gs, k, s, m, h1, h2, h3, h4, h5, r⟩ := h.pl.at_
  obtain ⟨cs0, _, _, _, _, i1, i2, i3, _⟩ := hP.at_
  exact ⟨Ex.refl _, fun b h _ => h, h.off, (Ex.new gD).trans h.pl.ex, hP.gp, hP.gg, hP.ne, cs0, gs, k, s, m, i1, i2, i3, h4, h5, r⟩
end
/-! [(k, d[k]) for k in d] -/
def rowY (H0 : Hp) (es : List Row) : Nat → V → Hp → Prop := fun i u H => ∃ b e, u = .ref b ∧ es[i]? = some e ∧ H0 b = none ∧ H b = some (.tup [.str (T e.1), e.2])
theorem rowY_good (H0 : Hp) (es : List Row) : GoodY (rowY H0 es) :=
  ⟨fun i u H H' e ⟨b, r, h1, h2, h3, h4⟩ => ⟨b, r, h1, h2, h3, e _ _ h4⟩, fun i u H D l hD ⟨b, r, h1, h2, h3, h4⟩ => ⟨b, r, h1, h2, h3, by
    rw [off_at (fun z => by rw [z, hD] at h4; cases h4)]
    exact h4⟩⟩
theorem grown_rows {H0 H G : Hp} {es : List Row} (hG : ∀ b, H0 b = none → G b = H b) : ∀ (n k : Nat) (us : List V), k + n = es.length → Grown (rowY H0 es) H ((List.range' k n)) us → EsT G us (es.drop k)
  | 0, k, us, hk, h => by
    have : us = [] := h
    rw [this, List.drop_of_length_le (by omega)]
    exact .nil
  | n + 1, k, us, hk, h => by
    rw [List.range'_succ] at h
    obtain ⟨u, r, rfl, ⟨b, e, rfl, h2, h3, h4⟩, h5⟩ := h
    have ih := grown_rows hG n (k + 1) r (by omega) h5
    have hkl : k < es.length := by omega
    rw [List.getElem?_eq_getElem hkl] at h2
    rw [List.drop_eq_getElem_cons hkl, Option.some.inj h2]
    exact .cons (by rw [hG b h3]; exact h4) ih
theorem upTo_all (n : Nat) : upTo (fun _ => true) n = List.range' 0 n := by
  unfold upTo
  rw [List.filter_eq_self.mpr fun _ _ => rfl, List.range_eq_range']
theorem q_rows {p g c : Addr} {G H : Hp} {D : Addr} {es : List Row} {n j m : Nat} {vs : List Nat} {σ : L2.St} {Q : VK} (hP : Pq G H p g c) (hσ : σ[n]? = some (some (.ref D))) (hσ2 : ∀ x, ((wipe σ vs).set j (some x))[n]? = some (some (.ref D))) (hj : ∀ x, ((wipe σ vs).set j (some x))[j]? = some (some x)) (hw : ∀ x, wipe ((wipe σ vs).set j (some x)) vs = wipe σ vs)
    (hD : H D = some (.dK (kvOf es))) (hes : EsOk es m) (hm : m ≤ 1000)
    (k : ∀ G' H' L us, Gq p g c G H G' H' → G' L = some (.lst us) → EsT G' us es → Q (.ref L) H') :
    tLockE (tLc (iKeys (tVar n)) (gName j) tYes (tTup (tCons (tVar j) (tCons (tDGet (tVar n) (tVar j)) tNil))) vs) σ H Q := by
  have hl := hes.len
  refine ⟨D, .dK (kvOf es), hD, trivial, fun od => ⟨.ref D, hσ, D, od, rfl, .inl ⟨kvOf es, upd_same, fun L hL => ?_⟩⟩⟩
  have nLD : L ≠ D := fun z => by rw [z, upd_same] at hL; cases hL
  have hHL : H L = none := by rw [upd_ne nLD] at hL; exact hL
  refine grow_lc (Y := rowY H es) (walk_keys (o := od) (kvs := kvOf es)) (Yx := fun i x => ∃ k v, (kvOf es)[i]? = some (k, v) ∧ x = kV k) (rowY_good H es) (fun _ => true) hL (by rw [kv_len]; omega) (fun H' e => e _ _ upd_same) hw (fun _ _ _ _ _ _ => et_yes) (fun i x H' e hi hx _ => ?_) (fun us H' e hus gr => ?_)
  · obtain ⟨kk, v, hx, rfl⟩ := hx
    unfold kvOf at hx
    rw [List.getElem?_map] at hx
    cases hi : es[i]? with
    | none => rw [hi] at hx; cases hx
    | some r =>
      rw [hi] at hx
      have hx := Option.some.inj hx
      injection hx with hx1 hx2
      subst hx1 hx2
      intro H1 e1 Q1 q1
      refine ⟨.str (T r.1), hj _, .ref D, hσ2 _, .str (T r.1), hj _, D, r.2, rfl, .inl ⟨kvOf es, .inr (T r.1), .inr ⟨od, e1 _ _ (e _ _ upd_same)⟩, rfl, by rw [kv_val]; exact (val_at hes.nd hi).symm⟩, by show 2 ≤ sizeLine; decide, fun b hb => q1 _ _ (Ex.new hb) ⟨b, r, rfl, hi, ?_, upd_same⟩⟩
      have h1 := fresh_back (e.trans e1) hb
      by_cases z : b = D
      · rw [z, upd_same] at h1; cases h1
      · rw [upd_ne z] at h1; exact h1
  · have eH : Ex H (upd H' D (.dK (kvOf es))) := fun b o hb => by
      by_cases z : b = D
      · rw [z, hD] at hb
        cases hb
        rw [z]
        exact upd_same
      · rw [upd_ne z]
        exact e _ _ (by rw [upd_ne z]; exact hb)
    refine ⟨e _ _ upd_same, k _ _ L us (Gq.grow hP eH) ?_ ?_⟩
    · show (match H L with | none => _ | some _ => _) = _
      rw [hHL]
      dsimp only
      rw [upd_ne nLD]
      exact hus
    · rw [kv_len, upTo_all] at gr
      refine grown_rows (H0 := H) (H := H') (k := 0) (fun b hb => ?_) es.length us (Nat.zero_add _) gr
      show (match H b with | none => _ | some _ => _) = _
      rw [hb]
      dsimp only
      rw [upd_ne (fun z => by rw [z, hD] at hb; cases hb)]
end Wk

set_option Elab.async false
set_option linter.all false
set_option maxRecDepth 100000
set_option maxHeartbeats 4000000
namespace Wk
open PySem PySem.Spec PyProof.Rows L2 Evl
theorem put_in {es : List Row} {l : List Nat} {v : V} {nxs : List V} (h : ∀ e ∈ es, e.2 ∈ nxs) (hv : v ∈ nxs) : ∀ e ∈ putK es l v, e.2 ∈ nxs := fun e he => (putK_mem he).elim (fun z => by rw [z]; exact hv) (h e)
section
variable {P : Program} {w : World} {K : PySem.W.Frag} {mg : Str → Option Value} {base : Heap} {f : Addr} {fd : FuncData}
/-- a call of _law_bits -/
theorem ep_callBits {p g c : Addr} {G : Hp} {σ : L2.St} {i : Nat} {te : TE} {m : Nat} {E : XK} (hp : σ[i]? = some (some (.ref p))) (hz : Ev te σ G (.int (m : Int))) (hm : m ≤ 10) :
    EvP p g c G (tCall spBits [] E (tCons (tVar i) (tCons te tNil))) σ (fun v => ∃ l, v = .str (T l) ∧ IsB l ∧ l.length ≤ m) := fun H hP Q k =>
  ⟨.ref p, hp, hz H hP.ex _ fun H1 e1 => ⟨G, p, g, c, m, rfl, hP.ext e1, hm, fun H' l g1 h1 h2 => k H' _ ((Gq.ext hP e1).trans g1) ⟨l, rfl, h1, h2⟩⟩⟩
/-! _law_entries -/
def spEnt : Sp := fun vs H Q _ => ∃ (G : Hp) (p g c nl : Addr) (m : Nat) (nxs : List V), vs = [.ref p, .int (m : Int), .ref nl] ∧ Pq G H p g c ∧ m ≤ 24 ∧ G nl = some (.lst nxs) ∧ 1 ≤ nxs.length ∧ nxs.length ≤ 100 ∧ (∀ v ∈ nxs, NxV v) ∧
  ∀ G' H' L us es, Gq p g c G H G' H' → G' L = some (.lst us) → EsT G' us es → EsOk es m → (∀ e ∈ es, e.2 ∈ nxs) → Q (.ref L) H'
abbrev sEnt : Stmt := top 49
abbrev nEnt : List Str := ["_law_pool_here", "_law_many", "_law_nexts", "_law_known", "_law_k", "_law_bits_here", "_law_kind", "_law_earlier"]
theorem scEnt : FnScope nEnt ["_law_pool_here", "_law_many", "_law_nexts"] (defScope sEnt) := ⟨rfl, rfl, rfl, by decide +kernel, rfl, by decide +kernel, by decide +kernel⟩
theorem ok_ent (B : Bl mg) (hso : mg "sorted" = none) (C1 : Cal P w K mg base "_law_draw" ["_law_pool_here", "_law_many"] 1 spDrw) (C2 : Cal P w K mg base "_law_bits" ["_law_pool_here", "_law_most"] 2 spBits) (F : FnP K "_law_entries" sEnt f fd) : FnOk P w K mg base CX0 3 f fd ["_law_pool_here", "_law_many", "_law_nexts"] spEnt := by
  refine F.ok scEnt (fun vs H Q E h => ?_) (fun cdv A outer s H vs Q E hr h => ?_)
  · obtain ⟨G, p, g, c, nl, m, nxs, rfl, _⟩ := h
    rfl
  · obtain ⟨G, p, g, c, nl, m, nxs, rfl, hP, hm, hnl, hn1, hn2, hnx, k⟩ := h
    have hu : (A.deeper (envOfC "_law_entries" (defScope sEnt) s.heap.objs.size f cdv)).units + 1 < cLine := by have := hr.un; omega
    refine ⟨_, pss_cons (ps_set (i := 3) scEnt.nd rfl (Or.inr rfl) pe_dnewK)
      (pss_cons (ps_for (passes_of rfl) rfl (pi_range1 (by rfl) B.range (pa_cons (pv 1) pa_nil)) (pg_name (i := 4) scEnt.nd rfl (Or.inl rfl))
        (pss_cons (ps_set (i := 5) scEnt.nd rfl (Or.inl rfl) (pe_cal C2 hr (by rfl) (pa_cons (pv 0) (pa_cons pe_int pa_nil))))
        (pss_cons (ps_set (i := 6) scEnt.nd rfl (Or.inl rfl) (pe_cal C1 hr (by rfl) (pa_cons (pv 0) (pa_cons pe_int pa_nil))))
        (pss_cut (ps_if (PW.pt (pw_and (pt_cmpR op_gt (pv 6) pe_int (nomark _)) (pw_and1 (pt_cmpR op_gt (pe_callB call_lenD (by rfl) B.len PySem.boot_len (pa_cons (pv 3) pa_nil)) pe_int (nomark _)))))
            (pss_cons (ps_set (i := 7) scEnt.nd rfl (Or.inl rfl) (pe_ix (ix_listK rfl) (pe_callB (call_sortedD rfl) (by rfl) hso PyProof.Rows.boot_sorted (pa_cons (pv 3) pa_nil)) (pe_cal C1 hr (by rfl) (pa_cons (pv 0) (pa_cons (pe_callB call_lenD (by rfl) B.len PySem.boot_len (pa_cons (pv 3) pa_nil)) pa_nil))) (fun _ _ => rfl)))
            (pss_one (ps_if (pt_cmpR op_eq (pv 6) pe_int (nomark _))
              (pss_one (ps_set (i := 5) scEnt.nd rfl (Or.inl rfl) (pe_slice sl_str (pe_op op_add_str (pv 7) (pv 5)) po_none (po_some pe_int))))
              (pss_one (ps_set (i := 5) scEnt.nd rfl (Or.inl rfl) (pe_op op_add_str (pe_slice sl_str (pv 7) po_none (po_some (pe_un un_neg pe_int)))
                (pe_callTy call_str_int (by rfl) B.str PyProof.Rows.boot_str (pa_cons (pe_op op_sub pe_int (pe_callTy call_int1 (by rfl) B.int PyProof.Rows.boot_int (pa_cons (pe_cmpR op_eq (pe_slice sl_str (pv 7) (po_some (pe_un un_neg pe_int)) po_none) pe_str (nomark _)) pa_nil))) pa_nil))))))))
            pss_nil)
        (pss_one (ps_asg (pe_ix (ix_listK rfl) (pv 2) (pe_cal C1 hr (by rfl) (pa_cons (pv 0) (pa_cons (pe_callB (call_len_seq) (by rfl) B.len PySem.boot_len (pa_cons (pv 2) pa_nil)) pa_nil))) (fun _ _ => rfl)) (pg_sub (pv 3) (pv 5) (set_dict hu))))))))
      (pss_one (ps_ret (pe_lock (pe_lc (own := [("_law_bits_here", 5)]) (g := gName 5) (tt := tYes) rfl scEnt.nd (pi_keys (pv 3)) (blkOk_by (N := nEnt) (sc := defScope sEnt) (by decide +kernel))
          (fun _ _ _ _ _ => pg_name (i := 5) scEnt.nd rfl (Or.inl rfl)) (fun _ _ _ _ _ => pts_nil)
          (fun _ _ _ _ _ => pe_tup (pa_cons (pv 5) (pa_cons (pe_dget hu (pv 3) (pv 5) (fun _ _ => rfl)) pa_nil)))))))), ?_⟩
    intro D hD
    have gD := fresh_back hP.ex hD
    refine g_name ?_
    refine q_forR1 (ta := tCons (tVar 1) tNil) (n := (m : Int)) (ea_cons (ev_var rfl) ea_nil) (by omega) (fun i σ' H' => ∃ es o4 o5 o6 o7, σ' = [some (.ref p), some (.int (m : Int)), some (.ref nl), some (.ref D), o4, o5, o6, o7] ∧ (EsOk es i ∧ ∀ e ∈ es, e.2 ∈ nxs) ∧ Gq p g c G H (upd G D (.dK (kvOf es))) H') (fun H1 e1 => ?_) (fun i σ' H' hi hh => ?_) (fun σ' H' hh => ?_)
    · have h0 := Gq.new (o := .dK []) hP hD
      exact ⟨[], _, _, _, _, rfl, ⟨EsOk.nil 0, fun _ h => by cases h⟩, h0.trans (Gq.ext h0.pl e1)⟩
    · obtain ⟨es, o4, o5, o6, o7, rfl, ⟨hes, hin⟩, hg⟩ := hh
      have hel := hes.len
      have hG1 : (upd G D (.dK (kvOf es))) nl = some (.lst nxs) := by
        rw [upd_ne (fun z => by rw [z, gD] at hnl; cases hnl)]
        exact hnl
      have hGD : (upd G D (.dK (kvOf es))) D = some (.dK (kvOf es)) := upd_same
      generalize hGe : upd G D (.dK (kvOf es)) = G1 at *
      refine ep_callBits (g := g) (c := c) (G := G1) (m := 10) rfl ev_c (Nat.le_refl _) H' hg.pl _ fun H1 v g1 hv => ?_
      obtain ⟨l, rfl, hb, hl⟩ := hv
      refine g_name ?_
      refine ep_drw (g := g) (c := c) (G := G1) (z := 4) rfl ev_c (by decide) (by decide) H1 g1.pl _ fun H2 v g2 hv => ?_
      obtain ⟨kd, rfl, hk0, hk1⟩ := hv
      refine g_name ?_
      have g12 := (hg.trans g1).trans g2
      refine q_cut (M := fun σ2 H3 => ∃ l2 o7, σ2 = [some (.ref p), some (.int (m : Int)), some (.ref nl), some (.ref D), some (.int (i : Int)), some (.str (T l2)), some (.int kd), o7] ∧ IsB l2 ∧ l2.length ≤ 10 ∧ Gq p g c G H G1 H3) ?_ ?_
      · refine s_when (b := decide (1 < kd) && decide ((0 : Int) < ((kvOf es).length : Int))) (et_and (et_test (ev_op (r := rI0 fun i j => .bl (decide (j < i))) (ev_var rfl) ev_c rv_I0)) fun _ => et_test (ev_op (r := rI0 fun i j => .bl (decide (j < i))) (x := .int ((kvOf es).length : Int)) (fun H3 e3 Q q => ⟨.ref D, rfl, D, kvOf es, rfl, e3 _ _ (g12.pl.ex _ _ hGD), q _ (Ex.refl _)⟩) ev_c rv_I0)) (fun hb1 H3 e3 => ?_) (fun _ H3 e3 => ⟨l, o7, rfl, hb, hl, g12.trans (Gq.ext g12.pl e3)⟩)
        rw [Bool.and_eq_true] at hb1
        have hpos := of_decide_eq_true hb1.2
        have hP3 := g12.pl.ext e3
        have g3 := g12.trans (Gq.ext g12.pl e3)
        refine ⟨.ref D, rfl, D, kvOf es, es.map fun e => T e.1, rfl, .inl (hP3.ex _ _ hGD), kv_keys es, by rw [List.length_map]; omega, fun ys q hys _ hq => ?_⟩
        have hPq := hP3.new (o := .lst (ys.map V.str)) hq
        refine ep_drw (g := g) (c := c) (G := upd G1 q (.lst (ys.map V.str))) (z := ((kvOf es).length : Int)) rfl (fun H4 e4 Q q4 => ⟨.ref D, rfl, D, kvOf es, rfl, e4 _ _ ((Ex.new (fresh_back hP3.ex hq)) _ _ hGD), q4 _ (Ex.refl _)⟩) hpos (by rw [kv_len]; omega) (upd H3 q (.lst (ys.map V.str))) hPq _ fun H4 v g4 hv => ?_
        obtain ⟨j, rfl, hj0, hj1⟩ := hv
        have g4' := Gq.less (o := .lst (ys.map V.str)) hP3 hq ((Gq.new (o := .lst (ys.map V.str)) hP3 hq).trans g4)
        have hq4 := g4.pl.ex _ _ (upd_same (H := G1) (a := q) (o := .lst (ys.map V.str)))
        obtain ⟨jn, rfl⟩ : ∃ jn : Nat, j = (jn : Int) := ⟨j.toNat, by omega⟩
        have hyl : ys.length = es.length := by rw [hys.length_eq, List.length_map]
        rw [kv_len] at hj1
        have hjy : jn < ys.length := by omega
        have hm : ys[jn] ∈ es.map fun e => T e.1 := hys.mem_iff.mp (List.getElem_mem hjy)
        obtain ⟨r, hr1, hr2⟩ := List.mem_map.mp hm
        refine ⟨q, ys.map V.str, (jn : Int), .str (T r.1), rfl, rfl, sq_of hq4, atI_nat (by rw [List.getElem?_map, List.getElem?_eq_getElem hjy, ← hr2]; rfl), ?_⟩
        refine g_name ?_
        obtain ⟨hrb, hrl, _⟩ := hes.it r hr1
        have g5 := g3.trans g4'
        dsimp only
        change tIfS _ _ _ _ [some (.ref p), some (.int (m : Int)), some (.ref nl), some (.ref D), some (.int (i : Int)), some (.str (T l)), some (.int kd), some (.str (T r.1))] H4
        refine s_if (b := decide (V.int kd = V.int 2)) (et_test (ev_op (r := rEq) (ev_var rfl) ev_c (rv_eq rfl))) (fun _ H5 e5 => ?_) (fun _ H5 e5 => ?_)
        · refine s_asg (v := .str (T ((r.1 ++ l).take 10))) ?_ fun H6 e6 => ?_
          · have z := ev_slS (H := H5) (σ := [some (.ref p), some (.int (m : Int)), some (.ref nl), some (.ref D), some (.int (i : Int)), some (.str (T l)), some (.int kd), some (.str (T r.1))]) (l := r.1 ++ l) (lo := none) (hi := some ((10 : Nat) : Int)) (ev_addS (ta := tVar 7) (tb := tVar 5) (ev_var rfl) (ev_var rfl) (by omega)) eo_none (eo_some ev_c) (by rw [List.length_append]; omega)
            rw [cut_take] at z
            exact z
          · exact ⟨_, _, rfl, (hrb.app hb).take _, by rw [List.length_take]; omega, g5.trans (Gq.ext g5.pl (e5.trans e6))⟩
        · refine s_asg (v := .str (T (flip1 r.1))) (ev_flip rfl hrl) fun H6 e6 => ?_
          exact ⟨_, _, rfl, flip_isB hrb, flip_len hrl, g5.trans (Gq.ext g5.pl (e5.trans e6))⟩
      · rintro σ2 H3 ⟨l2, o7', rfl, hb2, hl2, g3⟩
        have hPn := g3.pl
        refine ⟨.ref nl, rfl, ep_drw (g := g) (c := c) (G := G1) (z := (nxs.length : Int)) rfl (ev_len (K := K) (ev_var rfl) (sq_of hG1)) (by omega) (by omega) H3 hPn _ fun H4 v g4 hv => ?_⟩
        obtain ⟨j, rfl, hj0, hj1⟩ := hv
        obtain ⟨jn, rfl⟩ : ∃ jn : Nat, j = (jn : Int) := ⟨j.toNat, by omega⟩
        have hjn : jn < nxs.length := by omega
        have g4' := g3.trans g4
        have hD4 := g4.pl.ex _ _ hGD
        refine ⟨nl, nxs, (jn : Int), nxs[jn], rfl, rfl, sq_of (g4.pl.ex _ _ hG1), atI_nat (List.getElem?_eq_getElem hjn), .ref D, rfl, .str (T l2), rfl, D, _, rfl, DPut.k (k := .inr (T l2)) hD4 (sz_lt (by rw [kv_len]; omega)), ?_⟩
        rw [kv_put]
        refine ⟨_, _, _, _, _, rfl, ⟨hes.put hb2 hl2 (hnx _ (List.getElem_mem hjn)), put_in hin (List.getElem_mem hjn)⟩, ?_⟩
        rw [← hGe] at g4'
        exact Gq.reset hP hD g4'
    · obtain ⟨es, o4, o5, o6, o7, rfl, ⟨hes, hin⟩, hg⟩ := hh
      rw [Int.toNat_natCast] at hes
      refine q_rows (p := p) (g := g) (c := c) (m := m) hg.pl rfl (fun _ => rfl) (fun _ => rfl) (fun _ => rfl) (hg.pl.ex _ _ upd_same) hes (by omega) fun G' H2 L us g2 h1 h2 => ?_
      refine k _ H2 L us es (Gq.trans ?_ g2) h1 h2 hes hin
      exact hg
end
end Wk

set_option Elab.async false
set_option linter.all false
set_option maxRecDepth 100000
set_option maxHeartbeats 4000000
/-! sorted of tuples (text, whole number or text), by the text -/
namespace SrtT
open PySem PySem.Spec PyProof.Rows L2 SrtO
open PySem.W (KatTups)
def IsSP (h : Heap) (v : Value) (x : Str) (y : Value) : Prop := ∃ a o t n, v = .ref a ∧ h.get? a = some o ∧ o.cls = .type "tuple" ∧ o.data = .seq #[.str x t, y] n
theorem IsSP.keeps {h h' : Heap} {v : Value} {x : Str} {y : Value} (p : IsSP h v x y) (k : ∀ b o, h.get? b = some o → o.cls = .type "tuple" → h'.get? b = some o) : IsSP h' v x y := by
  obtain ⟨a, o, t, n, e, ho, hc, hd⟩ := p
  exact ⟨a, o, t, n, e, k _ _ ho hc, hc, hd⟩
theorem firsts_sp {h : Heap} : ∀ {vs : List Value}, (∀ v ∈ vs, ∃ x y, IsSP h v x y) → ∃ fs : List Value, KatTups h vs fs ∧ fs.length = vs.length ∧ ∀ f ∈ fs, ∃ x t, f = Value.str x t
  | [], _ => ⟨[], KatTups.nil, rfl, fun _ hm => by simp at hm⟩
  | v :: vs, hp => by
    obtain ⟨fs, h1, h2, h3⟩ := firsts_sp (vs := vs) fun v' hm => hp v' (List.mem_cons_of_mem _ hm)
    obtain ⟨x, y, a, o, t, n, e, ho, hc, hd⟩ := hp v (List.mem_cons_self ..)
    subst e
    refine ⟨.str x t :: fs, KatTups.cons ho hc hd rfl h1, by rw [List.length_cons, List.length_cons, h2], fun f hm => ?_⟩
    rcases List.mem_cons.mp hm with rfl | hm
    · exact ⟨x, t, rfl⟩
    · exact h3 f hm
def ltX (a b : List Nat) : Bool := decide (a < b)
theorem swo_X : Swo ltX := by
  refine ⟨fun x y h => ?_, fun x y z h1 h2 => ?_⟩
  · exact decide_eq_false (List.lt_asymm (of_decide_eq_true h))
  · exact decide_eq_false (List.not_lt.mpr (List.le_trans (List.not_lt.mp (of_decide_eq_false h1)) (List.not_lt.mp (of_decide_eq_false h2))))
theorem swo_of {α : Type} (k : α → List Nat) : Swo fun x y => ltX (k x) (k y) := ⟨fun x y h => swo_X.asym _ _ h, fun x y z h1 h2 => swo_X.tr _ _ _ h1 h2⟩
section
variable {prog : Program} {w : World} {A : Around} {E : Value → Shared → Prop} {s : Shared}
def Flat2 (z : V) : Prop := (∃ i, z = .int i) ∨ ∃ x, z = .str x
theorem sp_cmp {vs : List Value} {k : Value → Str} {m : Str → V} (hm : ∀ v ∈ vs, Flat2 (m (k v))) (hp : ∀ v ∈ vs, ∃ y, IsSP s.heap v (k v) y ∧ RelV (m (k v)) y) :
    Cmp prog w A s (tuples' true) (fun p => p.1 ∈ vs) (lt2 fun v u => ltX (k v).cps.toList (k u).cps.toList) := by
  intro p q hp1 hq1
  obtain ⟨y, h1, r1⟩ := hp _ hp1
  obtain ⟨y', h2, r2⟩ := hp _ hq1
  have f1 := hm _ hp1
  show wpAny (model prog w) A (keyLt' (tuples' true) p.1 q.1) (fun r s' => s' = s ∧ r = ltX (k p.1).cps.toList (k q.1).cps.toList) (fun _ _ => False) s
  generalize k p.1 = x at h1 r1 f1 ⊢
  generalize k q.1 = x' at h2 r2 ⊢
  obtain ⟨a, o, t, n, e, ho, hc, hd⟩ := h1
  obtain ⟨a', o', t', n', e', ho', hc', hd'⟩ := h2
  rw [e, e']
  refine PySem.W.kat_lt ho hd ho' hd' ?_
  show PySem.W.KatLex prog w A true (decide (2 < 2)) _ [(.str x t, .str x' t'), (y, y')] 0 s
  refine PySem.W.kat_cons (SeqAt.EqAt.str_str x t x' t' prog w _ _ ?_)
  refine PySem.W.kat_go (fun e1 => ?_) (fun e1 => ?_)
  · have ex : x = x' := by simpa using e1
    subst ex
    have e3 : ltX x.cps.toList x.cps.toList = false := swo_X.refl _
    rcases f1 with ⟨i, hi⟩ | ⟨z, hz⟩
    · rw [hi] at r1 r2
      obtain ⟨t1, rfl⟩ := r1
      obtain ⟨t2, rfl⟩ := r2
      refine PySem.W.kat_yes (PySem.W.kat_cons (SeqAt.EqAt.int_int i t1 i t2 prog w _ _ ?_))
      refine PySem.W.kat_go (fun e2 => ?_) (fun e2 => absurd e2 (by simp))
      exact PySem.W.kat_yes (PySem.W.kat_nil ⟨rfl, e3.symm⟩)
    · rw [hz] at r1 r2
      obtain ⟨t1, rfl⟩ := r1
      obtain ⟨t2, rfl⟩ := r2
      refine PySem.W.kat_yes (PySem.W.kat_cons (SeqAt.EqAt.str_str z t1 z t2 prog w _ _ ?_))
      refine PySem.W.kat_go (fun e2 => ?_) (fun e2 => absurd e2 (by simp))
      exact PySem.W.kat_yes (PySem.W.kat_nil ⟨rfl, e3.symm⟩)
  · exact PySem.W.kat_no (oneLt_str ⟨rfl, rfl⟩)
theorem sp_sortable {a : Addr} {vs : List Value} {k : Value → Str} {m : Str → V} (h0 : 0 < vs.length) (hm : ∀ v ∈ vs, Flat2 (m (k v))) (hp : ∀ v ∈ vs, ∃ y, IsSP s.heap v (k v) y ∧ RelV (m (k v)) y) (ha : ∀ o, s.heap.get? a = some o → o.cls ≠ .type "tuple") : SortableO prog w A s a vs fun v u => ltX (k v).cps.toList (k u).cps.toList := by
  intro h' keep
  have hp' : ∀ v ∈ vs, ∃ y, IsSP h' v (k v) y ∧ RelV (m (k v)) y := fun v hm => by
    obtain ⟨y, h1, h2⟩ := hp v hm
    exact ⟨y, h1.keeps fun b o e c => keep b o (fun z => by subst z; exact ha o e c) e, h2⟩
  obtain ⟨fs, h1, h2, h3⟩ := firsts_sp fun v hm => by
    obtain ⟨y, h1, h2⟩ := hp' v hm
    exact ⟨_, y, h1⟩
  refine ⟨tuples' true, fun Q E hq => ?_, sp_cmp hm hp'⟩
  refine PySem.W.kat_kind (T := .type "str") h1 (by omega) (fun f hm => ?_) (by rfl) ?_
  · obtain ⟨x, t, rfl⟩ := h3 f hm
    exact PySem.W.Looks.now
  · have e : (Value.type "str" != Value.type "tuple") = true := by first | decide +kernel | rfl | decide
    rw [e]
    exact hq
/-- a list or a tuple in the heap -/
def IsSeq (h : Heap) (l : Addr) (vs : List Value) : Prop := ∃ (T : String) (o : Obj) (n : Nat), (T = "list" ∨ T = "tuple") ∧ h.get? l = some o ∧ o.cls = .type T ∧ o.data = .seq vs.toArray n
theorem sorted_seq {l : Addr} {vs : List Value} {ltv : Value → Value → Bool} {Q : Value → Shared → Prop} (O : Swo ltv) (hl : IsSeq s.heap l vs) (hz : vs.length ≤ sizeLine)
    (hS : 2 ≤ vs.length → ∀ (h₁ : Heap) (a : Addr), h₁.get? a = some (seqObj "list" vs.toArray 0) → (∀ b o, s.heap.get? b = some o → b ≠ a ∧ h₁.get? b = some o) → SortableO prog w A.in1.in1 { s with heap := h₁ } a vs ltv)
    (h : ∀ (h' : Heap) (d : Addr) (out : List Value), Srtd ltv out → Stb ltv out vs → (∀ b o, s.heap.get? b = some o → h'.get? b = some o) → s.heap.get? d = none → (∃ n, h'.get? d = some (seqObj "list" out.toArray n)) → Q (.ref d) { s with heap := h' }) :
    wpAny (model prog w) A (call (.builtin "sorted") [.ref l]) Q E s := by
  obtain ⟨T, o, n, hT, ho, hc, hd⟩ := hl
  refine Calls.call_function_entry kind_sorted plain_sorted entry_sorted (args_sorted1 _) ?_
  unfold Builtin.«sorted»
  refine wpAny_bind (m := checkCount "sorted" 1 1 _) (wpAny_pure ?_)
  refine wpAny_bind (wpAny_collect_seq l hT ho hc hd (fun h1 k1 => ?_) (by rw [List.size_toArray]; exact hz))
  refine wpAny_bind (wpAny_newList ?_ hz)
  have hoL : (h1.push (seqObj "list" vs.toArray 0)).get? h1.objs.size = some (seqObj "list" vs.toArray 0) := Heap.get?_push_size _ rfl
  have keep : ∀ b o, s.heap.get? b = some o → b ≠ h1.objs.size ∧ (h1.push (seqObj "list" vs.toArray 0)).get? b = some o := fun b o q => ⟨Nat.ne_of_lt (Heap.lt_size (k1 _ _ q)), Heap.get?_push_of_some _ (k1 _ _ q)⟩
  show wpAny _ _ _ _ _ { s with heap := h1.push (seqObj "list" vs.toArray 0) }
  refine wpAny_bind (wpAny_holding (wpAny_call_entry slot_list_sort ⟨_, hoL, rfl⟩ entry_list_sort (list_sort_ord O hoL hz (fun h2 => hS h2 _ _ hoL keep) fun out hs hb => ⟨_, rfl, ?_⟩) (args_list_sort _)))
  refine wpAny_pure ⟨_, rfl, h _ _ out hs hb (fun b o q => ?_) ?_ (sortedHeap_at hoL)⟩
  · rw [sortedHeap_old (keep b o q).1 (Heap.lt_size (keep b o q).2)]
    exact (keep b o q).2
  · show s.heap.get? h1.objs.size = none
    cases hx : s.heap.get? h1.objs.size with
    | none => rfl
    | some o => exact absurd (Heap.lt_size (k1 _ _ hx)) (Nat.lt_irrefl _)
theorem sorted_sp {l : Addr} {vs : List Value} {k : Value → Str} {m : Str → V} {Q : Value → Shared → Prop} (hl : IsSeq s.heap l vs) (hz : vs.length ≤ sizeLine) (hm : ∀ v ∈ vs, Flat2 (m (k v))) (hp : ∀ v ∈ vs, ∃ y, IsSP s.heap v (k v) y ∧ RelV (m (k v)) y)
    (h : ∀ (h' : Heap) (d : Addr) (out : List Value), Srtd (fun v u => ltX (k v).cps.toList (k u).cps.toList) out → Stb (fun v u => ltX (k v).cps.toList (k u).cps.toList) out vs → (∀ b o, s.heap.get? b = some o → h'.get? b = some o) → s.heap.get? d = none → (∃ n, h'.get? d = some (seqObj "list" out.toArray n)) → Q (.ref d) { s with heap := h' }) :
    wpAny (model prog w) A (call (.builtin "sorted") [.ref l]) Q E s := by
  refine sorted_seq (swo_of fun v => (k v).cps.toList) hl hz (fun h2 h₁ a ha kk => ?_) h
  refine sp_sortable (s := { s with heap := h₁ }) (by omega) hm (fun v hm => ?_) fun o e => ?_
  · obtain ⟨y, h1, h2⟩ := hp v hm
    exact ⟨y, h1.keeps fun b o e _ => (kk b o e).2, h2⟩
  · have e' : some o = some (seqObj "list" vs.toArray 0) := e.symm.trans ha
    cases e'
    intro c
    exact absurd (Value.type.inj c) (by decide)
end
end SrtT
namespace Wk
open PySem PySem.Spec PyProof.Rows L2 Evl SrtT
/-- what row stands at a reference -/
def rowAt (H : Hp) : V → Row
  | .ref t => match H t with
    | some (.tup [.str z, v]) => (z.cps.toList, v)
    | _ => ([], .non)
  | _ => ([], .non)
theorem rowAt_of {H : Hp} {b : Addr} {e : Row} (h : H b = some (.tup [.str (T e.1), e.2])) : rowAt H (.ref b) = e := by
  unfold rowAt
  dsimp only
  rw [h]
theorem EsT.rows {H : Hp} : ∀ {us : List V} {es : List Row}, EsT H us es → us.map (rowAt H) = es ∧ ∀ u ∈ us, ∃ b, u = .ref b ∧ H b = some (.tup [.str (T (rowAt H u).1), (rowAt H u).2])
  | _, _, .nil => ⟨rfl, fun _ h => by cases h⟩
  | _, _, .cons (b := b) (us := us) (e := e) h t => by
    obtain ⟨h1, h2⟩ := t.rows
    refine ⟨by rw [List.map_cons, h1, rowAt_of h], fun u hu => ?_⟩
    rcases List.mem_cons.mp hu with rfl | hu
    · exact ⟨b, rfl, by rw [rowAt_of h]; exact h⟩
    · exact h2 u hu
theorem est_of {H : Hp} : ∀ {us : List V}, (∀ u ∈ us, ∃ b, u = .ref b ∧ H b = some (.tup [.str (T (rowAt H u).1), (rowAt H u).2])) → EsT H us (us.map (rowAt H))
  | [], _ => .nil
  | u :: us, h => by
    obtain ⟨b, rfl, hb⟩ := h u List.mem_cons_self
    exact .cons hb (est_of fun x hx => h x (List.mem_cons_of_mem _ hx))
/-- rows by their texts -/
abbrev ltR (x y : Row) : Bool := ltX x.1 y.1
/-- es' is es sorted -/
def SrR (es' es : List Row) : Prop := SrtO.Srtd ltR es' ∧ SrtO.Stb ltR es' es
theorem SrR.uniq {a b es : List Row} (h : SrR a es) (k : SrR b es) : a = b :=
  SrtO.stb_uniq (swo_of fun e : Row => e.1) h.1 k.1 (h.2.trans ⟨k.2.perm.symm, fun x => (k.2.cls x).symm⟩)
def rSortR (K : PySem.W.Frag) : List V → Hp → VK → Prop := fun vs H Q => ∃ (a : Addr) (xs : List V) (es : List Row), vs = [V.ref a] ∧ (SqL K H a xs ∨ SqT K H a xs) ∧ EsT H xs es ∧ (es.map (·.1)).Nodup ∧ (∀ e ∈ es, Flat2 e.2) ∧
  ∀ ys es' p, SrR es' es → EsT H ys es' → H p = none → Q (.ref p) (upd H p (.lst ys))
theorem valE_mem {es : List Row} {e : Row} (nd : (es.map (·.1)).Nodup) (h : e ∈ es) : valV es e.1 = some e.2 := by
  obtain ⟨i, hi⟩ := List.getElem?_of_mem h
  exact val_at nd hi
section
variable {X : Cx}
theorem cr_sortedR {K : PySem.W.Frag} (hK : X.K = K) : CallR X (.builtin "sorted") (rSortR K) := by
  subst hK
  intro pins s σ H vs us Q I r h
  obtain ⟨a, xs, es, rfl, hs, he, nd, hf, q⟩ := h
  have hseq : ∃ its, Vals xs its ∧ IsSeq s.heap a its ∧ xs.length ≤ sizeLine := by
    rcases hs with hs | hs
    · obtain ⟨its, rv, hl, hz⟩ := I.list hs
      obtain ⟨o, h1, h2, n, h3⟩ := hl.isList
      exact ⟨its, rv, ⟨"list", o, n, .inl rfl, h1, h2, h3⟩, hz⟩
    · obtain ⟨its, rv, hl, hz⟩ := I.tuple hs
      obtain ⟨o, h1, h2, n, h3⟩ := hl
      exact ⟨its, rv, ⟨"tuple", o, n, .inr rfl, h1, h2, h3⟩, hz⟩
  obtain ⟨its, rv, hl, hz⟩ := hseq
  obtain ⟨u, rfl, ru⟩ := vals1 r
  obtain rfl : u = Value.ref a := ru
  obtain ⟨hr1, hr2⟩ := he.rows
  obtain ⟨e1, e2⟩ := refs_back rv fun x m => by
    obtain ⟨t, e, _⟩ := hr2 x m
    exact ⟨t, e⟩
  have hmem : ∀ x ∈ xs, rowAt H x ∈ es := fun x hx => by rw [← hr1]; exact List.mem_map.mpr ⟨x, hx, rfl⟩
  have hback : ∀ v ∈ its, backV v ∈ xs := fun v hv => by rw [e1]; exact List.mem_map.mpr ⟨v, hv, rfl⟩
  have hval : ∀ v ∈ its, (match valV es (rowAt H (backV v)).1 with | some z => z | none => V.non) = (rowAt H (backV v)).2 := fun v hv => by
    rw [valE_mem nd (hmem _ (hback v hv))]
  refine sorted_sp (k := fun u => T (rowAt H (backV u)).1) (m := fun z => match valV es z.cps.toList with | some z => z | none => V.non) hl (by rw [← rv.length]; exact hz) (fun v hv => ?_) (fun v hv => ?_) fun h' d out h1 h2 kp hd hn => ?_
  · show Flat2 (match valV es (rowAt H (backV v)).1 with | some z => z | none => V.non)
    rw [hval v hv]
    exact hf _ (hmem _ (hback v hv))
  · obtain ⟨t, rfl⟩ := e2 v hv
    obtain ⟨t', e, ht⟩ := hr2 _ (hback _ hv)
    cases e
    obtain ⟨_, its2, r2, o, ho, hc, n, hd⟩ := I.hok _ _ ht
    obtain ⟨u1, u2, rfl, ri, rj⟩ := vals2 r2
    obtain ⟨t1, rfl⟩ := ri
    refine ⟨u2, ⟨t, o, t1, n, rfl, ho, hc, hd⟩, ?_⟩
    show RelV (match valV es (rowAt H (backV (.ref t))).1 with | some z => z | none => V.non) u2
    rw [hval _ hv]
    exact rj
  · have h3 : ∀ u ∈ out, ∃ a, u = Value.ref a := fun u hu => e2 u (h2.perm.mem_iff.mp hu)
    obtain ⟨n, hn⟩ := hn
    have hb0 : SrtO.Stb (fun x y => ltX (rowAt H x).1 (rowAt H y).1) (out.map backV) xs := by
      rw [e1]
      exact SrtO.Stb.map (swo_of fun x => (rowAt H x).1) backV h2
    have hb : SrtO.Stb ltR ((out.map backV).map (rowAt H)) (xs.map (rowAt H)) := SrtO.Stb.map (swo_of fun e : Row => e.1) (rowAt H) hb0
    rw [hr1] at hb
    have hsr : SrtO.Srtd ltR ((out.map backV).map (rowAt H)) := SrtO.srtd_map (SrtO.srtd_map h1)
    refine ⟨.ref d, upd H d (.lst (out.map backV)), I.laidN (t' := s.toks) kp hd (I.hok.gone hd) ⟨?_, out, n, vals_back h3, hn⟩, rfl, q _ _ d ⟨hsr, hb⟩ (est_of fun u hu => hr2 u (hb0.perm.mem_iff.mp hu)) (I.hok.gone hd)⟩
    rw [hb0.perm.length_eq]
    exact hz
end
end Wk

set_option Elab.async false
set_option linter.all false
set_option maxRecDepth 100000
set_option maxHeartbeats 4000000
namespace Wk
open PySem PySem.Spec PyProof.Rows L2 Evl
/-- no text, whatever is laid -/
def NSt (K : PySem.W.Frag) (H : Hp) (v : V) : Prop := ∀ H', Ex H H' → ∃ t, TyX K H' v t ∧ PySem.W.kitOne K t (.type "str") = some false
theorem NSt.mono {K : PySem.W.Frag} {H H' : Hp} {v : V} (e : Ex H H') (h : NSt K H v) : NSt K H' v := fun H2 e2 => h H2 (e.trans e2)
theorem nst_dq {K : PySem.W.Frag} {H : Hp} {v : V} {d : PyData} (h : Dq H v d) (hs : isStr d = false) : NSt K H v := fun H' e => ⟨_, (h.mono e).ty, kit_ty (by rw [kit_str, hs])⟩
def bitB (c : Nat) : Bool := decide (c = 48) || decide (c = 49)
def rngB (l : List Nat) : Bool := decide (l.length ≤ 10) && l.all bitB
def adrB (l : List Nat) : Bool := rngB l && decide (l.length = 10)
theorem all_bits {l : List Nat} (h : IsB l) : l.all bitB = true := by
  rw [List.all_eq_true]
  intro c hc
  unfold bitB
  rcases h c hc with z | z <;> simp [z]
theorem rng_yes {l : List Nat} (h : IsB l) (hl : l.length ≤ 10) : rngB l = true := by
  unfold rngB
  rw [all_bits h, Bool.and_true]
  exact decide_eq_true hl
theorem adr_yes {l : List Nat} (h : IsB l) (hl : l.length = 10) : adrB l = true := by
  unfold adrB
  rw [rng_yes h (by omega), Bool.true_and]
  exact decide_eq_true hl
theorem bit_in (c : Nat) : inV (.str (T [c])) [.str "0", .str "1"] = bitB c := by
  have e0 : (Str.ofString "0") = T [48] := by decide +kernel
  have e1 : (Str.ofString "1") = T [49] := by decide +kernel
  show (eqV (.str (Str.ofString "0")) (.str (T [c])) || (eqV (.str (Str.ofString "1")) (.str (T [c])) || false)) = _
  rw [e0, e1]
  show ((T [48] == T [c]) || ((T [49] == T [c]) || false)) = _
  unfold bitB
  have b : ∀ a : Nat, (T [a] == T [c]) = decide (c = a) := fun a => by
    by_cases z : c = a
    · rw [z]; simp
    · rw [decide_eq_false z]
      exact beq_eq_false_iff_ne.mpr fun y => z (by have := T_inj y; simpa using this.symm)
  rw [b, b, Bool.or_false]
section
variable {K : PySem.W.Frag} {σ : L2.St} {H : Hp} {ta te : TE}
theorem ev_isiN {v : V} (h : Ev ta σ H v) (hn : NSt K H v) : Ev (tCB (rIsi K) (tCons ta (tCons (tC (.ty "str")) tNil))) σ H (.bl false) := fun H1 e Q q =>
  h H1 e _ fun H2 e2 => by
    obtain ⟨t, ht, hk⟩ := hn H2 (e.trans e2)
    exact ⟨v, .ty "str", t, .type "str", false, rfl, .ty "str", ht, hk, q H2 e2⟩
theorem ev_isiS {x : Str} (h : Ev ta σ H (.str x)) : Ev (tCB (rIsi K) (tCons ta (tCons (tC (.ty "str")) tNil))) σ H (.bl true) := ev_isi h (.str x) (kit_str (.str x))
abbrev rLenStr : List V → Hp → VK → Prop := fun xs H Q => ∃ z : Str, xs = [.str z] ∧ z.length ≤ sizeLine ∧ Q (.int z.length) H
theorem ev_lenS {l : List Nat} (h : Ev ta σ H (.str (T l))) (hl : l.length ≤ 1000) : Ev (tCB rLenStr (tCons ta tNil)) σ H (.int (l.length : Int)) := fun H1 e Q q =>
  h H1 e _ fun H2 e2 => ⟨T l, rfl, by rw [T_len]; exact sz_of (by omega), by rw [T_len]; exact q H2 e2⟩
/-- a list comprehension over a text -/
theorem el_lcS {l : List Nat} {j : Nat} {vs : List Nat} (v : Nat → V) (h : Ev ta σ H (.str (T l))) (hl : l.length ≤ 1000) (hw : ∀ x, wipe ((wipe σ vs).set j (some x)) vs = wipe σ vs)
    (he : ∀ (i c : Nat) H1, Ex H H1 → l[i]? = some c → Ev te ((wipe σ vs).set j (some (.str (T [c])))) H1 (v i)) :
    EvL (tLc (iStr ta) (gName j) tYes te vs) σ H (given l.length (fun _ => true) v) := fun H0 e Q q => h H0 e _ fun H1 e1 => by
  have hsz : (T l).cps.size = l.length := by simp [T]
  refine ⟨T l, rfl, fun Dl hD => ?_⟩
  have w := walk_str (z := T l)
  rw [hsz] at w
  refine lc_it w (Cw H1 (fun _ => true) v Dl) ⟨hD, Ex.new hD, upd_same⟩ (fun _ _ _ _ => trivial) (fun i x H' H2 hi p y => ?_) (fun H' p => q Dl H' (fresh_back e1 p.1) (e1.trans p.2.1) p.2.2)
  obtain ⟨rfl, c, hc, rfl⟩ := y
  have hc' : l[i]? = some c := by simpa [T] using hc
  exact ⟨hw _, cw_turn p (by omega) et_yes (fun _ => he i c H1 (e.trans e1) hc')⟩
theorem rng_map (l : List Nat) (f : Nat → V) : (List.range l.length).map (fun i => f (l.getD i 0)) = l.map f := by
  apply List.ext_getElem
  · simp
  · intro i h1 h2
    have h3 : i < l.length := by simpa using h1
    simp [List.getD_eq_getElem?_getD, List.getElem?_eq_getElem h3]
end
theorem op_in_seqK {X : Cx} {K : PySem.W.Frag} (hK : X.K = K) : OpR X (compareOp .In) (rIn K false) := by
  subst hK
  exact op_in_seq
section
variable {P : Program} {w : World} {K : PySem.W.Frag} {mg : Str → Option Value} {base : Heap} {f : Addr} {fd : FuncData}
/-! is_range -/
abbrev spRange (K : PySem.W.Frag) : Sp := spP fun H vs z => ∃ v, vs = [v] ∧ ((∃ l, v = .str (T l) ∧ l.length ≤ 100 ∧ z = .bl (rngB l)) ∨ (NSt K H v ∧ z = .bl false))
abbrev sRange : Stmt := top 18
abbrev nRange : List Str := ["thing", "sign"]
theorem scRange : FnScope nRange ["thing"] (defScope sRange) := ⟨rfl, rfl, rfl, by decide +kernel, rfl, by decide +kernel, by decide +kernel⟩
theorem ok_range (B : Bl mg) {t1 : Tok} (hM : mg "ADDRESS_LENGTH" = some (.int 10 t1)) (F : FnP K "is_range" sRange f fd) : FnOk P w K mg base CX0 1 f fd ["thing"] (spRange K) := by
  refine F.ok scRange (fun vs H Q E h => ?_) (fun cdv A outer s H vs Q E hr h => ?_)
  · obtain ⟨z, ⟨v, rfl, _⟩, _⟩ := h
    rfl
  · obtain ⟨z, ⟨v, rfl, hv⟩, k⟩ := h
    refine ⟨_, pss_cons (ps_if (PW.pt (pw_or (pt_not (pt_val (pe_callB call_isi (by rfl) B.isi boot_isinstance (pa_cons (pv 0) (pa_cons (pe_bltn (v := .ty "str") (by rfl) B.str PyProof.Rows.boot_str rfl) pa_nil)))))
        (pw_or1 (pt_cmpR op_gt (pe_callB call_len_str (by rfl) B.len PySem.boot_len (pa_cons (pv 0) pa_nil)) (pe_glob (v := .int 10) (by rfl) hM ⟨_, rfl⟩) (nomark _))))) (pss_one (ps_ret pe_bl)) pss_nil)
      (pss_one (ps_ret (pe_callB (cr_all rfl) (by rfl) B.all boot_all (pa_cons (pe_lc (own := [("sign", 1)]) (g := gName 1) (tt := tYes) rfl scRange.nd (pi_str (pv 0)) (blkOk_by (N := nRange) (sc := defScope sRange) (by decide +kernel))
        (fun _ _ _ _ _ => pg_name (i := 1) scRange.nd rfl (Or.inl rfl)) (fun _ _ _ _ _ => pts_nil) (fun _ _ _ _ _ => pe_cmpR (op_in_seqK (K := K) rfl) (pv 1) (pe_tup (pa_cons pe_str (pa_cons pe_str pa_nil))) rfl)) pa_nil)))), ?_⟩
    rcases hv with ⟨l, rfl, hl, rfl⟩ | ⟨hn, rfl⟩
    · have v0 : ∀ {H1 : Hp}, Ev (tVar 0) (start nRange [V.str (T l)]) H1 (.str (T l)) := ev_var rfl
      refine q_when (b := !true || decide ((10 : Int) < (l.length : Int))) (et_or (et_not (et_B (ev_isiS (K := K) v0))) fun _ => et_test (ev_op (r := rI0 fun i j => .bl (decide (j < i))) (ev_lenS v0 (by omega)) ev_c rv_I0)) (fun hb H1 e1 => ?_) (fun hb H1 e1 => ?_)
      · have hb' : (10 : Int) < (l.length : Int) := of_decide_eq_true (by simpa using hb)
        have e : rngB l = false := by
          unfold rngB
          rw [decide_eq_false (by omega), Bool.false_and]
        rw [e] at k
        exact k H1 e1
      · have hb' : ¬ (10 : Int) < (l.length : Int) := of_decide_eq_false (by simpa using hb)
        have e : rngB l = (l.map bitB).all id := by
          unfold rngB
          rw [decide_eq_true (by omega), Bool.true_and, List.all_map]
          rfl
        rw [e] at k
        have hl := el_lcS (H := H1) (σ := start nRange [V.str (T l)]) (ta := tVar 0) (te := tOp (rIn K false) (tVar 1) (tTup (tCons (tC (.str "0")) (tCons (tC (.str "1")) tNil)))) (j := 1) (vs := [1]) (fun i => V.bl (bitB (l.getD i 0))) v0 (by omega) (fun x => rfl) (fun i c H2 e2 hc => by
          have z := ev_inS (K := K) (σ := (wipe (start nRange [V.str (T l)]) [1]).set 1 (some (.str (T [c])))) (H := H2) (ta := tVar 1) (x := .str (T [c])) (ev_var rfl) (es_tup (xs := [.str "0", .str "1"]) (ea_cons ev_c (ea_cons ev_c ea_nil)) (by show 2 ≤ 100000; decide)) rfl rfl
          rw [bit_in] at z
          rw [show l.getD i 0 = c by rw [List.getD_eq_getElem?_getD, hc]; rfl]
          exact z)
        rw [given_yesAll, rng_map l fun c => V.bl (bitB c)] at hl
        refine s_ret (v := .bl ((l.map bitB).all id)) (ev_allL (K := K) ?_) fun H2 e2 => k H2 (e1.trans e2)
        rw [List.map_map]
        exact hl
    · have v0 : ∀ {H1 : Hp}, Ev (tVar 0) (start nRange [v]) H1 v := ev_var rfl
      exact q_when (b := !false || false) (et_or (et_not (et_B (ev_isiN (K := K) v0 hn))) fun z => (by cases z)) (fun _ H1 e1 => k H1 e1) (fun z => (by cases z))
/-! is_address -/
abbrev spAddr (K : PySem.W.Frag) : Sp := spP fun H vs z => ∃ v, vs = [v] ∧ ((∃ l, v = .str (T l) ∧ l.length ≤ 100 ∧ z = .bl (adrB l)) ∨ (NSt K H v ∧ z = .bl false))
abbrev sAddr : Stmt := top 19
theorem scAddr : FnScope ["thing"] ["thing"] (defScope sAddr) := ⟨rfl, rfl, rfl, by decide +kernel, rfl, by decide +kernel, by decide +kernel⟩
theorem ok_addr (B : Bl mg) {t1 : Tok} (hM : mg "ADDRESS_LENGTH" = some (.int 10 t1)) (C : Cal P w K mg base "is_range" ["thing"] 1 (spRange K)) (F : FnP K "is_address" sAddr f fd) : FnOk P w K mg base CX0 2 f fd ["thing"] (spAddr K) := by
  refine F.ok scAddr (fun vs H Q E h => ?_) (fun cdv A outer s H vs Q E hr h => ?_)
  · obtain ⟨z, ⟨v, rfl, _⟩, _⟩ := h
    rfl
  · obtain ⟨z, ⟨v, rfl, hv⟩, k⟩ := h
    refine ⟨_, pss_one (ps_ret (pe_and (pe_cal C hr (by rfl) (pa_cons (pv 0) pa_nil)) (pe_one (pe_cmpR op_eq (pe_callB call_len_str (by rfl) B.len PySem.boot_len (pa_cons (pv 0) pa_nil)) (pe_glob (v := .int 10) (by rfl) hM ⟨_, rfl⟩) (nomark _))))), ?_⟩
    rcases hv with ⟨l, rfl, hl, rfl⟩ | ⟨hn, rfl⟩
    · have v0 : ∀ {H1 : Hp}, Ev (tVar 0) (start ["thing"] [V.str (T l)]) H1 (.str (T l)) := ev_var rfl
      refine s_ret (v := .bl (rngB l && decide (V.int (l.length : Int) = V.int 10))) (ev_andV (ev_call (ea_cons v0 ea_nil) (spP_v fun H1 e => ⟨_, rfl, .inl ⟨l, rfl, hl, rfl⟩⟩)) fun _ => ev_op (r := rEq) (ev_lenS v0 (by omega)) ev_c (rv_eq rfl)) ?_
      have e : decide (V.int (l.length : Int) = V.int 10) = decide (l.length = 10) := by
        refine decide_eq_decide.mpr ⟨fun z => ?_, fun z => by rw [z]; rfl⟩
        injection z with z
        omega
      rw [e]
      exact k
    · have v0 : ∀ {H1 : Hp}, Ev (tVar 0) (start ["thing"] [v]) H1 v := ev_var rfl
      exact s_ret (v := .bl (false && false)) (ev_andV (ev_call (ea_cons v0 ea_nil) (spP_v fun H1 e => ⟨_, rfl, .inr ⟨hn.mono e, rfl⟩⟩)) fun z => (by cases z)) k
/-! beginnings -/
def begs (l : List Nat) : List V := (List.range 11).map fun i => .str (T (l.take (10 - i)))
def spBeg : Sp := fun vs H Q _ => ∃ l : List Nat, vs = [.str (T l)] ∧ l.length ≤ 100 ∧ ∀ H' D, Ex H H' → H D = none → H' D = some (.lst (begs l)) → Q (.ref D) H'
abbrev sBeg : Stmt := top 21
abbrev nBeg : List Str := ["address", "length"]
theorem scBeg : FnScope nBeg ["address"] (defScope sBeg) := ⟨rfl, rfl, rfl, by decide +kernel, rfl, by decide +kernel, by decide +kernel⟩
theorem ok_beg (B : Bl mg) {t1 : Tok} (hM : mg "ADDRESS_LENGTH" = some (.int 10 t1)) (F : FnP K "beginnings" sBeg f fd) : FnOk P w K mg base CX0 1 f fd ["address"] spBeg := by
  refine F.ok scBeg (fun vs H Q E h => ?_) (fun cdv A outer s H vs Q E hr h => ?_)
  · obtain ⟨l, rfl, _⟩ := h
    rfl
  · obtain ⟨l, rfl, hl, k⟩ := h
    refine ⟨_, pss_one (ps_ret (pe_lc (own := [("length", 1)]) (g := gName 1) (tt := tYes) rfl scBeg.nd (pi_range3 (by rfl) B.range (pa_cons (pe_glob (v := .int 10) (by rfl) hM ⟨_, rfl⟩) (pa_cons (pe_un un_neg pe_int) (pa_cons (pe_un un_neg pe_int) pa_nil)))) (blkOk_by (N := nBeg) (sc := defScope sBeg) (by decide +kernel))
        (fun _ _ _ _ _ => pg_name (i := 1) scBeg.nd rfl (Or.inl rfl)) (fun _ _ _ _ _ => pts_nil) (fun _ _ _ _ _ => pe_slice sl_str (pv 0) po_none (po_some (pv 1))))), ?_⟩
    refine ⟨1, rfl, 1, rfl, 10, -1, -1, 11, rfl, RgC.neg (i := 10) (j := -1) (by decide) (by decide) (by decide) (by decide), fun Dl hD => ?_⟩
    refine lc_it (walk_rangeC (lo := 10) (c := -1) (n := 11)) (Cw H (fun _ => true) (fun i => V.str (T (l.take (10 - i)))) Dl) ⟨hD, Ex.new hD, upd_same⟩ (fun _ _ _ _ => trivial) (fun i x H' H2 hi p y => ?_) (fun H' p => ?_)
    · obtain ⟨rfl, rfl⟩ := y
      refine ⟨rfl, cw_turn p (by omega) et_yes (fun _ => ?_)⟩
      have z := ev_slS (H := H) (σ := (wipe (start nBeg [V.str (T l)]) [1]).set 1 (some (.int (10 + (i : Int) * -1)))) (l := l) (te := tVar 0) (tl := tNoPart) (th := tPart (tVar 1)) (lo := none) (hi := some (10 + (i : Int) * -1)) (ev_var rfl) eo_none (eo_some (ev_var rfl)) (by omega)
      rw [show (10 + (i : Int) * -1) = ((10 - i : Nat) : Int) by omega, cut_take] at z
      show Ev _ ((wipe (start nBeg [V.str (T l)]) [1]).set 1 (some (.int (10 + (i : Int) * -1)))) H _
      rw [show (10 + (i : Int) * -1) = ((10 - i : Nat) : Int) by omega]
      exact z
    · refine k H' Dl p.2.1 p.1 ?_
      rw [p.2.2, given_yesAll]
      rfl
end
end Wk

set_option Elab.async false
set_option linter.all false
set_option maxRecDepth 100000
set_option maxHeartbeats 4000000
namespace Wk
open PySem PySem.Spec PyProof.Rows L2 Evl
theorem g_two {i j : Nat} {x y : V} {σ : L2.St} {H : Hp} {k : L2.St → Hp → Prop} (h : k ((σ.set i (some x)).set j (some y)) H) : gCons (gName i) (gCons (gName j) gNil) [x, y] σ H k := ⟨_, _, rfl, ⟨_, _, rfl, ⟨rfl, h⟩⟩⟩
/-! rows as data -/
def nxD : V → PyData
  | .str z => .str z
  | .int i => .int i
  | _ => .none
theorem dq_nx {H : Hp} {v : V} (h : NxV v) : Dq H v (nxD v) := by
  rcases h with rfl | rfl | ⟨i, _, rfl⟩
  · exact .str _
  · exact .str _
  · exact .int _
theorem flat_nx {v : V} (h : NxV v) : SrtT.Flat2 v := by
  rcases h with rfl | rfl | ⟨i, _, rfl⟩
  · exact .inr ⟨_, rfl⟩
  · exact .inr ⟨_, rfl⟩
  · exact .inl ⟨_, rfl⟩
def rowD (e : Row) : PyData := .tuple [.str (T e.1), nxD e.2]
theorem EsT.dq {H : Hp} : ∀ {us : List V} {es : List Row}, EsT H us es → (∀ e ∈ es, NxV e.2) → DqA H us (es.map rowD)
  | _, _, .nil, _ => .nil
  | _, _, .cons h t, k => .cons (.tup h (.cons (.str _) (.cons (dq_nx (k _ List.mem_cons_self)) .nil))) (t.dq fun e he => k e (List.mem_cons_of_mem _ he))
/-- a row: a list or a tuple -/
def RowA (H : Hp) (a : Addr) (xs : List V) : Prop := H a = some (.lst xs) ∨ H a = some (.tup xs)
theorem RowA.mono {H H' : Hp} {a : Addr} {xs : List V} (e : Ex H H') (h : RowA H a xs) : RowA H' a xs := h.imp (e _ _) (e _ _)
def isLi : PyData → Bool
  | .list _ => true
  | _ => false
theorem kit_lst (d : PyData) : kitB (tyN d) "list" = some (isLi d) := by
  cases d with
  | none => exact show kitB "NoneType" "list" = some false by decide +kernel
  | bool b => exact show kitB "bool" "list" = some false by decide +kernel
  | int i => exact show kitB "int" "list" = some false by decide +kernel
  | str z => exact show kitB "str" "list" = some false by decide +kernel
  | list ds => exact show kitB "list" "list" = some true by decide +kernel
  | tuple ds => exact show kitB "tuple" "list" = some false by decide +kernel
  | dict ds => exact show kitB "dict" "list" = some false by decide +kernel
section
variable {K : PySem.W.Frag} {σ : L2.St} {H : Hp} {ta : TE}
theorem ev_isiD2 {v : V} {d : PyData} {n m : String} {b c : Bool} (h : Ev ta σ H v) (hd : Dq H v d) (h1 : kitB (tyN d) n = some b) (h2 : kitB (tyN d) m = some c) :
    Ev (tCB (rIsiT K) (tCons ta (tCons (tTup (tCons (tC (.ty n)) (tCons (tC (.ty m)) tNil))) tNil))) σ H (.bl (b || c)) := fun H1 e Q q =>
  h H1 e _ fun H2 e2 => ⟨by show 2 ≤ sizeLine; decide, fun p hp => ⟨v, p, [.ty n, .ty m], .type (tyN d), [.type n, .type m], b || c, rfl, upd_same, .cons (.ty n) (.cons (.ty m) .nil), (hd.mono ((e.trans e2).trans (Ex.new hp))).ty,
    kitAny_cons (kit_ty h1) (fun hb => kitAny_cons (kit_ty h2) (fun hc => by rw [hb, hc]; exact kitAny_nil) (fun hc => by rw [hc]; simp)) (fun hb => by rw [hb]; rfl), q _ (e2.trans (Ex.new hp))⟩⟩
end
/-! for i, x in enumerate(a list or a tuple); for x in a list or a tuple -/
theorem pi_either {X : Cx} {tg e : Expr} {w1 w2 : TI} (h1 : PI X tg e w1) (h2 : PI X tg e w2) : PI X tg e (fun σ H R => w1 σ H R ∨ w2 σ H R) := ⟨fun pins s σ H R I h => h.elim (h1.run pins s σ H R I) (h2.run pins s σ H R I)⟩
theorem pi_enumK {X : Cx} {K : PySem.W.Frag} (hK : X.K = K) {e : Expr} {ta : TA} {p pos tpos : Pos} {elts : List Expr} {kk : Nat} (hg : Gl X "enumerate") (hm : X.mg "enumerate" = none) (ha : PA X [e] ta) (hs : starEach [e] X.env = [(false, eval e X.env)] := by rfl) :
    PI X (.Tuple elts kk tpos) (.Call (.Name "enumerate" p) [e] [] pos) (fun σ H R => iEnum K ta σ H R ∨ iEnumT K ta σ H R) := by
  subst hK
  exact pi_either (pi_enum hg hm ha hs) (pi_enumT hg hm ha hs)
section
variable {K : PySem.W.Frag} {σ : L2.St} {H : Hp} {g : TG} {tu tz : TS} {D : Ends}
theorem s_forEnR {a : Addr} {xs : List V} {tl : TE} (h : Ev tl σ H (.ref a)) (hx : RowA H a xs) (Pv : Nat → L2.St → Hp → Prop) (h0 : ∀ H1, Ex H H1 → Pv 0 σ H1) (hl : ∀ i σ' H', i ≤ xs.length → Pv i σ' H' → RowA H a xs → (∀ o, H a = some o → H' a = some o))
    (hs : ∀ i y T σ' H', xs[i]? = some y → Pv i σ' H' → H' T = none → g (.ref T) σ' (upd H' T (.tup [.int (i : Nat), y])) fun σ2 H2 => tu { D with nx := Pv (i + 1), ct := Pv (i + 1), bk := D.nx } σ2 H2) (hd : ∀ σ' H', Pv xs.length σ' H' → D.nx σ' H') : tFor (fun σ H R => iEnum K (tCons tl tNil) σ H R ∨ iEnumT K (tCons tl tNil) σ H R) g tu D σ H := by
  rcases hx with hx | hx
  · exact .inl (h H (Ex.refl H) _ fun H1 e => ⟨a, xs, rfl, sq_of (e _ _ hx), for_it (walk_enum (K := K) (a := a) (xs := xs)) Pv (h0 H1 e) (fun i σ' H' hi p => sq_of (hl i σ' H' hi p (.inl hx) _ hx)) (fun i x σ' H2 H3 hi p y => by
      obtain ⟨T, u, y, rfl, hT, rfl, hu, hy⟩ := y
      cases hu
      exact hs i y T σ' H2 hy p hT) hd⟩)
  · exact .inr (h H (Ex.refl H) _ fun H1 e => ⟨a, xs, rfl, st_of (e _ _ hx), for_it (walk_enumT (K := K) (a := a) (xs := xs)) Pv (h0 H1 e) (fun i σ' H' hi p => st_of (hl i σ' H' hi p (.inr hx) _ hx)) (fun i x σ' H2 H3 hi p y => by
      obtain ⟨T, u, y, rfl, hT, rfl, hu, hy⟩ := y
      cases hu
      exact hs i y T σ' H2 hy p hT) hd⟩)
end
theorem val_none {l : List Nat} : ∀ {es : List Row}, l ∉ es.map (·.1) → valV es l = none
  | [], _ => rfl
  | e :: es, h => by
    obtain ⟨a, b⟩ := e
    rw [valV_neg (fun z => h (by rw [← z]; exact List.mem_cons_self))]
    exact val_none fun z => h (List.mem_cons_of_mem _ z)
theorem nd_at {es : List Row} {i : Nat} {e : Row} (nd : (es.map (·.1)).Nodup) (h : es[i]? = some e) : e.1 ∉ (es.take i).map (·.1) := by
  have z : ((es.take (i + 1)).map (·.1)).Nodup := List.Sublist.nodup ((List.take_sublist _ _).map _) nd
  rw [take_snoc h, List.map_append, List.nodup_append] at z
  exact fun hm => z.2.2 _ hm _ (by simp) rfl
section
variable {P : Program} {w : World} {K : PySem.W.Frag} {mg : Str → Option Value} {base : Heap} {f : Addr} {fd : FuncData}
/-! is_row, is_tuple_of -/
abbrev spIsRow : Sp := spP fun H vs z => ∃ (v : V) (d : PyData), vs = [v] ∧ Dq H v d ∧ z = .bl (isLi d || isTu d)
abbrev sIsRow : Stmt := top 12
theorem scIsRow : FnScope ["thing"] ["thing"] (defScope sIsRow) := ⟨rfl, rfl, rfl, by decide +kernel, rfl, by decide +kernel, by decide +kernel⟩
theorem ok_isRow (B : Bl mg) (F : FnP K "is_row" sIsRow f fd) : FnOk P w K mg base CX0 1 f fd ["thing"] spIsRow := by
  refine F.ok scIsRow (fun vs H Q E h => ?_) (fun cdv A outer s H vs Q E hr h => ?_)
  · obtain ⟨z, ⟨v, d, rfl, _⟩, _⟩ := h
    rfl
  · obtain ⟨z, ⟨v, d, rfl, hv, rfl⟩, k⟩ := h
    exact ⟨_, pss_one (ps_ret (pe_callB call_isiT (by rfl) B.isi boot_isinstance (pa_cons (pv 0) (pa_cons (pe_tup (pa_cons (pe_bltn (v := .ty "list") (by rfl) B.list PyProof.Rows.boot_list rfl) (pa_cons (pe_bltn (v := .ty "tuple") (by rfl) B.tuple PyProof.Rows.boot_tuple rfl) pa_nil))) pa_nil)))),
      s_ret (ev_isiD2 (ev_var rfl) hv (kit_lst d) (kit_tup d)) k⟩
abbrev sTupOf : Stmt := top 13
theorem scTupOf : FnScope ["many", "thing"] ["many", "thing"] (defScope sTupOf) := ⟨rfl, rfl, rfl, by decide +kernel, rfl, by decide +kernel, by decide +kernel⟩
abbrev spTupOf2 : Sp := spP fun H vs z => ∃ (m : Int) (v : V) (d : PyData), vs = [.int m, v] ∧ Dq H v d ∧ z = .bl (isTu d && decide (V.int ((itemsT d).length : Int) = V.int m))
theorem ok_tupOf2 (B : Bl mg) (F : FnP K "is_tuple_of" sTupOf f fd) : FnOk P w K mg base CX0 1 f fd ["many", "thing"] spTupOf2 := by
  refine F.ok scTupOf (fun vs H Q E h => ?_) (fun cdv A outer s H vs Q E hr h => ?_)
  · obtain ⟨z, ⟨m, v, d, rfl, _⟩, _⟩ := h
    rfl
  · obtain ⟨z, ⟨m, v, d, rfl, hv, rfl⟩, k⟩ := h
    refine ⟨_, pss_one (ps_ret (pe_and (pe_callB call_isi (by rfl) B.isi boot_isinstance (pa_cons (pv 1) (pa_cons (pe_bltn (v := .ty "tuple") (by rfl) B.tuple PyProof.Rows.boot_tuple rfl) pa_nil)))
      (pe_one (pe_cmpR op_eq (pe_callB call_len_seq (by rfl) B.len PySem.boot_len (pa_cons (pv 1) pa_nil)) (pv 0) (nomark _))))), ?_⟩
    refine s_ret (ev_andV (ev_isi (K := K) (ev_var rfl) hv (kit_tup d)) fun ht => ?_) k
    obtain ⟨t, xs, ds, rfl, rfl, hT, hxs⟩ := tu_inv hv ht
    have v1 : Ev (tVar 1) (start ["many", "thing"] [.int m, .ref t]) H (.ref t) := ev_var rfl
    have v0 : Ev (tVar 0) (start ["many", "thing"] [.int m, .ref t]) H (.int m) := ev_var rfl
    have z := ev_op (r := rEq) (ev_lenT (K := K) v1 (st_of hT)) v0 (rv_eq rfl)
    rw [hxs.length] at z
    exact z
/-! is_end -/
abbrev spEnd (K : PySem.W.Frag) : Sp := spP fun H vs z => ∃ x : Str, vs = [.str x] ∧ z = .bl (inV (.str x) [.str "here", .str "drop"])
abbrev sEnd : Stmt := top 32
theorem scEnd : FnScope ["thing"] ["thing"] (defScope sEnd) := ⟨rfl, rfl, rfl, by decide +kernel, rfl, by decide +kernel, by decide +kernel⟩
theorem ok_end (B : Bl mg) {t1 t2 : Tok} (hM1 : mg "HERE" = some (.str "here" t1)) (hM2 : mg "DROP" = some (.str "drop" t2)) (F : FnP K "is_end" sEnd f fd) : FnOk P w K mg base CX0 1 f fd ["thing"] (spEnd K) := by
  refine F.ok scEnd (fun vs H Q E h => ?_) (fun cdv A outer s H vs Q E hr h => ?_)
  · obtain ⟨z, ⟨x, rfl, _⟩, _⟩ := h
    rfl
  · obtain ⟨z, ⟨x, rfl, rfl⟩, k⟩ := h
    refine ⟨_, pss_one (ps_ret (pe_and (pe_callB call_isi (by rfl) B.isi boot_isinstance (pa_cons (pv 0) (pa_cons (pe_bltn (v := .ty "str") (by rfl) B.str PyProof.Rows.boot_str rfl) pa_nil)))
      (pe_one (pe_cmpR (op_in_seqK (K := K) rfl) (pv 0) (pe_tup (pa_cons (pe_glob (v := .str "here") (by rfl) hM1 ⟨_, rfl⟩) (pa_cons (pe_glob (v := .str "drop") (by rfl) hM2 ⟨_, rfl⟩) pa_nil))) rfl)))), ?_⟩
    have v0 : ∀ {H1 : Hp}, Ev (tVar 0) (start ["thing"] [V.str x]) H1 (.str x) := ev_var rfl
    exact s_ret (v := .bl (true && inV (.str x) [.str "here", .str "drop"])) (ev_andV (ev_isiS (K := K) v0) fun _ => ev_inS (K := K) v0 (es_tup (xs := [.str "here", .str "drop"]) (ea_cons ev_c (ea_cons ev_c ea_nil)) (by show 2 ≤ 100000; decide)) rfl rfl) k
/-! is_entry -/
abbrev spEntry : Sp := spP fun H vs z => ∃ (b : Addr) (e : Row), vs = [.ref b] ∧ H b = some (.tup [.str (T e.1), e.2]) ∧ IsB e.1 ∧ e.1.length ≤ 10 ∧ NxV e.2 ∧ z = .bl true
abbrev sEntry : Stmt := top 31
theorem scEntry : FnScope ["thing"] ["thing"] (defScope sEntry) := ⟨rfl, rfl, rfl, by decide +kernel, rfl, by decide +kernel, by decide +kernel⟩
theorem ok_entry {t1 : Tok} (hM : mg "MOST_ROUTERS" = some (.int 8 t1)) (CT : Cal P w K mg base "is_tuple_of" ["many", "thing"] 1 spTupOf2) (CR : Cal P w K mg base "is_range" ["thing"] 1 (spRange K)) (CO : Cal P w K mg base "is_router" ["size", "thing"] 3 spRouter)
    (CE : Cal P w K mg base "is_end" ["thing"] 1 (spEnd K)) (F : FnP K "is_entry" sEntry f fd) : FnOk P w K mg base CX0 4 f fd ["thing"] spEntry := by
  refine F.ok scEntry (fun vs H Q E h => ?_) (fun cdv A outer s H vs Q E hr h => ?_)
  · obtain ⟨z, ⟨b, e, rfl, _⟩, _⟩ := h
    rfl
  · obtain ⟨z, ⟨b, e, rfl, hb, hB, hl, hn, rfl⟩, k⟩ := h
    refine ⟨_, pss_cons (ps_if (PW.pt (pw_or (pt_not (pt_val (pe_cal CT hr (by rfl) (pa_cons pe_int (pa_cons (pv 0) pa_nil))))) (pw_or1 (pt_not (pt_val (pe_cal CR hr (by rfl) (pa_cons (pe_ix ix_tup (pv 0) pe_int (fun _ _ => rfl)) pa_nil))))))) (pss_one (ps_ret pe_bl)) pss_nil)
      (pss_one (ps_ret (pe_or (pe_cal CO hr (by rfl) (pa_cons (pe_glob (v := .int 8) (by rfl) hM ⟨_, rfl⟩) (pa_cons (pe_ix ix_tup (pv 0) pe_int (fun _ _ => rfl)) pa_nil))) (pe_one (pe_cal CE hr (by rfl) (pa_cons (pe_ix ix_tup (pv 0) pe_int (fun _ _ => rfl)) pa_nil)))))), ?_⟩
    have v0 : ∀ {H1 : Hp}, Ev (tVar 0) (start ["thing"] [V.ref b]) H1 (.ref b) := ev_var rfl
    have i0 : ∀ {H1 : Hp}, Ex H H1 → Ev (tOp (rIxT K) (tVar 0) (tC (.int 0))) (start ["thing"] [V.ref b]) H1 (.str (T e.1)) := fun {H1} e1 => ev_op v0 ev_c (rv_ixT (st_of (e1 _ _ hb)) rfl)
    have i1 : ∀ {H1 : Hp}, Ex H H1 → Ev (tOp (rIxT K) (tVar 0) (tC (.int 1))) (start ["thing"] [V.ref b]) H1 e.2 := fun {H1} e1 => ev_op v0 ev_c (rv_ixT (st_of (e1 _ _ hb)) rfl)
    have hd : Dq H (.ref b) (rowD e) := .tup hb (.cons (.str _) (.cons (dq_nx hn) .nil))
    have c1 : Ev (tCall spTupOf2 [] E0 (tCons (tC (.int 2)) (tCons (tVar 0) tNil))) (start ["thing"] [V.ref b]) H (.bl true) := ev_call (ea_cons ev_c (ea_cons v0 ea_nil)) (spP_v fun H1 e1 => ⟨2, _, rowD e, rfl, hd.mono e1, rfl⟩)
    have c2 : Ev (tCall (spRange K) [] E0 (tCons (tOp (rIxT K) (tVar 0) (tC (.int 0))) tNil)) (start ["thing"] [V.ref b]) H (.bl true) := ev_call (ea_cons (i0 (Ex.refl _)) ea_nil) (spP_v fun H1 e1 => ⟨_, rfl, .inl ⟨e.1, rfl, by omega, by rw [rng_yes hB hl]⟩⟩)
    refine q_when (b := !true || !true) (et_or (et_not (et_B c1)) fun _ => et_not (et_B c2)) (fun z => by cases z) fun _ H1 e1 => ?_
    have c3 : Ev (tCall spRouter [] E0 (tCons (tC (.int 8)) (tCons (tOp (rIxT K) (tVar 0) (tC (.int 1))) tNil))) (start ["thing"] [V.ref b]) H1 (.bl (isR 8 (nxD e.2))) := ev_call (ea_cons ev_c (ea_cons (i1 e1) ea_nil)) (spP_v fun H2 e2 => ⟨8, _, nxD e.2, rfl, dq_nx hn, rfl⟩)
    have hin : ∀ x : Str, e.2 = .str x → inV (.str x) [.str "here", .str "drop"] = true := fun x hx => by
      rcases hn with z | z | ⟨i, _, z⟩
      · rw [hx] at z
        injection z with z
        rw [z]
        decide +kernel
      · rw [hx] at z
        injection z with z
        rw [z]
        decide +kernel
      · rw [hx] at z
        cases z
    have key : ∀ q, isR 8 (nxD e.2) = q → ∃ q2, (q || q2) = true ∧ (q = false → Ev (tCall (spEnd K) [] E0 (tCons (tOp (rIxT K) (tVar 0) (tC (.int 1))) tNil)) (start ["thing"] [V.ref b]) H1 (.bl q2)) := fun q hq => by
      cases q with
      | true => exact ⟨true, rfl, fun z => by cases z⟩
      | false =>
        refine ⟨true, rfl, fun _ => ?_⟩
        have hs : ∃ x : Str, e.2 = .str x := by
          rcases hn with z | z | ⟨i, hi, z⟩
          · exact ⟨_, z⟩
          · exact ⟨_, z⟩
          · exfalso
            rw [z] at hq
            have : isR 8 (nxD (V.int (i : Int))) = true := by
              show (true && (decide ((0 : Int) ≤ (i : Int)) && decide ((i : Int) ≤ 8 - 1))) = true
              rw [decide_eq_true (by omega), decide_eq_true (by omega)]
              rfl
            rw [this] at hq
            cases hq
        obtain ⟨x, hx⟩ := hs
        exact ev_call (ea_cons (i1 e1) ea_nil) (spP_v fun H2 e2 => ⟨x, by rw [hx]; rfl, by rw [hin x hx]⟩)
    obtain ⟨q2, h1, h2⟩ := key _ rfl
    refine s_ret (v := .bl (isR 8 (nxD e.2) || q2)) (ev_orV c3 h2) fun H2 e2 => ?_
    rw [h1]
    exact k H2 (e1.trans e2)
/-! refuse_wrong_entries -/
def spRWE : Sp := fun vs H Q _ => ∃ (a : Addr) (us : List V) (es : List Row), vs = [.ref a] ∧ RowA H a us ∧ EsT H us es ∧ EsOk es 24 ∧ ∀ H', Ex H H' → Q .non H'
abbrev sRWE : Stmt := top 30
abbrev nRWE : List Str := ["entries", "ahead", "index", "item"]
theorem scRWE : FnScope nRWE ["entries"] (defScope sRWE) := ⟨rfl, rfl, rfl, by decide +kernel, rfl, by decide +kernel, by decide +kernel⟩
theorem ok_rwe (B : Bl mg) {t1 : Tok} (hM : mg "MOST_ENTRIES" = some (.int 24 t1)) (CI : Cal P w K mg base "is_row" ["thing"] 1 spIsRow) (CE : Cal P w K mg base "is_entry" ["thing"] 4 spEntry) (F : FnP K "refuse_wrong_entries" sRWE f fd) : FnOk P w K mg base CX0 5 f fd ["entries"] spRWE := by
  refine F.ok scRWE (fun vs H Q E h => ?_) (fun cdv A outer s H vs Q E hr h => ?_)
  · obtain ⟨a, us, es, rfl, _⟩ := h
    rfl
  · obtain ⟨a, us, es, rfl, hrow, hus, hes, k⟩ := h
    have hu : (A.deeper (envOfC "refuse_wrong_entries" (defScope sRWE) s.heap.objs.size f cdv)).units + 1 < cLine := by have := hr.un; omega
    refine ⟨_, pss_cons (ps_if (PW.pt (pw_or (pt_not (pt_val (pe_cal CI hr (by rfl) (pa_cons (pv 0) pa_nil)))) (pw_or1 (pt_cmpR op_gt (pe_callB call_len_seq (by rfl) B.len PySem.boot_len (pa_cons (pv 0) pa_nil)) (pe_glob (v := .int 24) (by rfl) hM ⟨_, rfl⟩) (nomark _))))) (pss_one ps_never) pss_nil)
      (pss_cons (ps_set (i := 1) scRWE.nd rfl (Or.inl rfl) pe_dnewK)
      (pss_one (ps_for (passes_of rfl) rfl (pi_enumK (K := K) rfl (by rfl) B.enum (pa_cons (pv 0) pa_nil)) (pg_tup rfl (pgs_cons (pg_name (i := 2) scRWE.nd rfl (.inl rfl)) (pgs_cons (pg_name (i := 3) scRWE.nd rfl (.inl rfl)) pgs_nil)))
        (pss_cons (ps_if (PW.pt (pw_or (pt_not (pt_val (pe_cal CE hr (by rfl) (pa_cons (pv 3) pa_nil)))) (pw_or1 (pt_cmp (pc_din hu (pe_ix ix_tup (pv 3) pe_int (fun _ _ => rfl)) (pv 1)))))) (pss_one ps_never) pss_nil)
        (pss_one (ps_asg pe_bl (pg_sub (pv 1) (pe_ix ix_tup (pv 3) pe_int (fun _ _ => rfl)) (set_dict hu)))))))), ?_⟩
    have hul := hus.length
    have hel := hes.len
    have hnx : ∀ e ∈ es, NxV e.2 := fun e he => (hes.it e he).2.2
    have v0 : ∀ {H1 : Hp}, Ev (tVar 0) (start nRWE [V.ref a]) H1 (.ref a) := ev_var rfl
    have c1 : Ev (tCall spIsRow [] E0 (tCons (tVar 0) tNil)) (start nRWE [V.ref a]) H (.bl true) := by
      rcases hrow with hx | hx
      · exact ev_call (ea_cons v0 ea_nil) (spP_v fun H1 e1 => ⟨_, .list (es.map rowD), rfl, .lst (e1 _ _ hx) ((hus.dq hnx).mono e1), rfl⟩)
      · exact ev_call (ea_cons v0 ea_nil) (spP_v fun H1 e1 => ⟨_, .tuple (es.map rowD), rfl, .tup (e1 _ _ hx) ((hus.dq hnx).mono e1), rfl⟩)
    have c2 : Ev (tCB (rLenS K) (tCons (tVar 0) tNil)) (start nRWE [V.ref a]) H (.int (us.length : Int)) := by
      rcases hrow with hx | hx
      · exact ev_len v0 (sq_of hx)
      · exact ev_lenT v0 (st_of hx)
    refine q_when (b := !true || decide ((24 : Int) < (us.length : Int))) (et_or (et_not (et_B c1)) fun _ => et_test (ev_op (r := rI0 fun i j => .bl (decide (j < i))) c2 ev_c rv_I0)) (fun hb H1 e1 => ?_) fun _ H1 e1 => ?_
    · have hb' : (24 : Int) < (us.length : Int) := of_decide_eq_true (by simpa using hb)
      omega
    intro D hD
    have eD := Ex.new (o := .dK []) hD
    have hD1 : (upd H1 D (.dK [])) D = some (.dK []) := upd_same
    have nHD := fresh_back e1 hD
    refine g_name ?_
    generalize hH2 : upd H1 D (.dK []) = H2 at *
    have e2 := e1.trans eD
    refine s_forEnR (K := K) (H := H2) (xs := us) (ev_var rfl) (hrow.mono e2) (fun i σ' H' => ∃ o1 o2 kvs, σ' = [some (.ref a), some (.ref D), o1, o2] ∧ Ex H H' ∧ H' D = some (.dK kvs) ∧ kvs.length ≤ i ∧ ∀ l, valV kvs (.inr (T l)) ≠ none → l ∈ (es.take i).map (·.1)) (fun H3 e3 => ⟨_, _, [], rfl, e2.trans e3, e3 _ _ hD1, Nat.le_refl _, fun l hl => absurd rfl hl⟩) (fun i σ' H' _ hp hr o ho => ?_) (fun i y T0 σ' H' hy hp hT0 => ?_) (fun σ' H' hp => ?_)
    · obtain ⟨_, _, _, _, e3, _⟩ := hp
      rcases hrow with hx | hx
      · rw [e2 _ _ hx] at ho; rw [← ho]; exact e3 _ _ hx
      · rw [e2 _ _ hx] at ho; rw [← ho]; exact e3 _ _ hx
    · obtain ⟨o1, o2, kvs, rfl, e3, hDk, hkl, hks⟩ := hp
      have eT := Ex.new (o := .tup [.int (i : Nat), y]) hT0
      have hTT : (upd H' T0 (.tup [.int (i : Nat), y])) T0 = some (.tup [.int (i : Nat), y]) := upd_same
      generalize upd H' T0 (.tup [.int (i : Nat), y]) = H4 at *
      have e4 := e3.trans eT
      obtain ⟨b, e, rfl, he, hb⟩ := hus.at_ hy
      obtain ⟨hB, hl, hn⟩ := hes.it e (List.mem_of_getElem? he)
      refine ⟨T0, _, rfl, st_of hTT, rfl, g_two ?_⟩
      change tSeq _ _ _ [some (.ref a), some (.ref D), some (.int (i : Nat)), some (.ref b)] H4
      have hDk4 := eT _ _ hDk
      have hnot := nd_at hes.nd he
      have hval : valV kvs (.inr (T e.1)) = none := by
        cases hv : valV kvs (.inr (T e.1)) with
        | none => rfl
        | some v => exact absurd (hks e.1 (by rw [hv]; exact fun z => by cases z)) hnot
      have i0 : ∀ {H1 : Hp}, Ex H H1 → Ev (tOp (rIxT K) (tVar 3) (tC (.int 0))) [some (.ref a), some (.ref D), some (.int (i : Nat)), some (.ref b)] H1 (.str (T e.1)) := fun {H1} e1 => ev_op (ev_var rfl) ev_c (rv_ixT (st_of (e1 _ _ hb)) rfl)
      have d1 : Ev (tCall spEntry [] E0 (tCons (tVar 3) tNil)) [some (.ref a), some (.ref D), some (.int (i : Nat)), some (.ref b)] H4 (.bl true) := ev_call (ea_cons (ev_var rfl) ea_nil) (spP_v fun H5 e5 => ⟨b, e, rfl, e5 _ _ (e4 _ _ hb), hB, hl, hn, rfl⟩)
      have d2 : Ev (tDIn (tOp (rIxT K) (tVar 3) (tC (.int 0))) (tVar 1)) [some (.ref a), some (.ref D), some (.int (i : Nat)), some (.ref b)] H4 (.bl false) := fun H5 e5 Q q => i0 e4 H5 e5 _ fun H6 e6 => ⟨.ref D, rfl, D, none, rfl, .inl ⟨kvs, .inr (T e.1), .inl (e6 _ _ (e5 _ _ hDk4)), rfl, hval.symm⟩, q H6 e6⟩
      refine q_when (b := !true || false) (et_or (et_not (et_B d1)) fun _ => et_B d2) (fun z => by cases z) fun _ H5 e5 => ?_
      refine ⟨.ref D, rfl, i0 (e4.trans e5) H5 (Ex.refl _) _ fun H6 e6 => ⟨D, _, rfl, DPut.k (k := .inr (T e.1)) (e6 _ _ (e5 _ _ hDk4)) (sz_lt (by have := (List.getElem?_eq_some_iff.mp hy).1; omega)), ?_⟩⟩
      refine ⟨_, _, _, rfl, Ex.mut ((e4.trans e5).trans e6) nHD, upd_same, by have := length_putK kvs (.inr (T e.1)) (V.bl true); omega, fun l hl => ?_⟩
      rw [take_snoc he, List.map_append]
      rw [valV_put] at hl
      by_cases z : (.inr (T l) : L2.Key) = .inr (T e.1)
      · have z2 : l = e.1 := T_inj (by injection z)
        rw [z2]
        exact List.mem_append_right _ (by simp)
      · rw [if_neg z] at hl
        exact List.mem_append_left _ (hks l hl)
    · obtain ⟨_, _, _, rfl, e3, _⟩ := hp
      exact k H' e3
end
end Wk

set_option Elab.async false
set_option linter.all false
set_option maxRecDepth 100000
set_option maxHeartbeats 4000000
namespace Wk
open PySem PySem.Spec PyProof.Rows L2 Evl
abbrev FnM (K : PySem.W.Frag) (x q : Str) (st : Stmt) (f : Addr) (fd : FuncData) : Prop := FunD K x q (defArgs st) (defBody st) (defScope st) [] [] f fd
def Of1 (p : Addr) (H H' : Hp) : Prop := ∀ b o, b ≠ p → H b = some o → H' b = some o
theorem Of1.trans {p : Addr} {H H1 H2 : Hp} (a : Of1 p H H1) (b : Of1 p H1 H2) : Of1 p H H2 := fun c o h1 h => b c o h1 (a c o h1 h)
theorem Of1.ex {p : Addr} {H H1 : Hp} (e : Ex H H1) : Of1 p H H1 := fun c o _ h => e c o h
theorem Of1.upd (x : Addr) (H : Hp) (o : HO) : Of1 x H (L2.upd H x o) := fun b u hb h => by rw [upd_ne hb]; exact h
theorem lk_putF {f g : Str} {v : V} {fs : List (Str × V)} (h : ¬ g = f) : (putF f v fs).lookup g = fs.lookup g := by rw [lookup_putF, if_neg h]
theorem lk_putS {f : Str} {v : V} {fs : List (Str × V)} : (putF f v fs).lookup f = some v := by rw [lookup_putF, if_pos rfl]
theorem len_putF (f : Str) (v : V) : ∀ fs : List (Str × V), (putF f v fs).length ≤ fs.length + 1
  | [] => Nat.le_refl _
  | (g, x) :: r => by
    have ih := len_putF f v r
    unfold putF
    split
    · simp
    · simp only [List.length_cons]; omega
/-! for x in a list or a tuple -/
def iRowK (K : PySem.W.Frag) (tl : TE) : TI := fun σ H R => tl σ H fun x H1 => ∃ a, x = .ref a ∧ (((∃ xs, SqL K H1 a xs) ∧ R (Itl K a) H1) ∨ ((∃ xs, SqT K H1 a xs) ∧ R (Itt K a) H1))
theorem pi_rowK {X : Cx} {K : PySem.W.Frag} (hK : X.K = K) {tg l : Expr} {tl : TE} (hl : PE X l tl) : PI X tg l (iRowK K tl) := by
  subst hK
  refine ⟨fun pins s σ H R I h => ?_⟩
  refine thn (hl.run pins s σ H _ I h) fun v s1 ⟨x, H1, I1, r1, q1⟩ => ?_
  obtain ⟨a, e, q1⟩ := q1
  subst e
  cases r1
  rcases q1 with ⟨⟨xs, hq⟩, q⟩ | ⟨⟨xs, hq⟩, q⟩
  · obtain ⟨its, rv, p, hz⟩ := I1.list hq
    refine wpAny_pyIter_list p.isList ?_
    refine ⟨s1.heap.objs.size, [s1.heap.objs.size], _, _, H1, rfl, I1.kept (t' := s1.toks) fun b o e => Heap.get?_push_of_some _ e, turn_list a _, ⟨_, Heap.get?_push_size _ rfl, rfl, rfl⟩, fun b hb => ?_, q⟩
    have e : b = s1.heap.objs.size := by simpa using hb
    subst e
    exact I1.fpOk (Nat.le_refl _) (I1.hok.fresh (Nat.le_refl _))
  · obtain ⟨its, rv, p, hz⟩ := I1.tuple hq
    refine wpAny_pyIter_tuple (show s1.heap.IsTuple a its.toArray from p) ?_
    refine ⟨s1.heap.objs.size, [s1.heap.objs.size], _, _, H1, rfl, I1.kept (t' := s1.toks) fun b o e => Heap.get?_push_of_some _ e, turn_tuple a _, ⟨_, Heap.get?_push_size _ rfl, rfl, rfl⟩, fun b hb => ?_, q⟩
    have e : b = s1.heap.objs.size := by simpa using hb
    subst e
    exact I1.fpOk (Nat.le_refl _) (I1.hok.fresh (Nat.le_refl _))
/-- {k: v for k, v in rows} -/
theorem dc_rows {K : PySem.W.Frag} {J : It} {us : List V} {es : List Row} {Gd : Hp → Prop} {i1 i2 : Nat} {vs : List Nat} {σ : L2.St} {H : Hp} {D : Addr} {Qd : Hp → Prop} (w : Walk J us.length Gd (fun i H x H' => H' = H ∧ us[i]? = some x)) (hD : H D = none) (hus : EsT H us es) (nd : (es.map (·.1)).Nodup) (hn : us.length ≤ 1000)
    (hG : ∀ H', Ex H H' → Gd H') (hw : ∀ x y, wipe (((wipe σ vs).set i1 (some x)).set i2 (some y)) vs = wipe σ vs) (h1 : ∀ x y, (((wipe σ vs).set i1 (some x)).set i2 (some y))[i1]? = some (some x)) (h2 : ∀ x y, (((wipe σ vs).set i1 (some x)).set i2 (some y))[i2]? = some (some y))
    (hq : ∀ H', Ex H H' → H' D = some (.dK (kvOf es)) → Qd H') :
    ∃ W : Nat → Nat → Hp → Prop, (∃ m, W 0 m (upd H D (.dK []))) ∧ ∀ i m H, W i m H →
      (J.stop i H ∧ Qd H) ∨ (J.go i H ∧ ∃ Nx : Hp → Prop, (∀ H', Nx H' → ∃ m', m' < m ∧ W (i + 1) m' H') ∧ ∀ x H', J.yld i H x H' → gTup K 2 (gCons (gName i1) (gCons (gName i2) gNil)) x (wipe σ vs) H' fun σ2 H2 => wipe σ2 vs = wipe σ vs ∧ tYes σ2 H2 fun b H3 =>
        if b = true then tVar i1 σ2 H3 fun y H4 => tVar i2 σ2 H4 fun z H5 => ∃ kvs k, y = kV k ∧ H5 D = some (.dK kvs) ∧ kvs.length < sizeLine ∧ Nx (upd H5 D (.dK (putK kvs k z))) else Nx H3) := by
  refine ⟨fun i m H' => m = us.length - i ∧ i ≤ us.length ∧ Ex H H' ∧ H' D = some (.dK (kvOf (es.take i))), ⟨us.length, by simp, Nat.zero_le _, Ex.new hD, by rw [List.take_zero]; exact upd_same⟩, ?_⟩
  rintro i m H1 ⟨rfl, hi, e1, d1⟩
  by_cases lt : i < us.length
  · refine .inr ⟨w.goes i H1 lt (hG H1 e1), fun H' => Ex H H' ∧ H' D = some (.dK (kvOf (es.take (i + 1)))), fun H' p => ⟨us.length - (i + 1), by omega, rfl, lt, p⟩, fun x H' y => ?_⟩
    obtain ⟨rfl, hx⟩ := w.yields i H1 x H' lt (hG H1 e1) y
    obtain ⟨b, e, rfl, he, hb⟩ := hus.at_ hx
    refine ⟨b, _, rfl, st_of (e1 _ _ hb), rfl, g_two ⟨hw _ _, ?_⟩⟩
    refine et_yes H' (Ex.refl _) _ fun H3 e3 => ?_
    rw [if_pos rfl]
    refine ⟨_, h1 _ _, _, h2 _ _, kvOf (es.take i), .inr (T e.1), rfl, e3 _ _ d1, ?_, Ex.mut (e1.trans e3) hD, ?_⟩
    · rw [kv_len, List.length_take]
      exact sz_lt (by omega)
    · rw [upd_same, kv_put, putK_new e.2 (val_none (nd_at nd he)), take_snoc he]
  · have e : i = us.length := by omega
    subst e
    rw [List.take_of_length_le (by rw [hus.length]; omega)] at d1
    exact .inl ⟨w.stops H1 (hG H1 e1), hq H1 e1 d1⟩
theorem EsT.of1 {x C dx : Addr} {fs : List (Str × V)} {H H' : Hp} (o : Of1 x H H') (hx : H x = some (.ins C dx fs)) : ∀ {us : List V} {es : List Row}, EsT H us es → EsT H' us es
  | _, _, .nil => .nil
  | _, _, .cons h t => .cons (o _ _ (fun z => by rw [z, hx] at h; cases h) h) (t.of1 o hx)
theorem RowA.of1 {x C dx : Addr} {fs : List (Str × V)} {H H' : Hp} {l : Addr} {us : List V} (o : Of1 x H H') (hx : H x = some (.ins C dx fs)) (h : RowA H l us) : RowA H' l us :=
  h.imp (fun h => o _ _ (fun z => by rw [z, hx] at h; cases h) h) (fun h => o _ _ (fun z => by rw [z, hx] at h; cases h) h)
/-! tables -/
structure TX (K : PySem.W.Frag) (CT : Addr) : Prop where
  ic : C8.InsC K CT
  nE : NoAttr K CT "entries"
  nN : NoAttr K CT "_nexts"
  ks : PySem.W.kitOne K (.ref CT) (.type "str") = some false
/-- a table of the rows es -/
def Tb (CT : Addr) (H : Hp) (x : Addr) (es : List Row) : Prop := ∃ dx fs te nd us' es', H x = some (.ins CT dx fs) ∧ fs.lookup ("entries" : Str) = some (.ref te) ∧ fs.lookup ("_nexts" : Str) = some (.ref nd) ∧ fs.lookup ("onward" : Str) = none ∧
  H te = some (.tup us') ∧ EsT H us' es' ∧ SrR es' es ∧ H nd = some (.dK (kvOf es))
theorem Tb.mono {CT : Addr} {H H' : Hp} {x : Addr} {es : List Row} (e : Ex H H') (h : Tb CT H x es) : Tb CT H' x es := by
  obtain ⟨dx, fs, te, nd, us', es', h1, h2, h3, h4, h5, h6, h7, h8⟩ := h
  exact ⟨dx, fs, te, nd, us', es', e _ _ h1, h2, h3, h4, e _ _ h5, h6.mono e, h7, e _ _ h8⟩
section
variable {P : Program} {w : World} {K : PySem.W.Frag} {mg : Str → Option Value} {base : Heap} {f : Addr} {fd : FuncData} {CT : Addr}
def spInit (CT : Addr) : Sp := fun vs H Q _ => ∃ (x l dx : Addr) (us : List V) (es : List Row), vs = [.ref x, .ref l] ∧ H x = some (.ins CT dx []) ∧ RowA H l us ∧ EsT H us es ∧ EsOk es 24 ∧ ∀ H', Of1 x H H' → Tb CT H' x es → Q .non H'
abbrev sInit : Stmt := inClass (top 29) 0
abbrev nInit : List Str := ["self", "entries", "part", "onto"]
theorem scInit : FnScope nInit ["self", "entries"] (defScope sInit) := ⟨rfl, rfl, rfl, by decide +kernel, rfl, by decide +kernel, by decide +kernel⟩
theorem ok_init (B : Bl mg) (hso : mg "sorted" = none) (X : TX K CT) (CW : Cal P w K mg base "refuse_wrong_entries" ["entries"] 5 spRWE) (F : FnM K "__init__" "Table.__init__" sInit f fd) : FnOk P w K mg base CX0 6 f fd ["self", "entries"] (spInit CT) := by
  refine F.ok scInit (fun vs H Q E h => ?_) (fun cdv A outer s H vs Q E hr h => ?_)
  · obtain ⟨x, l, dx, us, es, rfl, _⟩ := h
    rfl
  · obtain ⟨x, l, dx, us, es, rfl, hx, hrow, hus, hes, k⟩ := h
    refine ⟨_, pss_cons (ps_expr (pe_cal CW hr (by rfl) (pa_cons (pv 1) pa_nil)))
      (pss_cons (ps_fld (pv 0) (pe_callTy (call_tupleK (K := K) rfl) (by rfl) B.tuple PyProof.Rows.boot_tuple (pa_cons (pe_callB (cr_sortedR (K := K) rfl) (by rfl) hso PyProof.Rows.boot_sorted (pa_cons (pv 1) pa_nil)) pa_nil)) rfl)
      (pss_one (ps_fld (pv 0) (pe_dc (own := [("part", 2), ("onto", 3)]) (g := gTup K 2 (gCons (gName 2) (gCons (gName 3) gNil))) (tt := tYes) (tk := tVar 2) (tv := tVar 3) rfl scInit.nd (pi_rowK (K := K) rfl (pv 1)) (blkOk_by (N := nInit) (sc := defScope sInit) (by decide +kernel))
        (fun _ _ _ _ _ => pg_tup rfl (pgs_cons (pg_name (i := 2) scInit.nd rfl (.inl rfl)) (pgs_cons (pg_name (i := 3) scInit.nd rfl (.inl rfl)) pgs_nil))) (fun _ _ _ _ _ => pts_nil) (fun _ _ _ _ _ => pv 2) (fun _ _ _ _ _ => pv 3)) rfl))), ?_⟩
    have hul := hus.length
    have hel := hes.len
    refine ⟨.ref l, rfl, l, us, es, rfl, hrow, hus, hes, fun H1 e1 => ?_⟩
    have hrow1 := hrow.mono e1
    have hus1 := hus.mono e1
    have hx1 := e1 _ _ hx
    refine ⟨.ref l, rfl, l, us, es, rfl, hrow1.imp sq_of st_of, hus1, hes.nd, fun e he => flat_nx (hes.it e he).2.2, fun ys es' p hsr hys hp => ?_⟩
    have e2 := Ex.new (o := .lst ys) hp
    have hpp : (upd H1 p (.lst ys)) p = some (.lst ys) := upd_same
    generalize upd H1 p (.lst ys) = H2 at *
    refine ⟨p, ys, rfl, .inl ⟨sq_of hpp, fun t ht => ?_⟩⟩
    have e3 := Ex.new (o := .tup ys) ht
    have htt : (upd H2 t (.tup ys)) t = some (.tup ys) := upd_same
    generalize upd H2 t (.tup ys) = H3 at *
    have hx3 := e3 _ _ (e2 _ _ hx1)
    refine ⟨.ref x, rfl, x, CT, dx, [], rfl, hx3, X.ic.cl, X.nE, by decide, ?_⟩
    have ln1 : (putF "entries" (.ref t) ([] : List (Str × V))).length ≤ 1 := len_putF _ _ _
    have lkE : (putF "entries" (.ref t) ([] : List (Str × V))).lookup ("entries" : Str) = some (.ref t) := lk_putS
    have lkO : (putF "entries" (.ref t) ([] : List (Str × V))).lookup ("onward" : Str) = none := by rw [lk_putF (by decide +kernel)]; rfl
    generalize putF "entries" (.ref t) ([] : List (Str × V)) = fs1 at *
    have o4 := Of1.upd x H3 (.ins CT dx fs1)
    have hx4 : (upd H3 x (.ins CT dx fs1)) x = some (.ins CT dx fs1) := upd_same
    have hus4 := (hus1.mono (e2.trans e3)).of1 o4 hx3
    have hys4 := (hys.mono (e2.trans e3)).of1 o4 hx3
    have hrow4 := (hrow1.mono (e2.trans e3)).of1 o4 hx3
    have ht4 := o4 t _ (fun z => by rw [z, hx3] at htt; cases htt) htt
    have o04 : Of1 x H (upd H3 x (.ins CT dx fs1)) := (Of1.ex ((e1.trans e2).trans e3)).trans o4
    generalize upd H3 x (.ins CT dx fs1) = H4 at *
    have fin : ∀ D, H4 D = none → ∀ H5, Ex H4 H5 → H5 D = some (.dK (kvOf es)) → (sFld K (tVar 0) (fun σ H Q => Q (.ref D) H) "_nexts") { nx := fun _ H' => Q .non H', rt := Q, bk := fun _ _ => False, ct := fun _ _ => False } [some (.ref x), some (.ref l), none, none] H5 := fun D hD H5 e5 hD5 => by
      have hx5 := e5 _ _ hx4
      refine ⟨.ref x, rfl, x, CT, dx, fs1, rfl, hx5, X.ic.cl, X.nN, Nat.lt_of_le_of_lt ln1 (by decide), ?_⟩
      have o5 := Of1.upd x H5 (.ins CT dx (putF "_nexts" (.ref D) fs1))
      refine k _ ((o04.trans (Of1.ex e5)).trans o5) ⟨dx, _, t, D, ys, es', upd_same, ?_, lk_putS, ?_, ?_, (hys4.mono e5).of1 o5 hx5, hsr, ?_⟩
      · rw [lk_putF (by decide +kernel)]; exact lkE
      · rw [lk_putF (by decide +kernel)]; exact lkO
      · exact o5 t _ (fun z => by have := e5 _ _ ht4; rw [z, hx5] at this; cases this) (e5 _ _ ht4)
      · exact o5 D _ (fun z => by rw [z, hx5] at hD5; cases hD5) hD5
    rcases hrow4 with hl4 | hl4
    · refine ⟨.ref l, rfl, l, rfl, .inl ⟨⟨us, sq_of hl4⟩, fun D hD => ?_⟩⟩
      exact dc_rows (K := K) (walk_list (K := K) (a := l) (xs := us)) hD hus4 hes.nd (by omega) (fun H' e => sq_of (e _ _ hl4)) (fun _ _ => rfl) (fun _ _ => rfl) (fun _ _ => rfl) fun H5 e5 hD5 => fin D hD H5 e5 hD5
    · refine ⟨.ref l, rfl, l, rfl, .inr ⟨⟨us, st_of hl4⟩, fun D hD => ?_⟩⟩
      exact dc_rows (K := K) (walk_tup (K := K) (a := l) (xs := us)) hD hus4 hes.nd (by omega) (fun H' e => st_of (e _ _ hl4)) (fun _ _ => rfl) (fun _ _ => rfl) (fun _ _ => rfl) fun H5 e5 hD5 => fin D hD H5 e5 hD5
/-! Table.onward -/
/-- the way of the longest beginning that the table knows -/
def LongIs (es : List Row) (l : List Nat) (v : V) : Prop := (∃ i, i ≤ 10 ∧ valV es (l.take (10 - i)) = some v ∧ ∀ j, j < i → valV es (l.take (10 - j)) = none) ∨ (v = .str "drop" ∧ ∀ j, j ≤ 10 → valV es (l.take (10 - j)) = none)
def spOnw (K : PySem.W.Frag) (CT CB : Addr) : Sp := fun vs H Q E => ∃ (x : Addr) (v : V) (es : List Row), vs = [.ref x, v] ∧ Tb CT H x es ∧
  ((∃ l, v = .str (T l) ∧ l.length ≤ 100 ∧ adrB l = true ∧ ∀ H' z, Ex H H' → LongIs es l z → Q z H') ∨
   (((∃ l, v = .str (T l) ∧ l.length ≤ 100 ∧ adrB l = false) ∨ NSt K H v) ∧ ∀ H', Ex H H' → E (.ref CB) none H'))
abbrev sOnw : Stmt := inClass (top 29) 2
abbrev nOnw : List Str := ["self", "address", "part"]
theorem scOnw : FnScope nOnw ["self", "address"] (defScope sOnw) := ⟨rfl, rfl, rfl, by decide +kernel, rfl, by decide +kernel, by decide +kernel⟩
theorem ok_onw {CB : Addr} {t1 : Tok} (hM : mg "DROP" = some (.str "drop" t1)) (X : TX K CT) (TB : ErrN K mg "BadAddress" CB) (CA : Cal P w K mg base "is_address" ["thing"] 2 (spAddr K)) (CG : Cal P w K mg base "beginnings" ["address"] 1 spBeg) (F : FnM K "onward" "Table.onward" sOnw f fd) : FnOk P w K mg base (L2.CX P w) 3 f fd ["self", "address"] (spOnw K CT CB) := by
  refine F.ok scOnw (fun vs H Q E h => ?_) (fun cdv A outer s H vs Q E hr h => ?_)
  · obtain ⟨x, v, es, rfl, _⟩ := h
    rfl
  · obtain ⟨x, v, es, rfl, hT, hv⟩ := h
    have hu : (A.deeper (envOfC "Table.onward" (defScope sOnw) s.heap.objs.size f cdv)).units + 1 < cLine := by have := hr.un; omega
    refine ⟨_, pss_cons (ps_if (pt_not (pt_val (pe_cal CA hr (by rfl) (pa_cons (pv 1) pa_nil)))) (pss_one (ps_raise rfl (takes_of rfl rfl rfl rfl) (pmk_errN rfl rfl TB (by rfl)))) pss_nil)
      (pss_cons (ps_for (passes_of rfl) rfl (pi_list (pe_cal CG hr (by rfl) (pa_cons (pv 1) pa_nil))) (pg_name (i := 2) scOnw.nd rfl (Or.inl rfl))
        (pss_one (ps_if (pt_cmp (pc_din hu (pv 2) (pe_fld (pv 0) rfl))) (pss_one (ps_ret (pe_dget hu (pe_fld (pv 0) rfl) (pv 2) (fun _ _ => rfl)))) pss_nil)))
      (pss_one (ps_ret (pe_glob (v := .str "drop") (by rfl) hM ⟨_, rfl⟩)))), ?_⟩
    obtain ⟨dx, fs, te, nd, us', es', hx, lE, lN, lO, hte, hus, hsr, hnd⟩ := hT
    have v1 : ∀ {H1 : Hp}, Ev (tVar 1) (start nOnw [V.ref x, v]) H1 v := ev_var rfl
    rcases hv with ⟨l, rfl, hl, had, k⟩ | ⟨hb, k⟩
    · have c1 : Ev (tCall (spAddr K) [] E0 (tCons (tVar 1) tNil)) (start nOnw [V.ref x, .str (T l)]) H (.bl true) := ev_call (ea_cons v1 ea_nil) (spP_v fun H1 e1 => ⟨_, rfl, .inl ⟨l, rfl, hl, by rw [had]⟩⟩)
      refine q_when (b := !true) (et_not (et_B c1)) (fun z => by cases z) fun _ H1 e1 => ?_
      have c2 : EvL (tCall spBeg [] E0 (tCons (tVar 1) tNil)) (start nOnw [V.ref x, .str (T l)]) H1 (begs l) := fun H2 e2 Q2 q2 => ⟨_, rfl, l, rfl, hl, fun H3 D e3 hD hD3 => q2 D H3 hD e3 hD3⟩
      have hbl : (begs l).length = 11 := by unfold begs; simp
      refine q_forNLn (K := K) c2 (fun D i σ' H' => ∃ o, σ' = [some (.ref x), some (.str (T l)), o] ∧ Ex H H' ∧ H' D = some (.lst (begs l)) ∧ ∀ j, j < i → valV es (l.take (10 - j)) = none) (fun D H2 hD e2 hD2 => ⟨_, rfl, e1.trans e2, hD2, fun j hj => absurd hj (Nat.not_lt_zero _)⟩) (fun D i σ' H' _ hp => ?_) (fun D i y σ' H' hy hp => ?_) (fun D σ' H' hp => ?_)
      · obtain ⟨_, _, _, hD, _⟩ := hp
        exact sq_of hD
      · obtain ⟨o, rfl, e2, hD2, hno⟩ := hp
        have hi : i < 11 := by rw [← hbl]; exact (List.getElem?_eq_some_iff.mp hy).1
        have hyv : y = .str (T (l.take (10 - i))) := by
          unfold begs at hy
          rw [List.getElem?_map, List.getElem?_range hi] at hy
          exact (Option.some.inj hy).symm
        subst hyv
        change tIfS _ _ _ _ [some (.ref x), some (.str (T l)), some (.str (T (l.take (10 - i))))] H'
        have fN : ∀ {H3 : Hp}, Ex H H3 → Ev (tFld K (tVar 0) "_nexts") [some (.ref x), some (.str (T l)), some (.str (T (l.take (10 - i))))] H3 (.ref nd) := fun {H3} e3 H4 e4 Q4 q4 => ⟨.ref x, rfl, x, CT, dx, _, _, rfl, e4 _ _ (e3 _ _ hx), X.ic.cl, X.nN, lN, q4 H4 (Ex.refl H4)⟩
        have d1 : Ev (tDIn (tVar 2) (tFld K (tVar 0) "_nexts")) [some (.ref x), some (.str (T l)), some (.str (T (l.take (10 - i))))] H' (.bl (valV es (l.take (10 - i))).isSome) := fun H5 e5 Q5 q5 => ⟨_, rfl, fN e2 H5 e5 _ fun H6 e6 => ⟨nd, _, rfl, .inl ⟨kvOf es, .inr (T (l.take (10 - i))), .inl (e6 _ _ (e5 _ _ (e2 _ _ hnd))), rfl, rfl⟩, by rw [kv_val]; exact q5 H6 e6⟩⟩
        refine s_when (b := (valV es (l.take (10 - i))).isSome) (et_B d1) (fun hs H5 e5 => ?_) fun hs H5 e5 => ?_
        · obtain ⟨z, hz⟩ := Option.isSome_iff_exists.mp hs
          have g1 : Ev (tDGet (tFld K (tVar 0) "_nexts") (tVar 2)) [some (.ref x), some (.str (T l)), some (.str (T (l.take (10 - i))))] H5 z := fun H6 e6 Q6 q6 => fN (e2.trans e5) H6 e6 _ fun H7 e7 => ⟨_, rfl, nd, z, rfl, .inl ⟨kvOf es, .inr (T (l.take (10 - i))), .inl (e7 _ _ (e6 _ _ (e5 _ _ (e2 _ _ hnd)))), rfl, by rw [kv_val]; exact hz.symm⟩, q6 H7 e7⟩
          exact s_ret g1 fun H6 e6 => k H6 z ((e2.trans e5).trans e6) (.inl ⟨i, by omega, hz, hno⟩)
        · refine ⟨_, rfl, e2.trans e5, e5 _ _ hD2, fun j hj => ?_⟩
          by_cases c : j = i
          · rw [c]
            cases hz : valV es (l.take (10 - i)) with
            | none => rfl
            | some z => rw [hz] at hs; cases hs
          · exact hno j (by omega)
      · obtain ⟨o, rfl, e2, hD2, hno⟩ := hp
        rw [hbl] at hno
        exact k H' _ e2 (.inr ⟨rfl, fun j hj => hno j (by omega)⟩)
    · have c1 : Ev (tCall (spAddr K) [] E0 (tCons (tVar 1) tNil)) (start nOnw [V.ref x, v]) H (.bl false) := by
        rcases hb with ⟨l, rfl, hl, had⟩ | hn
        · exact ev_call (ea_cons v1 ea_nil) (spP_v fun H1 e1 => ⟨_, rfl, .inl ⟨l, rfl, hl, by rw [had]⟩⟩)
        · exact ev_call (ea_cons v1 ea_nil) (spP_v fun H1 e1 => ⟨_, rfl, .inr ⟨hn.mono e1, rfl⟩⟩)
      exact q_when (b := !false) (et_not (et_B c1)) (fun _ H1 e1 => k H1 e1) (fun z => by cases z)
end
end Wk

set_option Elab.async false
set_option linter.all false
set_option maxRecDepth 100000
set_option maxHeartbeats 4000000
namespace Wk
open PySem PySem.Spec PyProof.Rows L2 Evl
/-! list of a text -/
theorem vals_of : ∀ {ys : List V} {its : List Value}, ys.length = its.length → (∀ (j : Nat) (y : V), ys[j]? = some y → ∃ v, its[j]? = some v ∧ RelV y v) → Vals ys its
  | [], [], _, _ => .nil
  | [], _ :: _, h, _ => by cases h
  | _ :: _, [], h, _ => by cases h
  | y :: ys, v :: its, h, k => by
    obtain ⟨v', e, r⟩ := k 0 y rfl
    obtain rfl : v = v' := Option.some.inj e
    exact .cons r (vals_of (by simpa using h) fun j z hz => k (j + 1) z hz)
abbrev rListS : List V → Hp → VK → Prop := fun xs H Q => ∃ l : List Nat, xs = [.str (T l)] ∧ l.length ≤ 1000 ∧ ∀ a, H a = none → Q (.ref a) (upd H a (.lst (l.map fun c => .str (T [c]))))
theorem call_listS {X : Cx} (hc : X.calm = true) : CallR X (.type "list") rListS := by
  intro pins s σ H xs us Q I r h
  obtain ⟨l, rfl, hl, q⟩ := h
  obtain ⟨u, rfl, rx⟩ := vals1 r
  obtain ⟨t, rfl⟩ := rx
  have hsz : (T l).cps.size = l.length := by simp [T]
  refine call_list_str (I.ok.hd hc) (T l) t (fun h' tk acc' c' kp e hacc => ?_) (by rw [hsz, sizeLine_eq]; omega)
  refine ⟨.ref s.heap.objs.size, _, I.laid (t' := tk) kp (Nat.le_refl _) (show ObjOk X.prog X.w _ h' _ (.lst (l.map fun c => .str (T [c]))) from ⟨?_, acc'.toList, c', ?_, ?_⟩), rfl, q _ (I.hok.fresh (Nat.le_refl _))⟩
  · rw [List.length_map]; exact sz_of (by omega)
  · refine vals_of ?_ fun j y hj => ?_
    · have h1 := hacc.1
      rw [hsz] at h1
      rw [List.length_map, ← h1]
      simp
    · rw [List.getElem?_map] at hj
      cases hcj : l[j]? with
      | none => rw [hcj] at hj; cases hj
      | some c =>
        rw [hcj] at hj
        have hy := (Option.some.inj hj).symm
        subst hy
        have hjl := (List.getElem?_eq_some_iff.mp hcj).1
        have hja : j < acc'.size := by rw [hacc.1, hsz]; exact hjl
        obtain ⟨c2, u, h1, h2⟩ := hacc.2 j acc'[j] (Array.getElem?_eq_getElem hja)
        have : c2 = c := by
          have e2 : l[j]? = some c2 := by simpa [T] using h1
          rw [hcj] at e2
          exact (Option.some.inj e2).symm
        subst this
        refine ⟨acc'[j], by rw [Array.getElem?_toList, Array.getElem?_eq_getElem hja], ?_⟩
        rw [h2]
        exact ⟨u, rfl⟩
  · simpa using e
/-! the longest by the law's walk -/
def LawIs (es : List Row) (l : List Nat) (v : V) : Prop := (v = .str "drop" ∧ ∀ e ∈ es, l.take e.1.length ≠ e.1) ∨ ∃ e ∈ es, l.take e.1.length = e.1 ∧ v = e.2 ∧ ∀ e' ∈ es, l.take e'.1.length = e'.1 → e'.1.length ≤ e.1.length
theorem long_law {es : List Row} {l : List Nat} {v1 v2 : V} (nd : (es.map (·.1)).Nodup) (hl : l.length = 10) (h10 : ∀ e ∈ es, e.1.length ≤ 10) (h1 : LongIs es l v1) (h2 : LawIs es l v2) : v1 = v2 := by
  have key : ∀ e ∈ es, l.take e.1.length = e.1 → valV es (l.take (10 - (10 - e.1.length))) = some e.2 := fun e he hp => by
    have : 10 - (10 - e.1.length) = e.1.length := by have := h10 e he; omega
    rw [this, hp]
    exact valE_mem nd he
  have back : ∀ k v, valV es k = some v → (k, v) ∈ es := fun k v hv => by
    clear key h1 h2 h10 nd
    induction es with
    | nil => cases hv
    | cons e r ih =>
      obtain ⟨a, b⟩ := e
      by_cases c : a = k
      · rw [valV_pos c] at hv
        rw [← Option.some.inj hv, c]
        exact List.mem_cons_self
      · rw [valV_neg c] at hv
        exact List.mem_cons_of_mem _ (ih hv)
  rcases h1 with ⟨i, hi, hv, hno⟩ | ⟨rfl, hno⟩
  · have hm := back _ _ hv
    have hlen : (l.take (10 - i)).length = 10 - i := by rw [List.length_take]; omega
    have hpre : l.take (l.take (10 - i)).length = l.take (10 - i) := by rw [hlen]
    rcases h2 with ⟨_, h2⟩ | ⟨e, he, hp, rfl, hmax⟩
    · exact absurd hpre (h2 _ hm)
    · have h3 := hmax _ hm hpre
      rw [hlen] at h3
      have h4 := h10 e he
      by_cases c : e.1.length = 10 - i
      · have z := valE_mem nd he
        rw [← hp, c, hv] at z
        exact Option.some.inj z
      · have z := key e he hp
        rw [hno (10 - e.1.length) (by omega)] at z
        cases z
  · rcases h2 with ⟨rfl, _⟩ | ⟨e, he, hp, rfl, _⟩
    · rfl
    · have z := key e he hp
      rw [hno _ (by omega)] at z
      cases z
theorem law_nx {es : List Row} {l : List Nat} {v : V} {m : Nat} (hes : EsOk es m) (h : LawIs es l v) : NxV v := by
  rcases h with ⟨rfl, _⟩ | ⟨e, he, _, rfl, _⟩
  · exact .inr (.inl rfl)
  · exact (hes.it e he).2.2
end Wk

set_option Elab.async false
set_option linter.all false
set_option maxRecDepth 100000
set_option maxHeartbeats 4000000
namespace Wk
open PySem PySem.Spec PyProof.Rows L2 Evl
/-! tests with draws -/
def EvTP (p g c : Addr) (G : Hp) (t : TT) (σ : L2.St) : Prop := ∀ H, Pq G H p g c → ∀ Q : Bool → Hp → Prop, (∀ H' b, Gq p g c G H G H' → Q b H') → t σ H Q
section
variable {p g c : Addr} {G : Hp} {σ : L2.St} {te : TE} {t u : TT}
theorem etp_eq {i : Nat} {z : Int} {k : Int} {E : XK} (hp : σ[i]? = some (some (.ref p))) (hz : Ev te σ G (.int z)) (h0 : 0 < z) (h1 : z ≤ 1000000000) : EvTP p g c G (tTest (tOp rEq (tCall spDrw [] E (tCons (tVar i) (tCons te tNil))) (tC (.int k)))) σ := fun H hP Q q => by
  refine ep_drw hp hz h0 h1 H hP _ fun H' v g1 hv => ?_
  obtain ⟨j, rfl, _⟩ := hv
  exact ⟨rfl, _, rfl, q H' _ g1⟩
theorem etp_or {a : Bool} {H : Hp} {Q : Bool → Hp → Prop} (hP : Pq G H p g c) (h1 : EvT t σ G a) (h2 : a = false → EvTP p g c G u σ) (k : ∀ H' b, Gq p g c G H G H' → (b = false → a = false) → Q b H') : tOr t u σ H Q := by
  refine h1 H hP.ex _ fun H1 e1 => ?_
  have g1 := Gq.ext hP e1
  cases a with
  | true =>
    rw [if_pos rfl]
    exact k H1 true g1 (fun z => by cases z)
  | false =>
    rw [if_neg (by decide)]
    exact h2 rfl H1 g1.pl _ fun H2 b g2 => k H2 b (g1.trans g2) fun _ => rfl
end
end Wk

set_option Elab.async false
set_option linter.all false
set_option maxRecDepth 100000
set_option maxHeartbeats 4000000
namespace Wk
open PySem PySem.Spec PyProof.Rows L2 Evl
/-! rows as data that compare -/
theorem strOk_T {l : List Nat} (h : IsB l) : PyData.strOk (T l) = true := by
  unfold PyData.strOk
  rw [← Array.all_toList]
  show l.all _ = true
  rw [List.all_eq_true]
  intro c hc
  rcases h c hc with z | z <;> (rw [z]; decide)
theorem lay_nx {v : V} (h : NxV v) : (nxD v).canLay0 = true ∧ (nxD v).depth ≤ 1 := by
  rcases h with rfl | rfl | ⟨i, _, rfl⟩
  · exact ⟨by show PyData.strOk _ = true; decide +kernel, by show (PyData.str _).depth ≤ 1; simp [PyData.depth]⟩
  · exact ⟨by show PyData.strOk _ = true; decide +kernel, by show (PyData.str _).depth ≤ 1; simp [PyData.depth]⟩
  · exact ⟨by show (PyData.int _).canLay0 = true; simp [PyData.canLay0], by show (PyData.int _).depth ≤ 1; simp [PyData.depth]⟩
theorem lay_rows : ∀ {es : List Row}, (∀ e ∈ es, IsB e.1 ∧ NxV e.2) → PyData.canLayAll0 (es.map rowD) = true ∧ PyData.depthAll (es.map rowD) ≤ 3
  | [], _ => ⟨by simp [PyData.canLayAll0], by simp [PyData.depthAll]⟩
  | e :: es, h => by
    obtain ⟨h1, h2⟩ := lay_rows (es := es) fun x hx => h x (List.mem_cons_of_mem _ hx)
    obtain ⟨hb, hn⟩ := h e List.mem_cons_self
    obtain ⟨l1, l2⟩ := lay_nx hn
    have hs := strOk_T hb
    refine ⟨?_, ?_⟩
    · rw [List.map_cons]
      simp [PyData.canLayAll0, rowD, PyData.canLay0, hs, l1, h1]
    · rw [List.map_cons]
      simp only [PyData.depthAll, rowD, PyData.depth]
      omega
theorem rows_dp {K : PySem.W.Frag} {H : Hp} {t : Addr} {us : List V} {es : List Row} (ht : H t = some (.tup us)) (hus : EsT H us es) (hes : ∀ e ∈ es, IsB e.1 ∧ NxV e.2) : Dp K H (.ref t) (.tuple (es.map rowD)) := by
  refine Dq.dp ?_ (.tup ht (hus.dq fun e he => (hes e he).2))
  simp only [PyData.canLay0]
  exact (lay_rows hes).1
theorem rows_shaped {es : List Row} (hes : ∀ e ∈ es, IsB e.1 ∧ NxV e.2) : SeqAt.shaped (.tuple (es.map rowD)) = true := by
  unfold SeqAt.shaped
  obtain ⟨h1, h2⟩ := lay_rows hes
  rw [Bool.and_eq_true]
  refine ⟨by simp only [PyData.canLay0]; exact h1, decide_eq_true ?_⟩
  simp only [PyData.depth]
  omega
theorem rows_eqv {es : List Row} (hes : ∀ e ∈ es, IsB e.1 ∧ NxV e.2) : PyData.eqv (.tuple (es.map rowD)) (.tuple (es.map rowD)) = true :=
  SeqAt.eqv_refl _ (by simp only [PyData.canLay0]; exact (lay_rows hes).1)
/-! what stays, with all that stands beside the pool -/
theorem kv_ne_pl {es : List Row} (h : ∀ e ∈ es, IsB e.1) {c g : Addr} {a s m : Int} : kvOf es ≠ plV c g a s m := fun z => by
  cases es with
  | nil => cases z
  | cons e r =>
    have z1 : (.inr (T e.1) : L2.Key) = kC := congrArg Prod.fst (List.cons.inj z).1
    have z2 : T e.1 = Str.ofString "cells" := by injection z1
    have z3 : Str.ofString "cells" = T [99, 101, 108, 108, 115] := by decide +kernel
    rw [z3] at z2
    have z4 := T_inj z2
    have := h e List.mem_cons_self 99 (by rw [z4]; simp)
    omega
section
variable {G H : Hp} {p g c : Addr}
theorem Pq.tupH (h : Pq G H p g c) {b : Addr} {xs : List V} (hb : H b = some (.tup xs)) : Hd2 H p g b = some (.tup xs) := by
  obtain ⟨cs, gs, k, s, m, h1, h2, h3, h4, h5, r⟩ := h.at_
  rw [hd2_at (fun z => by rw [z, h4] at hb; cases hb) (fun z => by rw [z, h5] at hb; cases hb)]
  exact hb
theorem EsT.hd (h : Pq G H p g c) : ∀ {us : List V} {es : List Row}, EsT H us es → EsT (Hd2 H p g) us es
  | _, _, .nil => .nil
  | _, _, .cons hb t => .cons (h.tupH hb) (t.hd h)
theorem Tb.hd {CT x : Addr} {es : List Row} (h : Pq G H p g c) (hes : ∀ e ∈ es, IsB e.1) (hT : Tb CT H x es) : Tb CT (Hd2 H p g) x es := by
  obtain ⟨dx, fs, te, nd, us', es', h1, h2, h3, h4, h5, h6, h7, h8⟩ := hT
  obtain ⟨cs, gs, k, s, m, i1, i2, i3, i4, i5, r⟩ := id h.at_
  refine ⟨dx, fs, te, nd, us', es', ?_, h2, h3, h4, h.tupH h5, h6.hd h, h7, ?_⟩
  · rw [hd2_at (fun z => by rw [z, i4] at h1; cases h1) (fun z => by rw [z, i5] at h1; cases h1)]
    exact h1
  · rw [hd2_at (fun z => by rw [z, i4] at h8; injection h8 with h8; injection h8 with h8; exact kv_ne_pl hes h8.symm) (fun z => by rw [z, i5] at h8; cases h8)]
    exact h8
end
section
variable {P : Program} {w : World} {K : PySem.W.Frag} {mg : Str → Option Value} {base : Heap} {f : Addr} {fd : FuncData} {CT CB : Addr}
/-- the entries are the sorted rows -/
theorem ask_sorted {H : Hp} {σ : L2.St} {tx tr : TE} {x L : Addr} {us : List V} {es : List Row} (X : TX K CT) (hx : Ev tx σ H (.ref x)) (hT : Tb CT H x es) (hr : Ev tr σ H (.ref L)) (hL : H L = some (.lst us)) (hus : EsT H us es) (hes : EsOk es 24) :
    Ev (tOp (rEqD K) (tFld K tx "entries") (tCB (fun xs H Q => ∃ p ys, xs = [.ref p] ∧ ((SqL K H p ys ∧ ∀ l, H l = none → Q (.ref l) (upd H l (.tup ys))) ∨ (SqT K H p ys ∧ Q (.ref p) H))) (tCons (tCB (rSortR K) (tCons tr tNil)) tNil))) σ H (.bl true) := fun H1 e Q q => by
  refine hx H1 e _ fun H2 e2 => ?_
  obtain ⟨dx, fs, te, nd, us', es', h1, h2, h3, h4, h5, h6, h7, h8⟩ := id hT
  refine ⟨x, CT, dx, fs, .ref te, rfl, (e.trans e2) _ _ h1, X.ic.cl, X.nE, h2, ?_⟩
  refine hr H2 (e.trans e2) _ fun H3 e3 => ?_
  have e03 := (e.trans e2).trans e3
  refine ⟨L, us, es, rfl, .inl (sq_of (e03 _ _ hL)), hus.mono e03, hes.nd, fun e he => flat_nx (hes.it e he).2.2, fun ys es2 p hsr hys hp => ?_⟩
  obtain rfl := hsr.uniq h7
  have e4 := Ex.new (o := .lst ys) hp
  have hpp : (upd H3 p (.lst ys)) p = some (.lst ys) := upd_same
  generalize upd H3 p (.lst ys) = H4 at *
  refine ⟨p, ys, rfl, .inl ⟨sq_of hpp, fun t ht => ?_⟩⟩
  have e5 := Ex.new (o := .tup ys) ht
  have htt : (upd H4 t (.tup ys)) t = some (.tup ys) := upd_same
  generalize upd H4 t (.tup ys) = H5 at *
  have hok : ∀ e ∈ es2, IsB e.1 ∧ NxV e.2 := fun e he => by
    have := hes.it e (hsr.2.perm.mem_iff.mp he)
    exact ⟨this.1, this.2.2⟩
  exact ⟨_, _, rows_dp ((((e03.trans e4).trans e5)) _ _ h5) (h6.mono ((e03.trans e4).trans e5)) hok, rows_dp htt (hys.mono (e4.trans e5)) hok, rows_shaped hok, rows_shaped hok, by rw [rows_eqv hok]; exact q H5 (((e2.trans e3).trans e4).trans e5)⟩
theorem ev_ixR {σ : L2.St} {H : Hp} {ta tb : TE} {a : Addr} {xs : List V} {i : Nat} {v : V} (ha : Ev ta σ H (.ref a)) (hb : Ev tb σ H (.int (i : Int))) (h : H a = some (.lst xs)) (hv : xs[i]? = some v) : Ev (tOp (rIxL K) ta tb) σ H v := ev_op ha hb (rv_ixL (sq_of h) (atI_nat hv))
end
end Wk

set_option Elab.async false
set_option linter.all false
set_option maxRecDepth 100000
set_option maxHeartbeats 4000000
namespace Wk
open PySem PySem.Spec PyProof.Rows L2 Evl
/-! fates as mathematics -/
inductive Nw where
  | go (k : Nat)
  | fin (s : Str)
inductive Ft where
  | out (s : Str) (a k : Nat)
  | ring (row : List Nat)
/-- the row with its least ahead -/
def lf (row : List Nat) : List Nat := row.drop (row.idxOf (row.min?.getD 0)) ++ row.take (row.idxOf (row.min?.getD 0))
def fw (nv : List Nw) : Nat → List Nat → Nat → Ft
  | 0, _, _ => .ring []
  | f + 1, row, a => match nv[a]? with
    | some (Nw.go k) => if k ∈ row ++ [a] then .ring (lf ((row ++ [a]).drop ((row ++ [a]).idxOf k))) else fw nv f (row ++ [a]) k
    | some (Nw.fin s) => .out s a row.length
    | none => .ring []
def fateN (nv : List Nw) (a : Nat) : Ft := fw nv nv.length [] a
theorem nodup_len : ∀ (n : Nat) {l : List Nat}, l.Nodup → (∀ x ∈ l, x < n) → l.length ≤ n
  | 0, l, _, h => by
    cases l with
    | nil => exact Nat.le_refl 0
    | cons a t => exact absurd (h a List.mem_cons_self) (Nat.not_lt_zero a)
  | n + 1, l, hd, h => by
    have h1 := nodup_len n (l := l.erase n) (hd.erase n) fun x hx => by
      have hm : x ≠ n ∧ x ∈ l := (List.Nodup.mem_erase_iff hd).mp hx
      have := h x hm.2
      omega
    by_cases c : n ∈ l
    · rw [List.length_erase_of_mem c] at h1
      omega
    · rw [List.erase_of_not_mem c] at h1
      omega
theorem min_at {row : List Nat} {m : Nat} (h1 : m ∈ row) (h2 : ∀ y ∈ row, m ≤ y) : row.min?.getD 0 = m := by
  rw [List.min?_eq_some_iff.mpr ⟨h1, h2⟩]
  rfl
theorem min_ex {row : List Nat} (h : row ≠ []) : ∃ m, m ∈ row ∧ ∀ y ∈ row, m ≤ y := by
  cases e : row.min? with
  | none => exact absurd (List.min?_eq_none_iff.mp e) h
  | some m => exact ⟨m, List.min?_eq_some_iff.mp e⟩
theorem idx_ne {a b : Nat} {l : List Nat} (h : a ≠ b) : (a :: l).idxOf b = l.idxOf b + 1 := by
  rw [List.idxOf_cons, beq_eq_false_iff_ne.mpr h]
  rfl
theorem lf_rot {s : Nat} {r : List Nat} (nd : (s :: r).Nodup) : lf (s :: r) = lf (r ++ [s]) := by
  obtain ⟨m, hm, hl⟩ := min_ex (row := s :: r) (by simp)
  have e1 := min_at hm hl
  have e2 : (r ++ [s]).min?.getD 0 = m := min_at (by simp at hm ⊢; exact hm.symm) (fun y hy => hl y (by simp at hy ⊢; exact hy.symm))
  unfold lf
  rw [e1, e2]
  by_cases c : m = s
  · subst c
    have hn : m ∉ r := (List.nodup_cons.mp nd).1
    rw [List.idxOf_cons_self, List.idxOf_append, if_neg hn, List.idxOf_cons_self]
    simp
  · have hr : m ∈ r := by simpa [c] using hm
    have hi : r.idxOf m ≤ r.length := Nat.le_of_lt (List.idxOf_lt_length_of_mem hr)
    rw [List.idxOf_append, if_pos hr, idx_ne (fun z => c z.symm)]
    rw [List.drop_append_of_le_length hi, List.take_append_of_le_length hi]
    simp
theorem fw_behind {nv : List Nw} {s t : Nat} (hst : nv[s]? = some (Nw.go t)) (hok : ∀ (a k : Nat), nv[a]? = some (Nw.go k) → k < nv.length) : ∀ (f : Nat) (p : List Nat) (a : Nat), (s :: (p ++ [a])).Nodup → (∀ x ∈ s :: (p ++ [a]), x < nv.length) → (p ++ [a]).head? = some t → p.length + 1 + f = nv.length →
    (∃ w b k, fw nv f (s :: p) a = .out w b (k + 1) ∧ fw nv (f + 1) p a = .out w b k) ∨ (∃ r, fw nv f (s :: p) a = .ring r ∧ fw nv (f + 1) p a = .ring r)
  | 0, p, a, nd, hlt, _, hf => by
    have := nodup_len _ nd hlt
    simp at this
    omega
  | f + 1, p, a, nd, hlt, hh, hf => by
    have ha : a < nv.length := hlt a (by simp)
    cases e : nv[a]? with
    | none => rw [List.getElem?_eq_none_iff] at e; omega
    | some v =>
      cases v with
      | fin w =>
        refine .inl ⟨w, a, p.length, ?_, ?_⟩
        · unfold fw; rw [e]; rfl
        · unfold fw; rw [e]
      | go k =>
        have hk := hok _ _ e
        have hs : s ∉ p ++ [a] := (List.nodup_cons.mp nd).1
        have u1 : fw nv (f + 1) (s :: p) a = if k ∈ s :: (p ++ [a]) then .ring (lf ((s :: (p ++ [a])).drop ((s :: (p ++ [a])).idxOf k))) else fw nv f (s :: (p ++ [a])) k := by
          rw [fw]; rw [e]; rfl
        have u2 : fw nv (f + 1 + 1) p a = if k ∈ p ++ [a] then .ring (lf ((p ++ [a]).drop ((p ++ [a]).idxOf k))) else fw nv (f + 1) (p ++ [a]) k := by
          rw [fw]; rw [e]
        rw [u1, u2]
        by_cases c : k ∈ p ++ [a]
        · rw [if_pos (List.mem_cons_of_mem _ c), if_pos c]
          have hne : s ≠ k := fun z => hs (z ▸ c)
          exact .inr ⟨_, rfl, by rw [idx_ne hne]; rfl⟩
        · rw [if_neg c]
          by_cases d : k = s
          · subst d
            rw [if_pos List.mem_cons_self]
            refine .inr ⟨_, rfl, ?_⟩
            have ht : t ∈ p ++ [a] ++ [k] := by
              cases hp : p ++ [a] with
              | nil => rw [hp] at hh; cases hh
              | cons z zs =>
                rw [hp] at hh
                cases hh
                simp
            have hi : (p ++ [a] ++ [k]).idxOf t = 0 := by
              cases hp : p ++ [a] with
              | nil => rw [hp] at hh; cases hh
              | cons z zs =>
                rw [hp] at hh
                cases hh
                exact List.idxOf_cons_self
            rw [fw]
            rw [hst]
            dsimp only
            rw [if_pos ht, hi, List.idxOf_cons_self, List.drop_zero, List.drop_zero, lf_rot nd]
          · rw [if_neg (fun z => by rcases List.mem_cons.mp z with z | z; exact d z; exact c z)]
            refine fw_behind hst hok f (p ++ [a]) k ?_ (fun x hx => ?_) ?_ (by simp; omega)
            · rw [← List.cons_append, List.nodup_append]
              refine ⟨nd, by simp, fun x hx y hy => ?_⟩
              simp only [List.mem_singleton] at hy
              subst hy
              intro z
              subst z
              rcases List.mem_cons.mp hx with z | z
              · exact d z
              · exact c z
            · rw [← List.cons_append] at hx
              rcases List.mem_append.mp hx with z | z
              · exact hlt x z
              · simp only [List.mem_singleton] at z; rw [z]; exact hk
            · cases hp : p ++ [a] with
              | nil => rw [hp] at hh; cases hh
              | cons z zs => rw [hp] at hh; exact hh
/-- the fate from the next router -/
theorem fate_behind {nv : List Nw} {s t : Nat} (hst : nv[s]? = some (Nw.go t)) (hok : ∀ (a k : Nat), nv[a]? = some (Nw.go k) → k < nv.length) :
    (∃ w b k, fateN nv s = .out w b (k + 1) ∧ fateN nv t = .out w b k) ∨ (∃ r, fateN nv s = .ring r ∧ fateN nv t = .ring r) := by
  have hs : s < nv.length := (List.getElem?_eq_some_iff.mp hst).1
  have ht := hok _ _ hst
  unfold fateN
  obtain ⟨n, hn⟩ : ∃ n, nv.length = n + 1 := ⟨nv.length - 1, by omega⟩
  by_cases c : t = s
  · subst c
    refine .inr ?_
    rw [hn, fw, hst]
    dsimp only
    rw [if_pos (by simp)]
    exact ⟨_, rfl, rfl⟩
  · have u : fw nv (n + 1) [] s = fw nv n [s] t := by
      rw [fw, hst]
      dsimp only
      rw [if_neg (by simp [c])]
      rfl
    rw [hn, u]
    refine fw_behind hst hok n [] t ?_ ?_ rfl (by simp; omega)
    · simp; exact fun z => c z.symm
    · intro x hx
      simp at hx
      rcases hx with rfl | rfl <;> omega
end Wk

set_option Elab.async false
set_option linter.all false
set_option maxRecDepth 100000
set_option maxHeartbeats 4000000
namespace Wk
open PySem PySem.Spec PyProof.Rows L2 Evl
/-! an own error with one field of any name -/
def spXF (C : Addr) (n : Str) : Sp := fun vs H Q _ => ∃ (a : Addr) (y : V), vs = [.ref a, y] ∧ H a = some (exo a C none) ∧ ∀ dx, H dx = none → dx ≠ a → Q .non (upd (upd H dx (exd dx [(n, y)])) a (exo a C (some dx)))
theorem mk_errF {C : Addr} {n : Str} {te : TE} {σ : L2.St} {H : Hp} {y : V} {W : XK} (h : Ev te σ H y) (k : ∀ d H', H d = none → Ex H H' → H' d = some (.xd [(n, y)]) → W (.ref C) (some d) H') : tMkO C (spXF C n) [] (tCons te tNil) σ H W := by
  refine h H (Ex.refl H) _ fun H1 e => ⟨by show 1 ≤ 1000; decide, fun a ha => ?_⟩
  refine ⟨a, y, rfl, upd_same, fun dx hd hne => ⟨rfl, dx, [(n, y)], upd_same, by rw [upd_ne hne, upd_same], ?_, ?_⟩⟩
  · rw [upd_ne hne] at hd
    exact hd
  · have hd1 : H1 dx = none := by rw [upd_ne hne] at hd; exact hd
    refine k dx _ (fresh_back e hd1) (fun b o hb => ?_) upd_same
    have hb1 := e b o hb
    have nb : b ≠ dx := ne_of_none hb1 hd1
    have na : b ≠ a := ne_of_none hb1 ha
    rw [upd_ne nb, del_ne na, upd_ne na, upd_ne nb, upd_ne na]
    exact hb1
structure ErrF (P : Program) (w : World) (K : PySem.W.Frag) (mg : Str → Option Value) (base : Heap) (x : Str) (C : Addr) (n : Str) : Prop where
  g : mg x = some (.ref C)
  oex : OexC K C
  xf : XfC K C
  no : PySem.W.findIn K (.ref C) n = some none
  te : PySem.W.exmOne K (.ref C) (.ref C) = some true
  ini : ∃ (fI : Addr) (fd : FuncData), PySem.W.findIn K (.ref C) "__init__" = some (some (.ref fI)) ∧ PySem.W.typeIn K (.ref fI) = some (.type "function") ∧ FnOk P w K mg base CX0 1 fI fd ["self", n] (spXF C n) ∧ Binds K fd ["self", n] []
theorem pmk_errF {X : Cx} {x n : Str} {C : Addr} {e : Expr} {ta : TA} {p pos : Pos} (T : ErrF X.prog X.w X.K X.mg X.base x C n) (hr : Room 2 X.A) (hg : Gl X x) (ha : PA X [e] ta)
    (hdb : (x == ("__debug__" : Str)) = false := by decide) (he : starEach [e] X.env = (false, eval e X.env) :: starEach [] X.env := by rfl) (hpl : (backTo pos (starEach [] X.env)).any (·.1) = false := by rfl) : PMk X (.Call (.Name x p) [e] [] pos) (tMkO C (spXF C n) [] ta) := by
  obtain ⟨fI, fd, h1, h2, h3, h4⟩ := T.ini
  exact pmk_oex T.oex h1 h2 h3 hr h4 .nil pass0 hg T.g ha hdb he hpl
/-! isinstance of a caught error with a field -/
def rIsF (K : PySem.W.Frag) (D a dx : Addr) : List V → Hp → VK → Prop := fun xs H Q => ∃ (c : V) (cv : Value) (b : Bool) (fs : List (Str × V)), xs = [.ref a, c] ∧ ClsV c cv ∧ PySem.W.kitOne K (.ref D) cv = some b ∧ H dx = some (.xd fs) ∧ Q (.bl b) H
def rIsFT (K : PySem.W.Frag) (D a dx : Addr) : List V → Hp → VK → Prop := fun xs H Q => ∃ (tp : Addr) (cs : List V) (us : List Value) (b : Bool) (fs : List (Str × V)), xs = [.ref a, .ref tp] ∧ H tp = some (.tup cs) ∧ Paired ClsV cs us ∧ PySem.W.kitAny K (.ref D) us = some b ∧ H dx = some (.xd fs) ∧ Q (.bl b) H
theorem excC_cls {K : PySem.W.Frag} {D : Addr} (C : ExcC K D) : (PySem.W.clsIn K D).isSome = true := by
  obtain ⟨cd, hc, _⟩ := PySem.W.any_some C.hd
  rw [hc]
  rfl
theorem inst_of {X : Cx} {pins : List (Addr × Obj)} {σ : L2.St} {H : Hp} {s : Shared} {a D dx : Addr} {oe : Obj} {pn : List (Addr × Obj)} {fs : List (Str × V)} (I : Inv (X.suite a ((a, oe) :: pn)) pins σ H s) (hz : Zc (.ref D) (some dx) oe) (hf : ∃ vs, oe.data = .fields vs) (ea : H dx = some (.xd fs)) :
    ∃ od, PySem.W.InstAt s.heap a oe D (some od) := by
  obtain ⟨ha, _⟩ := I.pin (a, oe) (List.mem_append_left _ List.mem_cons_self)
  obtain ⟨vs, hd⟩ := hf
  have hx : ObjOk X.prog X.w H s.heap dx (.xd fs) := I.hok dx _ ea
  obtain ⟨mA, hns, hr⟩ := hx
  obtain ⟨od, ho, hl⟩ := lookIn_ns hns
  exact ⟨od, ha, hz.1, by unfold PySem.W.notCls; rw [hd] <;> rfl, by rw [hz.2]; exact ho⟩
theorem call_isF {X : Cx} {K : PySem.W.Frag} {a D dx : Addr} {oe : Obj} {pn : List (Addr × Obj)} (hK : X.K = K) (C : ExcC K D) (hz : Zc (.ref D) (some dx) oe) (hf : ∃ vs, oe.data = .fields vs) : CallR (X.suite a ((a, oe) :: pn)) (.builtin "isinstance") (rIsF K D a dx) := by
  subst hK
  intro pins s σ H xs us Q I r h
  obtain ⟨c, cv, b, fs, rfl, hcv, e, ea, q⟩ := h
  obtain ⟨u1, u2, rfl, r1, r2⟩ := vals2 r
  obtain rfl : u1 = Value.ref a := r1
  have e2 := hcv.eq r2
  subst e2
  obtain ⟨od, J⟩ := inst_of I hz hf ea
  exact PySem.W.kia_one (PySem.W.kitx_exc (excC_cls C) C.hg C.hk C.hs C.ha C.hn C.ht C.hm) I.kIn J e (fun z => nomatch z) fun tk => ⟨.bl b, H, I.kept (t' := tk) fun _ _ z => z, rfl, q⟩
theorem call_isFT {X : Cx} {K : PySem.W.Frag} {a D dx : Addr} {oe : Obj} {pn : List (Addr × Obj)} (hK : X.K = K) (C : ExcC K D) (hz : Zc (.ref D) (some dx) oe) (hf : ∃ vs, oe.data = .fields vs) : CallR (X.suite a ((a, oe) :: pn)) (.builtin "isinstance") (rIsFT K D a dx) := by
  subst hK
  intro pins s σ H xs us Q I r h
  obtain ⟨tp, cs, ws, b, fs, rfl, hT, k, e, ea, q⟩ := h
  obtain ⟨u1, u2, rfl, r1, r2⟩ := vals2 r
  obtain rfl : u1 = Value.ref a := r1
  cases (show u2 = Value.ref tp from r2)
  obtain ⟨od, J⟩ := inst_of I hz hf ea
  obtain ⟨_, its, rv, o, h1, h2, n, h3⟩ := (show ObjOk X.prog X.w H s.heap tp (.tup cs) from I.hok tp _ hT)
  have e3 := ClsV.all k rv
  subst e3
  obtain ⟨oc, od2, dt, sl⟩ := o
  simp only at h2 h3
  subst h2 h3
  exact PySem.W.kia_tup (PySem.W.kitx_exc (excC_cls C) C.hg C.hk C.hs C.ha C.hn C.ht C.hm) I.kIn J h1 e (fun z => nomatch z) fun tk => ⟨.bl b, H, I.kept (t' := tk) fun _ _ z => z, rfl, q⟩
end Wk

set_option Elab.async false
set_option linter.all false
set_option maxRecDepth 100000
set_option maxHeartbeats 4000000
namespace Wk
open PySem PySem.Spec PyProof.Rows L2 Evl
/-! what isinstance tells of a value, whatever is laid -/
def IsK (K : PySem.W.Frag) (H : Hp) (v : V) (n : String) (b : Bool) : Prop := ∀ H', Ex H H' → ∃ t, TyX K H' v t ∧ PySem.W.kitOne K t (.type n) = some b
def IsKr (K : PySem.W.Frag) (H : Hp) (v : V) (b : Bool) : Prop := ∀ H', Ex H H' → ∃ t, TyX K H' v t ∧ PySem.W.kitAny K t [.type "list", .type "tuple"] = some b
theorem IsK.mono {K : PySem.W.Frag} {H H' : Hp} {v : V} {n : String} {b : Bool} (e : Ex H H') (h : IsK K H v n b) : IsK K H' v n b := fun H2 e2 => h H2 (e.trans e2)
theorem IsKr.mono {K : PySem.W.Frag} {H H' : Hp} {v : V} {b : Bool} (e : Ex H H') (h : IsKr K H v b) : IsKr K H' v b := fun H2 e2 => h H2 (e.trans e2)
theorem isk_dq {K : PySem.W.Frag} {H : Hp} {v : V} {d : PyData} {n : String} {b : Bool} (h : Dq H v d) (hk : kitB (tyN d) n = some b) : IsK K H v n b := fun H' e => ⟨_, (h.mono e).ty, kit_ty hk⟩
theorem isk_tup {K : PySem.W.Frag} {H : Hp} {a : Addr} {xs : List V} {n : String} {b : Bool} (h : H a = some (.tup xs)) (hk : kitB "tuple" n = some b) : IsK K H (.ref a) n b := fun H' e => ⟨_, .base (.tup (e _ _ h)), kit_ty hk⟩
theorem isk_lst {K : PySem.W.Frag} {H : Hp} {a : Addr} {xs : List V} {n : String} {b : Bool} (h : H a = some (.lst xs)) (hk : kitB "list" n = some b) : IsK K H (.ref a) n b := fun H' e => ⟨_, .base (.lst (e _ _ h)), kit_ty hk⟩
theorem isk_dK {K : PySem.W.Frag} {H : Hp} {a : Addr} {kvs : List (L2.Key × V)} {n : String} {b : Bool} (h : H a = some (.dK kvs)) (hk : kitB "dict" n = some b) : IsK K H (.ref a) n b := fun H' e => ⟨_, .base (.dK (e _ _ h)), kit_ty hk⟩
theorem any2 {K : PySem.W.Frag} {t : Value} {b c : Bool} (h1 : PySem.W.kitOne K t (.type "list") = some b) (h2 : PySem.W.kitOne K t (.type "tuple") = some c) : PySem.W.kitAny K t [.type "list", .type "tuple"] = some (b || c) :=
  kitAny_cons h1 (fun hb => kitAny_cons h2 (fun hc => by rw [hb, hc]; exact kitAny_nil) (fun hc => by rw [hc]; simp)) (fun hb => by rw [hb]; rfl)
theorem iskr_dq {K : PySem.W.Frag} {H : Hp} {v : V} {d : PyData} (h : Dq H v d) : IsKr K H v (isLi d || isTu d) := fun H' e => ⟨_, (h.mono e).ty, any2 (kit_ty (kit_lst d)) (kit_ty (kit_tup d))⟩
theorem iskr_row {K : PySem.W.Frag} {H : Hp} {a : Addr} {xs : List V} (h : RowA H a xs) : IsKr K H (.ref a) true := fun H' e => by
  rcases h with h | h
  · exact ⟨_, .base (.lst (e _ _ h)), any2 (b := true) (c := false) (kit_ty (show kitB "list" "list" = some true by decide +kernel)) (kit_ty (show kitB "list" "tuple" = some false by decide +kernel))⟩
  · exact ⟨_, .base (.tup (e _ _ h)), any2 (b := false) (c := true) (kit_ty (show kitB "tuple" "list" = some false by decide +kernel)) (kit_ty (show kitB "tuple" "tuple" = some true by decide +kernel))⟩
theorem iskr_dK {K : PySem.W.Frag} {H : Hp} {a : Addr} {kvs : List (L2.Key × V)} (h : H a = some (.dK kvs)) : IsKr K H (.ref a) false := fun H' e => ⟨_, .base (.dK (e _ _ h)), any2 (b := false) (c := false) (kit_ty (show kitB "dict" "list" = some false by decide +kernel)) (kit_ty (show kitB "dict" "tuple" = some false by decide +kernel))⟩
section
variable {K : PySem.W.Frag} {σ : L2.St} {H : Hp} {ta : TE}
theorem ev_isk {v : V} {n : String} {b : Bool} (h : Ev ta σ H v) (hk : IsK K H v n b) : Ev (tCB (rIsi K) (tCons ta (tCons (tC (.ty n)) tNil))) σ H (.bl b) := fun H1 e Q q =>
  h H1 e _ fun H2 e2 => by
    obtain ⟨t, ht, hb⟩ := hk H2 (e.trans e2)
    exact ⟨v, .ty n, t, .type n, b, rfl, .ty n, ht, hb, q H2 e2⟩
theorem ev_iskr {v : V} {b : Bool} (h : Ev ta σ H v) (hk : IsKr K H v b) : Ev (tCB (rIsiT K) (tCons ta (tCons (tTup (tCons (tC (.ty "list")) (tCons (tC (.ty "tuple")) tNil))) tNil))) σ H (.bl b) := fun H1 e Q q =>
  h H1 e _ fun H2 e2 => ⟨by show 2 ≤ sizeLine; decide, fun p hp => by
    obtain ⟨t, ht, hb⟩ := hk _ ((e.trans e2).trans (Ex.new hp))
    exact ⟨v, p, [.ty "list", .ty "tuple"], t, [.type "list", .type "tuple"], b, rfl, upd_same, .cons (.ty "list") (.cons (.ty "tuple") .nil), ht, hb, q _ (e2.trans (Ex.new hp))⟩⟩
end
/-! items of a row: right ones and bad ones -/
def hereB (z : Str) : Bool := inV (.str z) [.str "here", .str "drop"]
/-- no way -/
inductive BadW (K : PySem.W.Frag) (H : Hp) : V → Prop
  | str {z : Str} : hereB z = false → BadW K H (.str z)
  | int {i : Int} : ¬ (0 ≤ i ∧ i ≤ 7) → BadW K H (.int i)
  | bl (b : Bool) : BadW K H (.bl b)
  | other {v : V} : IsK K H v "str" false → IsK K H v "int" false → BadW K H v
def BadT (K : PySem.W.Frag) (H : Hp) (v : V) : Prop := (∃ l, v = .str (T l) ∧ l.length ≤ 100 ∧ rngB l = false) ∨ NSt K H v
/-- values that are themselves, compared -/
def okV : V → Bool
  | .non => true
  | .bl _ => true
  | .int _ => true
  | .str _ => true
  | .ref _ => true
  | _ => false
inductive BadI (K : PySem.W.Frag) (H : Hp) : V → Prop
  | no {v : V} : okV v = true → IsK K H v "tuple" false → BadI K H v
  | len {b : Addr} {xs : List V} : H b = some (.tup xs) → xs.length ≠ 2 → xs.length ≤ 100 → BadI K H (.ref b)
  | rng {b : Addr} {x y : V} : H b = some (.tup [x, y]) → BadT K H x → BadI K H (.ref b)
  | way {b : Addr} {l : List Nat} {y : V} : H b = some (.tup [.str (T l), y]) → IsB l → l.length ≤ 10 → BadW K H y → BadI K H (.ref b)
theorem BadW.mono {K : PySem.W.Frag} {H H' : Hp} {v : V} (e : Ex H H') (h : BadW K H v) : BadW K H' v := by
  cases h with
  | str a => exact .str a
  | int a => exact .int a
  | bl b => exact .bl b
  | other a b => exact .other (a.mono e) (b.mono e)
theorem BadT.mono {K : PySem.W.Frag} {H H' : Hp} {v : V} (e : Ex H H') (h : BadT K H v) : BadT K H' v := h.imp id (NSt.mono e)
theorem BadI.mono {K : PySem.W.Frag} {H H' : Hp} {v : V} (e : Ex H H') (h : BadI K H v) : BadI K H' v := by
  cases h with
  | no b a => exact .no b (a.mono e)
  | len a b c => exact .len (e _ _ a) b c
  | rng a b => exact .rng (e _ _ a) (b.mono e)
  | way a b c d => exact .way (e _ _ a) b c (d.mono e)
def GoodI (H : Hp) (v : V) (e : Row) : Prop := ∃ b, v = .ref b ∧ H b = some (.tup [.str (T e.1), e.2]) ∧ IsB e.1 ∧ e.1.length ≤ 10 ∧ NxV e.2
def ItO (K : PySem.W.Frag) (H : Hp) (v : V) : Option Row → Prop
  | some e => GoodI H v e
  | none => BadI K H v
theorem ItO.mono {K : PySem.W.Frag} {H H' : Hp} {v : V} (e : Ex H H') : ∀ {o : Option Row}, ItO K H v o → ItO K H' v o
  | some _, ⟨b, h1, h2, h3⟩ => ⟨b, h1, e _ _ h2, h3⟩
  | none, h => BadI.mono e h
theorem ItO.okV {K : PySem.W.Frag} {H : Hp} {v : V} : ∀ {o : Option Row}, ItO K H v o → okV v = true
  | some _, ⟨b, h1, _⟩ => by rw [h1]; rfl
  | none, h => by
    have h : BadI K H v := h
    cases h with
    | no b a => exact b
    | len a b c => rfl
    | rng a b => rfl
    | way a b c d => rfl
inductive ItT (K : PySem.W.Frag) (H : Hp) : List V → List (Option Row) → Prop
  | nil : ItT K H [] []
  | cons {v : V} {vs : List V} {o : Option Row} {os : List (Option Row)} : ItO K H v o → ItT K H vs os → ItT K H (v :: vs) (o :: os)
theorem ItT.mono {K : PySem.W.Frag} {H H' : Hp} (e : Ex H H') : ∀ {us : List V} {os : List (Option Row)}, ItT K H us os → ItT K H' us os
  | _, _, .nil => .nil
  | _, _, .cons h t => .cons (h.mono e) (t.mono e)
theorem ItT.length {K : PySem.W.Frag} {H : Hp} : ∀ {us : List V} {os : List (Option Row)}, ItT K H us os → us.length = os.length
  | _, _, .nil => rfl
  | _, _, .cons h t => by simp [t.length]
theorem ItT.at_ {K : PySem.W.Frag} {H : Hp} : ∀ {us : List V} {os : List (Option Row)} {i : Nat} {u : V}, ItT K H us os → us[i]? = some u → ∃ o, os[i]? = some o ∧ ItO K H u o
  | _, _, i, u, .nil, h => by cases h
  | _, _, 0, u, .cons (o := o) hb t, h => ⟨o, rfl, by rw [← Option.some.inj h]; exact hb⟩
  | _, _, i + 1, u, .cons hb t, h => t.at_ (show _ = some u from h)
theorem ItT.app {K : PySem.W.Frag} {H : Hp} : ∀ {us vs : List V} {os ps : List (Option Row)}, ItT K H us os → ItT K H vs ps → ItT K H (us ++ vs) (os ++ ps)
  | _, _, _, _, .nil, k => k
  | _, _, _, _, .cons h t, k => .cons h (t.app k)
theorem ItT.take {K : PySem.W.Frag} {H : Hp} : ∀ {us : List V} {os : List (Option Row)} (n : Nat), ItT K H us os → ItT K H (us.take n) (os.take n)
  | _, _, n, .nil => by rw [List.take_nil, List.take_nil]; exact .nil
  | _, _, 0, .cons h t => .nil
  | _, _, n + 1, .cons h t => .cons h (t.take n)
theorem ItT.set {K : PySem.W.Frag} {H : Hp} {v : V} {o : Option Row} (hv : ItO K H v o) : ∀ {us : List V} {os : List (Option Row)} (n : Nat), ItT K H us os → ItT K H (us.set n v) (os.set n o)
  | _, _, n, .nil => .nil
  | _, _, 0, .cons h t => .cons hv t
  | _, _, n + 1, .cons h t => .cons h (t.set hv n)
theorem ItT.of_est {K : PySem.W.Frag} {H : Hp} : ∀ {us : List V} {es : List Row}, EsT H us es → (∀ e ∈ es, IsB e.1 ∧ e.1.length ≤ 10 ∧ NxV e.2) → ItT K H us (es.map some)
  | _, _, .nil, _ => .nil
  | _, _, .cons h t, k => .cons ⟨_, rfl, h, k _ List.mem_cons_self⟩ (of_est t fun e he => k e (List.mem_cons_of_mem _ he))
theorem ItT.est {K : PySem.W.Frag} {H : Hp} : ∀ {us : List V} {es : List Row}, ItT K H us (es.map some) → EsT H us es ∧ ∀ e ∈ es, IsB e.1 ∧ e.1.length ≤ 10 ∧ NxV e.2
  | [], [], _ => ⟨.nil, fun _ h => by cases h⟩
  | [], _ :: _, h => by cases h
  | _ :: _, [], h => by cases h
  | u :: us, e :: es, .cons ⟨b, h1, h2, h3⟩ t => by
    obtain ⟨k1, k2⟩ := t.est
    refine ⟨by rw [h1]; exact .cons h2 k1, fun x hx => ?_⟩
    rcases List.mem_cons.mp hx with rfl | hx
    · exact h3
    · exact k2 x hx
/-! where the first fault is -/
def fAt : List (List Nat) → Nat → List (Option Row) → Option Nat
  | _, _, [] => none
  | _, i, none :: _ => some i
  | ks, i, some e :: r => if e.1 ∈ ks then some i else fAt (e.1 :: ks) (i + 1) r
def dueF (its : List (Option Row)) : Option Int := if 24 < its.length then some (-1) else (fAt [] 0 its).map fun n => (n : Int)
theorem fAt_none : ∀ {its : List (Option Row)} {ks : List (List Nat)} {i : Nat}, fAt ks i its = none → ∃ es : List Row, its = es.map some ∧ (es.map (·.1)).Nodup ∧ ∀ e ∈ es, e.1 ∉ ks
  | [], ks, i, _ => ⟨[], rfl, List.nodup_nil, fun _ h => by cases h⟩
  | none :: r, ks, i, h => by cases h
  | some e :: r, ks, i, h => by
    unfold fAt at h
    split at h
    · cases h
    · rename_i hk
      obtain ⟨es, h1, h2, h3⟩ := fAt_none h
      refine ⟨e :: es, by rw [h1]; rfl, ?_, fun x hx => ?_⟩
      · rw [List.map_cons, List.nodup_cons]
        refine ⟨fun hm => ?_, h2⟩
        obtain ⟨x, hx, hxe⟩ := List.mem_map.mp hm
        exact h3 x hx (by rw [hxe]; exact List.mem_cons_self)
      · rcases List.mem_cons.mp hx with rfl | hx
        · exact hk
        · exact fun z => h3 x hx (List.mem_cons_of_mem _ z)
theorem dueF_none {its : List (Option Row)} (h : dueF its = none) : ∃ es : List Row, its = es.map some ∧ (es.map (·.1)).Nodup ∧ es.length ≤ 24 := by
  unfold dueF at h
  split at h
  · cases h
  · rename_i hl
    have h2 : fAt [] 0 its = none := by
      cases hx : fAt [] 0 its with
      | none => rfl
      | some i => rw [hx] at h; cases h
    obtain ⟨es, h1, h3, _⟩ := fAt_none h2
    refine ⟨es, h1, h3, ?_⟩
    rw [h1, List.length_map] at hl
    omega
/-- a thing that is asked to be a row, and its fault -/
def RowF (K : PySem.W.Frag) (H : Hp) (v : V) (fo : Option Int) : Prop := (∃ l us its, v = .ref l ∧ RowA H l us ∧ ItT K H us its ∧ us.length ≤ 2000 ∧ fo = dueF its) ∨ (IsKr K H v false ∧ fo = some (-1))
theorem RowF.mono {K : PySem.W.Frag} {H H' : Hp} {v : V} {fo : Option Int} (e : Ex H H') (h : RowF K H v fo) : RowF K H' v fo := by
  rcases h with ⟨l, us, its, h1, h2, h3, h4⟩ | ⟨h1, h2⟩
  · exact .inl ⟨l, us, its, h1, h2.mono e, h3.mono e, h4⟩
  · exact .inr ⟨h1.mono e, h2⟩
section
variable {P : Program} {w : World} {K : PySem.W.Frag} {mg : Str → Option Value} {base : Heap} {f : Addr} {fd : FuncData}
/-! is_integer, is_between, is_router of any way -/
def WayI (K : PySem.W.Frag) (H : Hp) (v : V) (o : Option Int) : Prop := (∃ i, v = .int i ∧ o = some i) ∨ ((∃ b, v = .bl b) ∨ IsK K H v "int" false) ∧ o = none
theorem WayI.mono {H H' : Hp} {v : V} {o : Option Int} (e : Ex H H') (h : WayI K H v o) : WayI K H' v o := h.imp id fun ⟨a, b⟩ => ⟨a.imp id (IsK.mono e), b⟩
abbrev spInt2 (K : PySem.W.Frag) : Sp := spP fun H vs z => ∃ v o, vs = [v] ∧ WayI K H v o ∧ z = .bl o.isSome
theorem ok_int2 (B : Bl mg) (F : FnP K "is_integer" sIsInt f fd) : FnOk P w K mg base CX0 1 f fd ["thing"] (spInt2 K) := by
  refine F.ok scIsInt (fun vs H Q E h => ?_) (fun cdv A outer s H vs Q E hr h => ?_)
  · obtain ⟨z, ⟨v, d, rfl, _⟩, _⟩ := h
    rfl
  · obtain ⟨z, ⟨v, o, rfl, hv, rfl⟩, k⟩ := h
    refine ⟨_, pss_one (ps_ret (pe_and (pe_callB call_isi (by rfl) B.isi boot_isinstance (pa_cons (pv 0) (pa_cons (pe_bltn (v := .ty "int") (by rfl) B.int PyProof.Rows.boot_int rfl) pa_nil)))
      (pe_one (pe_not (pe_callB call_isi (by rfl) B.isi boot_isinstance (pa_cons (pv 0) (pa_cons (pe_bltn (v := .ty "bool") (by rfl) B.bool PyProof.Rows.boot_bool rfl) pa_nil))))))), ?_⟩
    have v0 : ∀ {H1 : Hp}, Ev (tVar 0) (start ["thing"] [v]) H1 v := ev_var rfl
    rcases hv with ⟨i, rfl, rfl⟩ | ⟨⟨b, rfl⟩ | hn, rfl⟩
    · exact s_ret (v := .bl (true && !false)) (ev_andV (ev_isk (K := K) v0 (isk_dq (.int i) (show kitB "int" "int" = some true by decide +kernel))) fun _ => ev_notV (ev_isk (K := K) v0 (isk_dq (.int i) (show kitB "int" "bool" = some false by decide +kernel)))) k
    · exact s_ret (v := .bl (true && !true)) (ev_andV (ev_isk (K := K) v0 (isk_dq (.bl b) (show kitB "bool" "int" = some true by decide +kernel))) fun _ => ev_notV (ev_isk (K := K) v0 (isk_dq (.bl b) (show kitB "bool" "bool" = some true by decide +kernel)))) k
    · exact s_ret (v := .bl (false && false)) (ev_andV (ev_isk (K := K) v0 hn) fun z => (by cases z)) k
def inR (a b : Int) : Option Int → Bool
  | some i => decide (a ≤ i) && decide (i ≤ b)
  | none => false
abbrev spBet2 (K : PySem.W.Frag) : Sp := spP fun H vs z => ∃ (a b : Int) (v : V) (o : Option Int), vs = [.int a, .int b, v] ∧ WayI K H v o ∧ z = .bl (inR a b o)
theorem ok_bet2 (C : Cal P w K mg base "is_integer" ["thing"] 1 (spInt2 K)) (F : FnP K "is_between" sBetween f fd) : FnOk P w K mg base CX0 2 f fd ["least", "most", "thing"] (spBet2 K) := by
  refine F.ok scBetween (fun vs H Q E h => ?_) (fun cdv A outer s H vs Q E hr h => ?_)
  · obtain ⟨z, ⟨a, b, v, d, rfl, _⟩, _⟩ := h
    rfl
  · obtain ⟨z, ⟨a, b, v, o, rfl, hv, rfl⟩, k⟩ := h
    refine ⟨_, pss_one (ps_ret (pe_and (pe_cal C hr (by rfl) (pa_cons (pv 2) pa_nil)) (pe_one (pe_chain op_le op_le (pv 0) (pv 2) (pv 1))))), ?_⟩
    have v0 : ∀ {H1 : Hp}, Ev (tVar 0) (start ["least", "most", "thing"] [.int a, .int b, v]) H1 (.int a) := ev_var rfl
    have v1 : ∀ {H1 : Hp}, Ev (tVar 1) (start ["least", "most", "thing"] [.int a, .int b, v]) H1 (.int b) := ev_var rfl
    have v2 : ∀ {H1 : Hp}, Ev (tVar 2) (start ["least", "most", "thing"] [.int a, .int b, v]) H1 v := ev_var rfl
    have c1 : Ev (tCall (spInt2 K) [] E0 (tCons (tVar 2) tNil)) (start ["least", "most", "thing"] [.int a, .int b, v]) H (.bl o.isSome) := ev_call (ea_cons v2 ea_nil) (spP_v fun H1 e => ⟨v, o, rfl, hv.mono e, rfl⟩)
    rcases hv with ⟨i, rfl, rfl⟩ | ⟨_, rfl⟩
    · exact s_ret (v := .bl (true && (decide (a ≤ i) && decide (i ≤ b)))) (ev_andV c1 fun _ => ev_chain v0 v2 v1 rv_I0 rv_I0) k
    · exact s_ret (v := .bl (false && false)) (ev_andV c1 fun z => (by cases z)) k
abbrev spRou2 (K : PySem.W.Frag) : Sp := spP fun H vs z => ∃ (n : Int) (v : V) (o : Option Int), vs = [.int n, v] ∧ WayI K H v o ∧ z = .bl (inR 0 (n - 1) o)
theorem ok_rou2 (C : Cal P w K mg base "is_between" ["least", "most", "thing"] 2 (spBet2 K)) (F : FnP K "is_router" sRouter f fd) : FnOk P w K mg base CX0 3 f fd ["size", "thing"] (spRou2 K) := by
  refine F.ok scRouter (fun vs H Q E h => ?_) (fun cdv A outer s H vs Q E hr h => ?_)
  · obtain ⟨z, ⟨n, v, d, rfl, _⟩, _⟩ := h
    rfl
  · obtain ⟨z, ⟨n, v, o, rfl, hv, rfl⟩, k⟩ := h
    refine ⟨_, pss_one (ps_ret (pe_cal C hr (by rfl) (pa_cons pe_int (pa_cons (pe_op op_sub (pv 0) pe_int) (pa_cons (pv 1) pa_nil))))), ?_⟩
    exact s_ret (ev_call (ea_cons ev_c (ea_cons (ev_op (ev_var rfl) ev_c rv_I0) (ea_cons (ev_var rfl) ea_nil))) (spP_v fun H1 e => ⟨0, n - 1, v, o, rfl, hv.mono e, rfl⟩)) k
/-! is_row, is_tuple_of, is_end -/
abbrev spRow3 (K : PySem.W.Frag) : Sp := spP fun H vs z => ∃ (v : V) (b : Bool), vs = [v] ∧ IsKr K H v b ∧ z = .bl b
theorem ok_row3 (B : Bl mg) (F : FnP K "is_row" sIsRow f fd) : FnOk P w K mg base CX0 1 f fd ["thing"] (spRow3 K) := by
  refine F.ok scIsRow (fun vs H Q E h => ?_) (fun cdv A outer s H vs Q E hr h => ?_)
  · obtain ⟨z, ⟨v, d, rfl, _⟩, _⟩ := h
    rfl
  · obtain ⟨z, ⟨v, b, rfl, hv, rfl⟩, k⟩ := h
    exact ⟨_, pss_one (ps_ret (pe_callB call_isiT (by rfl) B.isi boot_isinstance (pa_cons (pv 0) (pa_cons (pe_tup (pa_cons (pe_bltn (v := .ty "list") (by rfl) B.list PyProof.Rows.boot_list rfl) (pa_cons (pe_bltn (v := .ty "tuple") (by rfl) B.tuple PyProof.Rows.boot_tuple rfl) pa_nil))) pa_nil)))),
      s_ret (ev_iskr (ev_var rfl) hv) k⟩
abbrev spTupOf3 (K : PySem.W.Frag) : Sp := spP fun H vs z => ∃ (m : Int) (v : V), vs = [.int m, v] ∧ ((∃ b xs, v = .ref b ∧ H b = some (.tup xs) ∧ z = .bl (decide (V.int (xs.length : Int) = V.int m))) ∨ (IsK K H v "tuple" false ∧ z = .bl false))
theorem ok_tupOf3 (B : Bl mg) (F : FnP K "is_tuple_of" sTupOf f fd) : FnOk P w K mg base CX0 1 f fd ["many", "thing"] (spTupOf3 K) := by
  refine F.ok scTupOf (fun vs H Q E h => ?_) (fun cdv A outer s H vs Q E hr h => ?_)
  · obtain ⟨z, ⟨m, v, rfl, _⟩, _⟩ := h
    rfl
  · obtain ⟨z, ⟨m, v, rfl, hv⟩, k⟩ := h
    refine ⟨_, pss_one (ps_ret (pe_and (pe_callB call_isi (by rfl) B.isi boot_isinstance (pa_cons (pv 1) (pa_cons (pe_bltn (v := .ty "tuple") (by rfl) B.tuple PyProof.Rows.boot_tuple rfl) pa_nil)))
      (pe_one (pe_cmpR op_eq (pe_callB call_len_seq (by rfl) B.len PySem.boot_len (pa_cons (pv 1) pa_nil)) (pv 0) (nomark _))))), ?_⟩
    have v0 : ∀ {H1 : Hp}, Ev (tVar 0) (start ["many", "thing"] [.int m, v]) H1 (.int m) := ev_var rfl
    have v1 : ∀ {H1 : Hp}, Ev (tVar 1) (start ["many", "thing"] [.int m, v]) H1 v := ev_var rfl
    rcases hv with ⟨b, xs, rfl, hb, rfl⟩ | ⟨hn, rfl⟩
    · exact s_ret (v := .bl (true && decide (V.int (xs.length : Int) = V.int m))) (ev_andV (ev_isk (K := K) v1 (isk_tup hb (show kitB "tuple" "tuple" = some true by decide +kernel))) fun _ => ev_op (r := rEq) (ev_lenT (K := K) v1 (st_of hb)) v0 (rv_eq rfl)) k
    · exact s_ret (v := .bl (false && false)) (ev_andV (ev_isk (K := K) v1 hn) fun z => (by cases z)) k
abbrev spEnd3 (K : PySem.W.Frag) : Sp := spP fun H vs z => ∃ v : V, vs = [v] ∧ ((∃ x : Str, v = .str x ∧ z = .bl (hereB x)) ∨ (NSt K H v ∧ z = .bl false))
theorem ok_end3 (B : Bl mg) {t1 t2 : Tok} (hM1 : mg "HERE" = some (.str "here" t1)) (hM2 : mg "DROP" = some (.str "drop" t2)) (F : FnP K "is_end" sEnd f fd) : FnOk P w K mg base CX0 1 f fd ["thing"] (spEnd3 K) := by
  refine F.ok scEnd (fun vs H Q E h => ?_) (fun cdv A outer s H vs Q E hr h => ?_)
  · obtain ⟨z, ⟨v, rfl, _⟩, _⟩ := h
    rfl
  · obtain ⟨z, ⟨v, rfl, hv⟩, k⟩ := h
    refine ⟨_, pss_one (ps_ret (pe_and (pe_callB call_isi (by rfl) B.isi boot_isinstance (pa_cons (pv 0) (pa_cons (pe_bltn (v := .ty "str") (by rfl) B.str PyProof.Rows.boot_str rfl) pa_nil)))
      (pe_one (pe_cmpR (op_in_seqK (K := K) rfl) (pv 0) (pe_tup (pa_cons (pe_glob (v := .str "here") (by rfl) hM1 ⟨_, rfl⟩) (pa_cons (pe_glob (v := .str "drop") (by rfl) hM2 ⟨_, rfl⟩) pa_nil))) rfl)))), ?_⟩
    have v0 : ∀ {H1 : Hp}, Ev (tVar 0) (start ["thing"] [v]) H1 v := ev_var rfl
    rcases hv with ⟨x, rfl, rfl⟩ | ⟨hn, rfl⟩
    · exact s_ret (v := .bl (true && hereB x)) (ev_andV (ev_isiS (K := K) v0) fun _ => ev_inS (K := K) v0 (es_tup (xs := [.str "here", .str "drop"]) (ea_cons ev_c (ea_cons ev_c ea_nil)) (by show 2 ≤ 100000; decide)) rfl rfl) k
    · exact s_ret (v := .bl (false && false)) (ev_andV (ev_isiN (K := K) v0 hn) fun z => (by cases z)) k
end
end Wk

set_option Elab.async false
set_option linter.all false
set_option maxRecDepth 100000
set_option maxHeartbeats 4000000
namespace Wk
open PySem PySem.Spec PyProof.Rows L2 Evl
/-! what isinstance tells of a value, whatever is laid -/
section
variable {K : PySem.W.Frag} {σ : L2.St} {H : Hp} {ta : TE}
end
theorem call_isCK {X : Cx} {K : PySem.W.Frag} {C : Addr} (hK : X.K = K) (c : C8.InsC K C) : CallR X (.builtin "isinstance") (fun xs H Q => ∃ a dx fs, xs = [.ref a, .ref C] ∧ H a = some (.ins C dx fs) ∧ Q (.bl true) H) := by
  subst hK
  exact C8.call_isC c
theorem isR_yes {n : Nat} {u : Nat} (h : u < n) : isR (n : Int) (.int (u : Int)) = true := by
  unfold isR isI valI
  rw [decide_eq_true (show (0 : Int) ≤ u by omega), decide_eq_true (show (u : Int) ≤ (n : Int) - 1 by omega)]
  rfl
section
variable {K : PySem.W.Frag} {σ : L2.St} {H : Hp} {te : TE}
/-- [e for y, z in t], t a tuple of pairs -/
theorem el_lcT2 {a : Addr} {xs : List V} {tl : TE} {j1 j2 : Nat} {vs : List Nat} (v : Nat → V) (h : Ev tl σ H (.ref a)) (hx : H a = some (.tup xs)) (hz : xs.length ≤ 40000) (two : ∀ (i : Nat) x, xs[i]? = some x → ∃ b y z, x = .ref b ∧ H b = some (.tup [y, z])) (hw : ∀ x y, wipe (((wipe σ vs).set j1 (some x)).set j2 (some y)) vs = wipe σ vs)
    (he : ∀ (i : Nat) (b : Addr) (y z : V) H1, Ex H H1 → xs[i]? = some (.ref b) → H b = some (.tup [y, z]) → Ev te (((wipe σ vs).set j1 (some y)).set j2 (some z)) H1 (v i)) :
    EvL (tLc (iTup K tl) (gTup K 2 (gCons (gName j1) (gCons (gName j2) gNil))) tYes te vs) σ H (given xs.length (fun _ => true) v) := fun H0 e Q q => h H0 e _ fun H1 e1 => ⟨a, rfl, ⟨xs, st_of ((e.trans e1) _ _ hx)⟩, fun Dl hD =>
  lc_it (walk_tup (K := K) (a := a) (xs := xs)) (Cw H1 (fun _ => true) v Dl) ⟨hD, Ex.new hD, upd_same⟩ (fun i H' _ p => st_of (((e.trans e1).trans p.2.1) _ _ hx))
    (fun i x H' H2 hi p y => by
      obtain ⟨rfl, hxi⟩ := y
      obtain ⟨b, y, z, rfl, hb⟩ := two i x hxi
      exact ⟨b, _, rfl, st_of (((e.trans e1).trans p.2.1) _ _ hb), rfl, g_two ⟨hw y z, cw_turn p (by omega) et_yes (fun _ => he i b y z H1 (e.trans e1) hxi hb)⟩⟩)
    (fun H' p => q Dl H' (fresh_back e1 p.1) (e1.trans p.2.1) p.2.2)⟩
end
/-! rows of tables, fields -/
inductive TsT (CT : Addr) (H : Hp) : List V → List (List Row) → Prop
  | nil : TsT CT H [] []
  | cons {x : Addr} {es : List Row} {us : List V} {ess : List (List Row)} : Tb CT H x es → TsT CT H us ess → TsT CT H (.ref x :: us) (es :: ess)
theorem TsT.mono {CT : Addr} {H H' : Hp} (e : Ex H H') : ∀ {us : List V} {ess : List (List Row)}, TsT CT H us ess → TsT CT H' us ess
  | _, _, .nil => .nil
  | _, _, .cons h t => .cons (h.mono e) (t.mono e)
theorem TsT.length {CT : Addr} {H : Hp} : ∀ {us : List V} {ess : List (List Row)}, TsT CT H us ess → us.length = ess.length
  | _, _, .nil => rfl
  | _, _, .cons _ t => congrArg (· + 1) t.length
theorem TsT.at_ {CT : Addr} {H : Hp} : ∀ {us : List V} {ess : List (List Row)}, TsT CT H us ess → ∀ {i : Nat} {u : V}, us[i]? = some u → ∃ x es, u = .ref x ∧ ess[i]? = some es ∧ Tb CT H x es
  | _, _, .cons h t, 0, u, hu => ⟨_, _, (Option.some.inj hu).symm, rfl, h⟩
  | _, _, .cons _ t, i + 1, u, hu => t.at_ (i := i) hu
theorem TsT.of1 {CT : Addr} {H H' : Hp} {x C dx : Addr} {fs : List (Str × V)} (hne : C ≠ CT) (o : Of1 x H H') (hx : H x = some (.ins C dx fs)) : ∀ {us : List V} {ess : List (List Row)}, TsT CT H us ess → TsT CT H' us ess
  | _, _, .nil => .nil
  | _, _, .cons h t => by
    refine .cons ?_ (t.of1 hne o hx)
    obtain ⟨dy, gs, te, nd, us', es', h1, h2, h3, h4, h5, h6, h7, h8⟩ := h
    exact ⟨dy, gs, te, nd, us', es', o _ _ (fun z => by rw [z, hx] at h1; injection h1 with h1; injection h1 with h1; exact hne h1) h1, h2, h3, h4, o _ _ (fun z => by rw [z, hx] at h5; cases h5) h5, h6.of1 o hx, h7, o _ _ (fun z => by rw [z, hx] at h8; cases h8) h8⟩
def WayN (n : Nat) (v : V) : Prop := v = .str "here" ∨ v = .str "drop" ∨ ∃ i : Nat, i < n ∧ v = .int (i : Int)
theorem WayN.nx {n : Nat} {v : V} (hn : n ≤ 8) (h : WayN n v) : NxV v := h.imp id fun h => h.imp id fun ⟨i, h1, h2⟩ => ⟨i, by omega, h2⟩
def Fl (CF CT : Addr) (H : Hp) (x : Addr) (ess : List (List Row)) : Prop := ∃ dx fs t ts, H x = some (.ins CF dx fs) ∧ fs.lookup ("size" : Str) = some (.int (ess.length : Int)) ∧ fs.lookup ("_tables" : Str) = some (.ref t) ∧ fs.lookup ("table" : Str) = none ∧ H t = some (.tup ts) ∧ TsT CT H ts ess
theorem Fl.mono {CF CT : Addr} {H H' : Hp} {x : Addr} {ess : List (List Row)} (e : Ex H H') (h : Fl CF CT H x ess) : Fl CF CT H' x ess := by
  obtain ⟨dx, fs, t, ts, h1, h2, h3, h4, h5, h6⟩ := h
  exact ⟨dx, fs, t, ts, e _ _ h1, h2, h3, h4, e _ _ h5, h6.mono e⟩
structure FXc (K : PySem.W.Frag) (CF : Addr) : Prop where
  cl : Cls K CF
  nS : NoAttr K CF "size"
  nT : NoAttr K CF "_tables"
/-- is it an end -/
def isFin : V → Bool
  | .str _ => true
  | _ => false
section
variable {P : Program} {w : World} {K : PySem.W.Frag} {mg : Str → Option Value} {base : Heap} {f : Addr} {fd : FuncData} {CT CF : Addr}
/-! is_end, is_onto -/
abbrev spEndW : Sp := spP fun H vs z => ∃ v, vs = [v] ∧ NxV v ∧ z = .bl (isFin v)
theorem ok_endW (B : Bl mg) {t1 t2 : Tok} (hM1 : mg "HERE" = some (.str "here" t1)) (hM2 : mg "DROP" = some (.str "drop" t2)) (F : FnP K "is_end" sEnd f fd) : FnOk P w K mg base CX0 1 f fd ["thing"] spEndW := by
  refine F.ok scEnd (fun vs H Q E h => ?_) (fun cdv A outer s H vs Q E hr h => ?_)
  · obtain ⟨z, ⟨x, rfl, _⟩, _⟩ := h
    rfl
  · obtain ⟨z, ⟨v, rfl, hn, rfl⟩, k⟩ := h
    refine ⟨_, pss_one (ps_ret (pe_and (pe_callB call_isi (by rfl) B.isi boot_isinstance (pa_cons (pv 0) (pa_cons (pe_bltn (v := .ty "str") (by rfl) B.str PyProof.Rows.boot_str rfl) pa_nil)))
      (pe_one (pe_cmpR (op_in_seqK (K := K) rfl) (pv 0) (pe_tup (pa_cons (pe_glob (v := .str "here") (by rfl) hM1 ⟨_, rfl⟩) (pa_cons (pe_glob (v := .str "drop") (by rfl) hM2 ⟨_, rfl⟩) pa_nil))) rfl)))), ?_⟩
    have yes : ∀ x : Str, inV (.str x) [.str "here", .str "drop"] = true → (∀ H', Ex H H' → Q (.bl true) H') → tRet (tAndV (tCB (rIsi K) (tCons (tVar 0) (tCons (tC (.ty "str")) tNil))) (tOp (rIn K false) (tVar 0) (tTup (tCons (tC (.str "here")) (tCons (tC (.str "drop")) tNil))))) { nx := fun _ H' => Q .non H', rt := Q, bk := fun _ _ => False, ct := fun _ _ => False } (start ["thing"] [V.str x]) H := fun x hx k => by
      have v0 : ∀ {H1 : Hp}, Ev (tVar 0) (start ["thing"] [V.str x]) H1 (.str x) := ev_var rfl
      refine s_ret (v := .bl (true && inV (.str x) [.str "here", .str "drop"])) (ev_andV (ev_isiS (K := K) v0) fun _ => ev_inS (K := K) v0 (es_tup (xs := [.str "here", .str "drop"]) (ea_cons ev_c (ea_cons ev_c ea_nil)) (by show 2 ≤ 100000; decide)) rfl rfl) ?_
      rw [hx]
      exact k
    rcases hn with rfl | rfl | ⟨i, hi, rfl⟩
    · exact yes _ (by decide +kernel) k
    · exact yes _ (by decide +kernel) k
    · have v0 : ∀ {H1 : Hp}, Ev (tVar 0) (start ["thing"] [V.int (i : Int)]) H1 (.int (i : Int)) := ev_var rfl
      exact s_ret (v := .bl false) (ev_andV (a := false) (b := false) (ev_isk (K := K) v0 (isk_dq (.int _) (kit_str (.int _)))) fun z => by cases z) k
abbrev spOnto : Sp := spP fun H vs z => ∃ (n : Nat) (v : V), vs = [.int (n : Int), v] ∧ n ≤ 8 ∧ WayN n v ∧ z = .bl true
abbrev sOnto : Stmt := top 38
theorem scOnto : FnScope ["size", "onto"] ["size", "onto"] (defScope sOnto) := ⟨rfl, rfl, rfl, by decide +kernel, rfl, by decide +kernel, by decide +kernel⟩
theorem ok_onto (CE : Cal P w K mg base "is_end" ["thing"] 1 spEndW) (CO : Cal P w K mg base "is_router" ["size", "thing"] 3 spRouter) (F : FnP K "is_onto" sOnto f fd) : FnOk P w K mg base CX0 4 f fd ["size", "onto"] spOnto := by
  refine F.ok scOnto (fun vs H Q E h => ?_) (fun cdv A outer s H vs Q E hr h => ?_)
  · obtain ⟨z, ⟨n, v, rfl, _⟩, _⟩ := h
    rfl
  · obtain ⟨z, ⟨n, v, rfl, hn8, hn, rfl⟩, k⟩ := h
    refine ⟨_, pss_one (ps_ret (pe_or (pe_cal CE hr (by rfl) (pa_cons (pv 1) pa_nil)) (pe_one (pe_cal CO hr (by rfl) (pa_cons (pv 0) (pa_cons (pv 1) pa_nil)))))), ?_⟩
    have v1 : ∀ {H1 : Hp}, Ev (tVar 1) (start ["size", "onto"] [.int (n : Int), v]) H1 v := ev_var rfl
    have c1 : Ev (tCall spEndW [] E0 (tCons (tVar 1) tNil)) (start ["size", "onto"] [.int (n : Int), v]) H (.bl (isFin v)) := ev_call (ea_cons v1 ea_nil) (spP_v fun H1 e1 => ⟨v, rfl, hn.nx hn8, rfl⟩)
    have key : ∃ q2, (isFin v || q2) = true ∧ (isFin v = false → Ev (tCall spRouter [] E0 (tCons (tVar 0) (tCons (tVar 1) tNil))) (start ["size", "onto"] [.int (n : Int), v]) H (.bl q2)) := by
      refine ⟨true, Bool.or_true _, fun hf => ?_⟩
      rcases hn with rfl | rfl | ⟨i, hi, rfl⟩
      · cases hf
      · cases hf
      · exact ev_call (ea_cons (ev_var rfl) (ea_cons v1 ea_nil)) (spP_v fun H1 e => ⟨(n : Int), _, .int (i : Int), rfl, .int _, by rw [isR_yes hi]⟩)
    obtain ⟨q2, h1, h2⟩ := key
    refine s_ret (v := .bl (isFin v || q2)) (ev_orV c1 h2) fun H2 e2 => ?_
    rw [h1]
    exact k H2 e2
/-! refuse_no_router -/
abbrev spRNR : Sp := spP fun H vs z => ∃ (n r : Nat), vs = [.int (n : Int), .int (r : Int)] ∧ r < n ∧ z = .non
abbrev sRNR : Stmt := top 15
theorem scRNR : FnScope ["size", "thing"] ["size", "thing"] (defScope sRNR) := ⟨rfl, rfl, rfl, by decide +kernel, rfl, by decide +kernel, by decide +kernel⟩
theorem ok_rnr (CR : Cal P w K mg base "is_router" ["size", "thing"] 3 spRouter) (F : FnP K "refuse_no_router" sRNR f fd) : FnOk P w K mg base CX0 4 f fd ["size", "thing"] spRNR := by
  refine F.ok scRNR (fun vs H Q E h => ?_) (fun cdv A outer s H vs Q E hr h => ?_)
  · obtain ⟨z, ⟨n, r, rfl, _⟩, _⟩ := h
    rfl
  · obtain ⟨z, ⟨n, r, rfl, hrn, rfl⟩, k⟩ := h
    refine ⟨_, pss_one (ps_if (pt_not (pt_val (pe_cal CR hr (by rfl) (pa_cons (pv 0) (pa_cons (pv 1) pa_nil))))) (pss_one ps_never) pss_nil), ?_⟩
    have c2 : Ev (tCall spRouter [] E0 (tCons (tVar 0) (tCons (tVar 1) tNil))) (start ["size", "thing"] [.int (n : Int), .int (r : Int)]) H (.bl true) := ev_call (ea_cons (ev_var rfl) (ea_cons (ev_var rfl) ea_nil)) (spP_v fun H1 e => ⟨(n : Int), _, .int (r : Int), rfl, .int _, by rw [isR_yes hrn]⟩)
    exact s_when (b := !true) (et_not (et_B c2)) (fun z => by cases z) fun _ H1 e1 => k H1 e1
/-! Table.onward, asked of addresses only -/
def spOnw0 (CT : Addr) : Sp := fun vs H Q _ => ∃ (x : Addr) (l : List Nat) (es : List Row), vs = [.ref x, .str (T l)] ∧ Tb CT H x es ∧ l.length ≤ 100 ∧ adrB l = true ∧ ∀ H' z, Ex H H' → LongIs es l z → Q z H'
theorem ok_onw0 {t1 : Tok} (hM : mg "DROP" = some (.str "drop" t1)) (X : TX K CT) (CA : Cal P w K mg base "is_address" ["thing"] 2 (spAddr K)) (CG : Cal P w K mg base "beginnings" ["address"] 1 spBeg) (F : FnM K "onward" "Table.onward" sOnw f fd) : FnOk P w K mg base CX0 3 f fd ["self", "address"] (spOnw0 CT) := by
  refine F.ok scOnw (fun vs H Q E h => ?_) (fun cdv A outer s H vs Q E hr h => ?_)
  · obtain ⟨x, l, es, rfl, _⟩ := h
    rfl
  · obtain ⟨x, l, es, rfl, hT, hl, had, k⟩ := h
    have hu : (A.deeper (envOfC "Table.onward" (defScope sOnw) s.heap.objs.size f cdv)).units + 1 < cLine := by have := hr.un; omega
    refine ⟨_, pss_cons (ps_if (pt_not (pt_val (pe_cal CA hr (by rfl) (pa_cons (pv 1) pa_nil)))) (pss_one ps_never) pss_nil)
      (pss_cons (ps_for (passes_of rfl) rfl (pi_list (pe_cal CG hr (by rfl) (pa_cons (pv 1) pa_nil))) (pg_name (i := 2) scOnw.nd rfl (Or.inl rfl))
        (pss_one (ps_if (pt_cmp (pc_din hu (pv 2) (pe_fld (pv 0) rfl))) (pss_one (ps_ret (pe_dget hu (pe_fld (pv 0) rfl) (pv 2) (fun _ _ => rfl)))) pss_nil)))
      (pss_one (ps_ret (pe_glob (v := .str "drop") (by rfl) hM ⟨_, rfl⟩)))), ?_⟩
    obtain ⟨dx, fs, te, nd, us', es', hx, lE, lN, lO, hte, hus, hsr, hnd⟩ := hT
    have v1 : ∀ {H1 : Hp}, Ev (tVar 1) (start nOnw [V.ref x, .str (T l)]) H1 (.str (T l)) := ev_var rfl
    have c1 : Ev (tCall (spAddr K) [] E0 (tCons (tVar 1) tNil)) (start nOnw [V.ref x, .str (T l)]) H (.bl true) := ev_call (ea_cons v1 ea_nil) (spP_v fun H1 e1 => ⟨_, rfl, .inl ⟨l, rfl, hl, by rw [had]⟩⟩)
    refine q_when (b := !true) (et_not (et_B c1)) (fun z => by cases z) fun _ H1 e1 => ?_
    have c2 : EvL (tCall spBeg [] E0 (tCons (tVar 1) tNil)) (start nOnw [V.ref x, .str (T l)]) H1 (begs l) := fun H2 e2 Q2 q2 => ⟨_, rfl, l, rfl, hl, fun H3 D e3 hD hD3 => q2 D H3 hD e3 hD3⟩
    have hbl : (begs l).length = 11 := by unfold begs; simp
    refine q_forNLn (K := K) c2 (fun D i σ' H' => ∃ o, σ' = [some (.ref x), some (.str (T l)), o] ∧ Ex H H' ∧ H' D = some (.lst (begs l)) ∧ ∀ j, j < i → valV es (l.take (10 - j)) = none) (fun D H2 hD e2 hD2 => ⟨_, rfl, e1.trans e2, hD2, fun j hj => absurd hj (Nat.not_lt_zero _)⟩) (fun D i σ' H' _ hp => ?_) (fun D i y σ' H' hy hp => ?_) (fun D σ' H' hp => ?_)
    · obtain ⟨_, _, _, hD, _⟩ := hp
      exact sq_of hD
    · obtain ⟨o, rfl, e2, hD2, hno⟩ := hp
      have hi : i < 11 := by rw [← hbl]; exact (List.getElem?_eq_some_iff.mp hy).1
      have hyv : y = .str (T (l.take (10 - i))) := by
        unfold begs at hy
        rw [List.getElem?_map, List.getElem?_range hi] at hy
        exact (Option.some.inj hy).symm
      subst hyv
      change tIfS _ _ _ _ [some (.ref x), some (.str (T l)), some (.str (T (l.take (10 - i))))] H'
      have fN : ∀ {H3 : Hp}, Ex H H3 → Ev (tFld K (tVar 0) "_nexts") [some (.ref x), some (.str (T l)), some (.str (T (l.take (10 - i))))] H3 (.ref nd) := fun {H3} e3 H4 e4 Q4 q4 => ⟨.ref x, rfl, x, CT, dx, _, _, rfl, e4 _ _ (e3 _ _ hx), X.ic.cl, X.nN, lN, q4 H4 (Ex.refl H4)⟩
      have d1 : Ev (tDIn (tVar 2) (tFld K (tVar 0) "_nexts")) [some (.ref x), some (.str (T l)), some (.str (T (l.take (10 - i))))] H' (.bl (valV es (l.take (10 - i))).isSome) := fun H5 e5 Q5 q5 => ⟨_, rfl, fN e2 H5 e5 _ fun H6 e6 => ⟨nd, _, rfl, .inl ⟨kvOf es, .inr (T (l.take (10 - i))), .inl (e6 _ _ (e5 _ _ (e2 _ _ hnd))), rfl, rfl⟩, by rw [kv_val]; exact q5 H6 e6⟩⟩
      refine s_when (b := (valV es (l.take (10 - i))).isSome) (et_B d1) (fun hs H5 e5 => ?_) fun hs H5 e5 => ?_
      · obtain ⟨z, hz⟩ := Option.isSome_iff_exists.mp hs
        have g1 : Ev (tDGet (tFld K (tVar 0) "_nexts") (tVar 2)) [some (.ref x), some (.str (T l)), some (.str (T (l.take (10 - i))))] H5 z := fun H6 e6 Q6 q6 => fN (e2.trans e5) H6 e6 _ fun H7 e7 => ⟨_, rfl, nd, z, rfl, .inl ⟨kvOf es, .inr (T (l.take (10 - i))), .inl (e7 _ _ (e6 _ _ (e5 _ _ (e2 _ _ hnd)))), rfl, by rw [kv_val]; exact hz.symm⟩, q6 H7 e7⟩
        exact s_ret g1 fun H6 e6 => k H6 z ((e2.trans e5).trans e6) (.inl ⟨i, by omega, hz, hno⟩)
      · refine ⟨_, rfl, e2.trans e5, e5 _ _ hD2, fun j hj => ?_⟩
        by_cases c : j = i
        · rw [c]
          cases hz : valV es (l.take (10 - i)) with
          | none => rfl
          | some z => rw [hz] at hs; cases hs
        · exact hno j (by omega)
    · obtain ⟨o, rfl, e2, hD2, hno⟩ := hp
      rw [hbl] at hno
      exact k H' _ e2 (.inr ⟨rfl, fun j hj => hno j (by omega)⟩)
end
end Wk

set_option Elab.async false
set_option linter.all false
set_option maxRecDepth 100000
set_option maxHeartbeats 4000000
namespace Wk
open PySem PySem.Spec PyProof.Rows L2 Evl
section
variable {P : Program} {w : World} {K : PySem.W.Frag} {mg : Str → Option Value} {base : Heap} {f : Addr} {fd : FuncData} {CT CF : Addr}
/-! refuse_wrong_tables -/
def FOk (ess : List (List Row)) : Prop := 1 ≤ ess.length ∧ ess.length ≤ 8 ∧ ∀ es ∈ ess, ∀ e ∈ es, WayN ess.length e.2
def spRWT (CT : Addr) : Sp := fun vs H Q _ => ∃ (t : Addr) (ts : List V) (ess : List (List Row)), vs = [.ref t] ∧ H t = some (.tup ts) ∧ TsT CT H ts ess ∧ FOk ess ∧ (∀ es ∈ ess, es.length ≤ 100) ∧ ∀ H', Ex H H' → Q .non H'
abbrev sRWT : Stmt := top 37
abbrev nRWT : List Str := ["tables", "router", "item", "_", "onto"]
theorem scRWT : FnScope nRWT ["tables"] (defScope sRWT) := ⟨rfl, rfl, rfl, by decide +kernel, rfl, by decide +kernel, by decide +kernel⟩
abbrev rIsC (CT : Addr) : List V → Hp → VK → Prop := fun xs H Q => ∃ a dx fs, xs = [.ref a, .ref CT] ∧ H a = some (.ins CT dx fs) ∧ Q (.bl true) H
theorem call_lenK {X : Cx} {K : PySem.W.Frag} (hK : X.K = K) : CallR X (.builtin "len") (rLenS K) := by
  subst hK
  exact call_len_seq
theorem ok_rwt (B : Bl mg) {t1 : Tok} (hM : mg "MOST_ROUTERS" = some (.int 8 t1)) (X : TX K CT) (g : mg "Table" = some (.ref CT)) (CO : Cal P w K mg base "is_onto" ["size", "onto"] 4 spOnto) (F : FnP K "refuse_wrong_tables" sRWT f fd) : FnOk P w K mg base CX0 5 f fd ["tables"] (spRWT CT) := by
  refine F.ok scRWT (fun vs H Q E h => ?_) (fun cdv A outer s H vs Q E hr h => ?_)
  · obtain ⟨t, ts, ess, rfl, _⟩ := h
    rfl
  · obtain ⟨t, ts, ess, rfl, ht, hts, ⟨hf1, hf8, hfw⟩, hlen, k⟩ := h
    refine ⟨_, pss_cons (ps_if (PW.pt (pw_or (pt_not (pt_val (pe_callB call_isi (by rfl) B.isi boot_isinstance (pa_cons (pv 0) (pa_cons (pe_bltn (v := .ty "tuple") (by rfl) B.tuple PyProof.Rows.boot_tuple rfl) pa_nil)))))
        (pw_or1 (pt_not (pt_chain op_le op_le pe_int (pe_callB call_len_seq (by rfl) B.len PySem.boot_len (pa_cons (pv 0) pa_nil)) (pe_glob (v := .int 8) (by rfl) hM ⟨_, rfl⟩)))))) (pss_one ps_never) pss_nil)
      (pss_one (ps_for (passes_of rfl) rfl (pi_enumK (K := K) rfl (by rfl) B.enum (pa_cons (pv 0) pa_nil)) (pg_tup rfl (pgs_cons (pg_name (i := 1) scRWT.nd rfl (.inl rfl)) (pgs_cons (pg_name (i := 2) scRWT.nd rfl (.inl rfl)) pgs_nil)))
        (pss_one (ps_if (PW.pt (pw_or (pt_not (pt_val (pe_callB (call_isCK (K := K) rfl X.ic) (by rfl) B.isi boot_isinstance (pa_cons (pv 2) (pa_cons (pe_glob (v := .ref CT) (by rfl) g rfl) pa_nil)))))
          (pw_or1 (pt_not (pt_val (pe_callB (cr_all rfl) (by rfl) B.all boot_all (pa_cons
            (pe_lc (own := [("_", 3), ("onto", 4)]) (g := gTup K 2 (gCons (gName 3) (gCons (gName 4) gNil))) (tt := tYes) rfl scRWT.nd (pi_tup (pe_fld (pv 2) rfl)) (blkOk_by (N := nRWT) (sc := defScope sRWT) (by decide +kernel))
              (fun _ _ _ _ _ => pg_tup rfl (pgs_cons (pg_name (i := 3) scRWT.nd rfl (.inl rfl)) (pgs_cons (pg_name (i := 4) scRWT.nd rfl (.inl rfl)) pgs_nil))) (fun _ _ _ _ _ => pts_nil)
              (fun _ _ _ _ _ => pe_cal CO hr (by rfl) (pa_cons (pe_callB (call_lenK (K := K) rfl) (by rfl) B.len PySem.boot_len (pa_cons (pv 0) pa_nil)) (pa_cons (pv 4) pa_nil)))) pa_nil))))))) (pss_one ps_never) pss_nil)))), ?_⟩
    have hul := hts.length
    have v0 : ∀ {H1 : Hp}, Ev (tVar 0) (start nRWT [V.ref t]) H1 (.ref t) := ev_var rfl
    have c1 : Ev (tCB (rIsi K) (tCons (tVar 0) (tCons (tC (.ty "tuple")) tNil))) (start nRWT [V.ref t]) H (.bl true) := ev_isk v0 (isk_tup ht (show kitB "tuple" "tuple" = some true by decide +kernel))
    have c2 := ev_chain (σ := start nRWT [V.ref t]) (H := H) (r := rI0 fun i j => .bl (decide (i ≤ j))) (r' := rI0 fun i j => .bl (decide (i ≤ j))) (i := 1) (j := (ts.length : Int)) (k := 8) ev_c (ev_lenT (K := K) v0 (st_of ht)) ev_c rv_I0 rv_I0
    refine q_when (b := !true || !(decide ((1 : Int) ≤ (ts.length : Int)) && decide ((ts.length : Int) ≤ 8))) (et_or (et_not (et_B c1)) fun _ => et_not (et_test c2)) (fun hb H1 e1 => ?_) fun _ H1 e1 => ?_
    · rw [decide_eq_true (by omega), decide_eq_true (by omega)] at hb
      cases hb
    refine s_forEnR (K := K) (H := H1) (xs := ts) (ev_var rfl) (.inr (e1 _ _ ht)) (fun i σ' H' => ∃ o1 o2, σ' = [some (.ref t), o1, o2, none, none] ∧ Ex H H') (fun H2 e2 => ⟨_, _, rfl, e1.trans e2⟩) (fun i σ' H' _ hp hr o ho => ?_) (fun i y T0 σ' H' hy hp hT0 => ?_) (fun σ' H' hp => ?_)
    · obtain ⟨_, _, _, e3⟩ := hp
      rw [e1 _ _ ht] at ho
      rw [← ho]
      exact e3 _ _ ht
    · obtain ⟨o1, o2, rfl, e3⟩ := hp
      have eT := Ex.new (o := .tup [.int (i : Nat), y]) hT0
      have hTT : (upd H' T0 (.tup [.int (i : Nat), y])) T0 = some (.tup [.int (i : Nat), y]) := upd_same
      generalize upd H' T0 (.tup [.int (i : Nat), y]) = H4 at *
      have e4 := e3.trans eT
      obtain ⟨x, es, rfl, hes, hT⟩ := hts.at_ hy
      refine ⟨T0, _, rfl, st_of hTT, rfl, g_two ?_⟩
      change tIfS _ _ _ _ [some (.ref t), some (.int (i : Nat)), some (.ref x), none, none] H4
      obtain ⟨dx, fs, te, nd, us', es', h1, h2, h3, h4, h5, h6, h7, h8⟩ := hT
      have i1 : Ev (tCB (rIsC CT) (tCons (tVar 2) (tCons (tC (.ref CT)) tNil))) [some (.ref t), some (.int (i : Nat)), some (.ref x), none, none] H4 (.bl true) := fun H5 e5 Q5 q5 => ⟨.ref x, rfl, x, dx, fs, rfl, e5 _ _ (e4 _ _ h1), q5 H5 (Ex.refl _)⟩
      have i2 : Ev (tFld K (tVar 2) "entries") [some (.ref t), some (.int (i : Nat)), some (.ref x), none, none] H4 (.ref te) := fun H5 e5 Q5 q5 => ⟨.ref x, rfl, x, CT, dx, fs, _, rfl, e5 _ _ (e4 _ _ h1), X.ic.cl, X.nE, h2, q5 H5 (Ex.refl _)⟩
      have hul' := h6.length
      have hes2 := h7.2.perm.length_eq
      have hmem := List.mem_of_getElem? hes
      have hl100 := hlen es hmem
      have hl := el_lcT2 (K := K) (σ := [some (.ref t), some (.int (i : Nat)), some (.ref x), none, none]) (H := H4) (te := tCall spOnto [] E0 (tCons (tCB (rLenS K) (tCons (tVar 0) tNil)) (tCons (tVar 4) tNil))) (tl := tFld K (tVar 2) "entries") (j1 := 3) (j2 := 4) (vs := [3, 4]) (fun _ => V.bl true) i2 (e4 _ _ h5) (by omega)
        (fun i2 y2 hy2 => by
          obtain ⟨b, e, rfl, he, hb⟩ := h6.at_ hy2
          exact ⟨b, _, _, rfl, e4 _ _ hb⟩) (fun _ _ => rfl) (fun i2 b y z H5 e5 hy2 hb => by
          obtain ⟨b', e, hbb, he, hb'⟩ := h6.at_ hy2
          cases hbb
          rw [e4 _ _ hb'] at hb
          injection hb with hb
          injection hb with hb
          injection hb with hb0 hb
          injection hb with hb hb2
          subst hb
          exact ev_call (ea_cons (ev_lenT (K := K) (ev_var rfl) (st_of (e5 _ _ (e4 _ _ ht)))) (ea_cons (ev_var rfl) ea_nil)) (spP_v fun H6 e6 => ⟨ts.length, e.2, rfl, by omega, by rw [hul]; exact hfw es hmem e (h7.2.perm.mem_iff.mp (List.mem_of_getElem? he)), rfl⟩))
      have i3 := ev_allL (K := K) (bs := (List.range us'.length).map fun _ => true) (by rw [given_yesAll] at hl; rw [List.map_map]; exact hl)
      have hall : ((List.range us'.length).map fun _ => true).all id = true := by
        rw [List.all_eq_true]
        intro b hb
        obtain ⟨_, _, rfl⟩ := List.mem_map.mp hb
        rfl
      rw [hall] at i3
      exact s_when (b := !true || !true) (et_or (et_not (et_B i1)) fun _ => et_not (et_B i3)) (fun z => by cases z) fun _ H5 e5 => ⟨_, _, rfl, e4.trans e5⟩
    · obtain ⟨_, _, rfl, e3⟩ := hp
      exact k H' e3
/-! Field -/
def spFIn (CF CT : Addr) : Sp := fun vs H Q _ => ∃ (x t dx : Addr) (ts : List V) (ess : List (List Row)), vs = [.ref x, .ref t] ∧ H x = some (.ins CF dx []) ∧ H t = some (.tup ts) ∧ TsT CT H ts ess ∧ FOk ess ∧ (∀ es ∈ ess, es.length ≤ 100) ∧ ∀ H', Of1 x H H' → Fl CF CT H' x ess → Q .non H'
abbrev sFIn : Stmt := inClass (top 36) 0
theorem scFIn : FnScope ["self", "tables"] ["self", "tables"] (defScope sFIn) := ⟨rfl, rfl, rfl, by decide +kernel, rfl, by decide +kernel, by decide +kernel⟩
theorem ok_fIn (B : Bl mg) (hne : CF ≠ CT) (X : FXc K CF) (CW : Cal P w K mg base "refuse_wrong_tables" ["tables"] 5 (spRWT CT)) (F : FnM K "__init__" "Field.__init__" sFIn f fd) : FnOk P w K mg base CX0 6 f fd ["self", "tables"] (spFIn CF CT) := by
  refine F.ok scFIn (fun vs H Q E h => ?_) (fun cdv A outer s H vs Q E hr h => ?_)
  · obtain ⟨x, t, dx, ts, ess, rfl, _⟩ := h
    rfl
  · obtain ⟨x, t, dx, ts, ess, rfl, hx, ht, hts, hok, hlen, k⟩ := h
    refine ⟨_, pss_cons (ps_expr (pe_cal CW hr (by rfl) (pa_cons (pv 1) pa_nil)))
      (pss_cons (ps_fld (pv 0) (pe_callB call_len_seq (by rfl) B.len PySem.boot_len (pa_cons (pv 1) pa_nil)) rfl)
      (pss_one (ps_fld (pv 0) (pv 1) rfl))), ?_⟩
    refine ⟨.ref t, rfl, t, ts, ess, rfl, ht, hts, hok, hlen, fun H1 e1 => ?_⟩
    have hx1 := e1 _ _ hx
    refine ⟨.ref t, rfl, t, ts, rfl, Or.inr (st_of (e1 _ _ ht)), ?_⟩
    refine ⟨.ref x, rfl, x, CF, dx, [], rfl, hx1, X.cl, X.nS, by decide, ?_⟩
    have ln1 : (putF "size" (.int (ts.length : Int)) ([] : List (Str × V))).length ≤ 1 := len_putF _ _ _
    have lkE : (putF "size" (.int (ts.length : Int)) ([] : List (Str × V))).lookup ("size" : Str) = some (.int (ts.length : Int)) := lk_putS
    have lkO : (putF "size" (.int (ts.length : Int)) ([] : List (Str × V))).lookup ("table" : Str) = none := by rw [lk_putF (by decide +kernel)]; rfl
    generalize putF "size" (.int (ts.length : Int)) ([] : List (Str × V)) = fs1 at *
    have o2 := Of1.upd x H1 (.ins CF dx fs1)
    have hx2 : (upd H1 x (.ins CF dx fs1)) x = some (.ins CF dx fs1) := upd_same
    have ht1 := e1 _ _ ht
    have ht2 := o2 t _ (fun z => by rw [z, hx1] at ht1; cases ht1) ht1
    have hts2 := (hts.mono e1).of1 hne o2 hx1
    have o02 : Of1 x H (upd H1 x (.ins CF dx fs1)) := (Of1.ex e1).trans o2
    generalize upd H1 x (.ins CF dx fs1) = H2 at *
    refine ⟨.ref t, rfl, .ref x, rfl, x, CF, dx, fs1, rfl, hx2, X.cl, X.nT, Nat.lt_of_le_of_lt ln1 (by decide), ?_⟩
    have o3 := Of1.upd x H2 (.ins CF dx (putF "_tables" (.ref t) fs1))
    have hul := hts.length
    refine k _ (o02.trans o3) ⟨dx, _, t, ts, upd_same, ?_, lk_putS, ?_, ?_, hts2.of1 hne o3 hx2⟩
    · rw [lk_putF (by decide +kernel), ← hul]; exact lkE
    · rw [lk_putF (by decide +kernel)]; exact lkO
    · exact o3 t _ (fun z => by rw [z, hx2] at ht2; cases ht2) ht2
def spTab (CF CT : Addr) : Sp := fun vs H Q _ => ∃ (x : Addr) (r : Nat) (ess : List (List Row)) (es : List Row), vs = [.ref x, .int (r : Int)] ∧ Fl CF CT H x ess ∧ ess[r]? = some es ∧ ∀ H' t, Ex H H' → Tb CT H' t es → Q (.ref t) H'
abbrev sTab : Stmt := inClass (top 36) 1
theorem scTab : FnScope ["self", "router"] ["self", "router"] (defScope sTab) := ⟨rfl, rfl, rfl, by decide +kernel, rfl, by decide +kernel, by decide +kernel⟩
theorem ok_tab (X : FXc K CF) (CR : Cal P w K mg base "refuse_no_router" ["size", "thing"] 4 spRNR) (F : FnM K "table" "Field.table" sTab f fd) : FnOk P w K mg base CX0 5 f fd ["self", "router"] (spTab CF CT) := by
  refine F.ok scTab (fun vs H Q E h => ?_) (fun cdv A outer s H vs Q E hr h => ?_)
  · obtain ⟨x, r, ess, es, rfl, _⟩ := h
    rfl
  · obtain ⟨x, r, ess, es, rfl, hF, hes, k⟩ := h
    refine ⟨_, pss_cons (ps_expr (pe_cal CR hr (by rfl) (pa_cons (pe_fld (pv 0) rfl) (pa_cons (pv 1) pa_nil))))
      (pss_one (ps_ret (pe_ix ix_tup (pe_fld (pv 0) rfl) (pv 1) (fun _ _ => rfl)))), ?_⟩
    obtain ⟨dx, fs, t, ts, h1, h2, h3, h4, h5, h6⟩ := hF
    have hrl := (List.getElem?_eq_some_iff.mp hes).1
    have hul := h6.length
    have hrt : r < ts.length := by omega
    obtain ⟨a, es2, ha, hes2, hT⟩ := h6.at_ (List.getElem?_eq_getElem hrt)
    rw [hes] at hes2
    cases hes2
    refine ⟨.ref x, rfl, x, CF, dx, fs, _, rfl, h1, X.cl, X.nS, h2, .int (r : Int), rfl, .non, ⟨ess.length, r, rfl, hrl, rfl⟩, fun H1 e1 => ?_⟩
    refine ⟨.ref x, rfl, x, CF, dx, fs, _, rfl, e1 _ _ h1, X.cl, X.nT, h3, .int (r : Int), rfl, t, ts, (r : Int), ts[r], rfl, rfl, st_of (e1 _ _ h5), atI_nat (List.getElem?_eq_getElem hrt), ?_⟩
    rw [ha]
    exact k H1 a e1 (hT.mono e1)
end
end Wk

set_option Elab.async false
set_option linter.all false
set_option maxRecDepth 100000
set_option maxHeartbeats 4000000
namespace Wk
open PySem PySem.Spec PyProof.Rows L2 Evl
abbrev iV (l : List Nat) : List V := l.map fun (i : Nat) => V.int (i : Int)
theorem iV_flat (l : List Nat) : (iV l).all flatV = true := by
  rw [List.all_eq_true]
  intro v hv
  obtain ⟨i, _, rfl⟩ := List.mem_map.mp hv
  rfl
theorem iV_ints (l : List Nat) : iV l = (l.map fun (i : Nat) => (i : Int)).map V.int := by
  rw [List.map_map]
  rfl
theorem eqV_int {i j : Int} : eqV (.int i) (.int j) = decide (i = j) := by
  by_cases c : i = j
  · subst c; simp [eqV]
  · rw [decide_eq_false c]; simp [eqV, c]
theorem idx_lt {l : List Nat} {m k : Nat} (h : k < l.idxOf m) : ∀ y, l[k]? = some y → y ≠ m := fun y hy z => by
  subst z
  have h1 : k < l.length := (List.getElem?_eq_some_iff.mp hy).1
  have h2 : l.idxOf y ≤ k := by
    clear h
    induction l generalizing k with
    | nil => cases hy
    | cons a t ih =>
      by_cases c : a = y
      · subst c; rw [List.idxOf_cons_self]; exact Nat.zero_le _
      · rw [idx_ne c]
        cases k with
        | zero => exact absurd (Option.some.inj hy) c
        | succ k => exact Nat.succ_le_succ (ih hy (Nat.lt_of_succ_lt_succ h1))
  omega
section
variable {P : Program} {w : World} {K : PySem.W.Frag} {mg : Str → Option Value} {base : Heap} {f : Addr} {fd : FuncData} {CT CF : Addr}
/-- where a number stands first -/
theorem rindex_at {H : Hp} {Q : VK} {a : Addr} {l : List Nat} {m : Nat} (hl : SqL K H a (iV l)) (hm : m ∈ l) (q : Q (.int (l.idxOf m : Nat)) H) : rIndex K (.ref a) [.int (m : Int)] H Q := by
  have hi := List.idxOf_lt_length_of_mem hm
  refine ⟨a, iV l, .int (m : Int), l.idxOf m, .int (m : Int), rfl, rfl, hl, rfl, iV_flat l, ?_, ?_, ?_, q⟩
  · rw [List.getElem?_map, List.getElem?_eq_getElem hi, List.getElem_idxOf hi]
    rfl
  · rw [eqV_int]; simp
  · intro k z hk hz
    rw [List.getElem?_map] at hz
    cases e : l[k]? with
    | none => rw [e] at hz; cases hz
    | some y =>
      rw [e] at hz
      cases hz
      rw [eqV_int, decide_eq_false]
      intro z
      exact idx_lt hk y e (by omega)
/-! least_first -/
def spLF : Sp := fun vs H Q _ => ∃ (a : Addr) (l : List Nat), vs = [.ref a] ∧ H a = some (.lst (iV l)) ∧ l ≠ [] ∧ l.length ≤ 100 ∧ ∀ H' t, Ex H H' → H' t = some (.tup (iV (lf l))) → Q (.ref t) H'
abbrev sLF : Stmt := top 40
abbrev nLF : List Str := ["row", "place"]
theorem scLF : FnScope nLF ["row"] (defScope sLF) := ⟨rfl, rfl, rfl, by decide +kernel, rfl, by decide +kernel, by decide +kernel⟩
theorem ok_lf (B : Bl mg) (F : FnP K "least_first" sLF f fd) : FnOk P w K mg base CX0 1 f fd ["row"] spLF := by
  refine F.ok scLF (fun vs H Q E h => ?_) (fun cdv A outer s H vs Q E hr h => ?_)
  · obtain ⟨a, l, rfl, _⟩ := h
    rfl
  · obtain ⟨a, l, rfl, ha, hne, hl, k⟩ := h
    refine ⟨_, pss_cons (ps_set (i := 1) scLF.nd rfl (Or.inl rfl) (pe_bm PySem.F.plainAttrs_list PySem.F.slot_list_index PySem.F.type_list_index mt_index (pv 0) (pa_cons (pe_callB (cr_min rfl) (by rfl) B.min boot_min (pa_cons (pv 0) pa_nil)) pa_nil)))
      (pss_one (ps_ret (pe_callTy (call_tupleK (K := K) rfl) (by rfl) B.tuple PyProof.Rows.boot_tuple (pa_cons (pe_op op_cat (pe_slice sl_list (pv 0) (po_some (pv 1)) po_none) (pe_slice sl_list (pv 0) po_none (po_some (pv 1)))) pa_nil)))), ?_⟩
    refine ⟨.ref a, rfl, .inl ⟨rfl, _, sq_of ha⟩, .ref a, rfl, a, l.map fun (i : Nat) => (i : Int), rfl, by rw [← iV_ints]; exact sq_of ha, by rw [List.length_map]; exact List.length_pos_iff.mpr hne, fun m hm hle => ?_⟩
    obtain ⟨i, hi, rfl⟩ := List.mem_map.mp hm
    have hmin : l.min?.getD 0 = i := min_at hi fun y hy => by have := hle _ (List.mem_map.mpr ⟨y, hy, rfl⟩); omega
    dsimp only [tNil]
    refine rindex_at (sq_of ha) hi ?_
    have hp : l.idxOf i ≤ l.length := Nat.le_of_lt (List.idxOf_lt_length_of_mem hi)
    have hlf : lf l = l.drop (l.idxOf i) ++ l.take (l.idxOf i) := by unfold lf; rw [hmin]
    generalize l.idxOf i = j at *
    have hL : (iV l).length = l.length := by rw [List.length_map]
    refine g_name ?_
    change tRet _ _ [some (.ref a), some (.int (j : Int))] H
    have e1 := el_sl (K := K) (te := tVar 0) (tl := tPart (tVar 1)) (th := tNoPart) (σ := [some (.ref a), some (.int (j : Int))]) (H := H) (ev_var rfl) (eo_some (ev_var rfl)) eo_none (sq_of ha)
    rw [cut_from _ _ (by omega)] at e1
    refine e1 H (Ex.refl _) _ fun a1 H1 n1 x1 h1 => ?_
    have e2 := el_sl (K := K) (te := tVar 0) (tl := tNoPart) (th := tPart (tVar 1)) (σ := [some (.ref a), some (.int (j : Int))]) (H := H1) (ev_var rfl) eo_none (eo_some (ev_var rfl)) (sq_of (x1 _ _ ha))
    rw [cut_to _ _ (by omega)] at e2
    refine e2 H1 (Ex.refl _) _ fun a2 H2 n2 x2 h2 => ?_
    refine ⟨a1, a2, _, _, rfl, rfl, x2 _ _ h1, h2, by rw [List.length_drop, List.length_take, sizeLine_eq]; omega, fun p hp2 => ?_⟩
    have x3 := Ex.new (o := .lst ((iV l).drop j ++ (iV l).take j)) hp2
    have h3 : (upd H2 p (.lst ((iV l).drop j ++ (iV l).take j))) p = some (.lst ((iV l).drop j ++ (iV l).take j)) := upd_same
    generalize upd H2 p (.lst ((iV l).drop j ++ (iV l).take j)) = H3 at *
    refine ⟨p, _, rfl, .inl ⟨sq_of h3, fun t ht => k _ t (((x1.trans x2).trans x3).trans (Ex.new ht)) ?_⟩⟩
    rw [upd_same, hlf]
    simp only [iV, List.map_append, List.map_drop, List.map_take]
end
end Wk

set_option Elab.async false
set_option linter.all false
set_option maxRecDepth 100000
set_option maxHeartbeats 4000000
namespace Wk
open PySem PySem.Spec PyProof.Rows L2 Evl
def nwV : Nw → V
  | .go k => .int (k : Int)
  | .fin s => .str s
structure NwOk (nv : List Nw) : Prop where
  go : ∀ (a k : Nat), nv[a]? = some (Nw.go k) → k < nv.length
  fin : ∀ (a : Nat) (s : Str), nv[a]? = some (Nw.fin s) → s = "here" ∨ s = "drop"
/-- the ways of an address, as the tables have them -/
def Rk (ess : List (List Row)) (l : List Nat) (nv : List Nw) : Prop := nv.length = ess.length ∧ NwOk nv ∧ ∀ (r : Nat) es w, ess[r]? = some es → nv[r]? = some w → ∀ z, LongIs es l z → z = nwV w
def FtV (H : Hp) (v : V) : Ft → Prop
  | .out s a k => ∃ t, v = .ref t ∧ H t = some (.tup [.str s, .int (a : Int), .int (k : Int)])
  | .ring r => ∃ t u, v = .ref t ∧ H t = some (.tup [.str "round", .ref u]) ∧ H u = some (.tup (iV r))
theorem FtV.mono {H H' : Hp} {v : V} {ft : Ft} (e : Ex H H') (h : FtV H v ft) : FtV H' v ft := by
  cases ft with
  | out s a k =>
    obtain ⟨t, h1, h2⟩ := h
    exact ⟨t, h1, e _ _ h2⟩
  | ring r =>
    obtain ⟨t, u, h1, h2, h3⟩ := h
    exact ⟨t, u, h1, e _ _ h2, e _ _ h3⟩
theorem nw_nx {nv : List Nw} {a : Nat} {w : Nw} (h : NwOk nv) (h8 : nv.length ≤ 8) (ha : nv[a]? = some w) : NxV (nwV w) := by
  cases w with
  | go k => exact .inr (.inr ⟨k, by have := h.go a k ha; omega, rfl⟩)
  | fin s =>
    rcases h.fin a s ha with rfl | rfl
    · exact .inl rfl
    · exact .inr (.inl rfl)
theorem inV_n {l : List Nat} {a : Nat} : inV (.int (a : Int)) (iV l) = decide (a ∈ l) := by
  unfold inV iV
  rw [List.any_map]
  by_cases c : a ∈ l
  · rw [decide_eq_true c, List.any_eq_true]
    exact ⟨a, c, by show eqV (.int (a : Int)) (.int (a : Int)) = true; rw [eqV_int]; simp⟩
  · rw [decide_eq_false c, List.any_eq_false]
    intro b hb z
    have z2 : eqV (.int (b : Int)) (.int (a : Int)) = true := z
    rw [eqV_int] at z2
    have z3 : (b : Int) = (a : Int) := of_decide_eq_true z2
    have z4 : b = a := by omega
    exact c (z4 ▸ hb)
structure MskO (P : Program) (w : World) (K : PySem.W.Frag) (mg : Str → Option Value) (base : Heap) (CS : Addr) (m : Str) (ps : List Str) (n : Nat) (sp : Sp) : Prop where
  ex : ∃ (fM : Addr) (fd : FuncData), Meth K CS m fM ∧ FnOk P w K mg base CX0 n fM fd ps sp ∧ Binds K fd ps []
section
variable {P : Program} {w : World} {K : PySem.W.Frag} {mg : Str → Option Value} {base : Heap} {f : Addr} {fd : FuncData} {CT CF : Addr}
theorem ev_in_n {σ : L2.St} {H : Hp} {ta tb : TE} {a : Nat} {p : Addr} {l : List Nat} (ha : Ev ta σ H (.int (a : Int))) (hb : Ev tb σ H (.ref p)) (hp : SqL K H p (iV l)) : Ev (tOp (rIn K false) ta tb) σ H (.bl (decide (a ∈ l))) := by
  have z := ev_op (r := rIn K false) ha hb (rv_isL hp rfl (iV_flat l))
  rw [inV_n] at z
  exact z
/-- the table's way -/
theorem ev_hop {σ : L2.St} {H : Hp} {i x r : Nat} {l : List Nat} {ess : List (List Row)} {es : List Row} {v : V} (h0 : σ[0]? = some (some (.ref x))) (hi : σ[i]? = some (some (.int (r : Int)))) (h2 : σ[2]? = some (some (.str (T l)))) (hF : Fl CF CT H x ess) (hes : ess[r]? = some es) (hl : l.length ≤ 100) (had : adrB l = true) (hz : ∀ z, LongIs es l z → z = v) :
    Ev (tMeth CT "onward" (spOnw0 CT) [] E0 (tMeth CF "table" (spTab CF CT) [] E0 (tVar 0) (tCons (tVar i) tNil)) (tCons (tVar 2) tNil)) σ H v := fun H1 e Q q => by
  obtain ⟨dx, fs, t, ts, h1, h2', h3, h4, h5, h6⟩ := id hF
  refine ⟨.ref x, h0, x, dx, fs, rfl, e _ _ h1, h4, .int (r : Int), hi, x, r, ess, es, rfl, hF.mono e, hes, fun H2 t e2 hT => ?_⟩
  obtain ⟨dy, gs, te, nd, us', es', j1, j2, j3, j4, j5⟩ := id hT
  refine ⟨t, dy, gs, rfl, j1, j4, .str (T l), h2, t, l, es, rfl, hT, hl, had, fun H3 z e3 hz' => ?_⟩
  rw [hz z hz']
  exact q H3 (e2.trans e3)
/-! fate -/
def spFate (CF CT : Addr) : Sp := fun vs H Q _ => ∃ (x : Addr) (start : Nat) (l : List Nat) (ess : List (List Row)) (nv : List Nw), vs = [.ref x, .int (start : Int), .str (T l)] ∧ Fl CF CT H x ess ∧ ess.length ≤ 8 ∧ Rk ess l nv ∧ l.length ≤ 100 ∧ adrB l = true ∧ start < ess.length ∧ ∀ H' v, Ex H H' → FtV H' v (fateN nv start) → Q v H'
abbrev sFate : Stmt := top 39
abbrev nFate : List Str := ["field", "start", "address", "onto", "row"]
theorem scFate : FnScope nFate ["field", "start", "address"] (defScope sFate) := ⟨rfl, rfl, rfl, by decide +kernel, rfl, by decide +kernel, by decide +kernel⟩
theorem ok_fate (B : Bl mg) {t1 : Tok} (hR : mg "ROUND" = some (.str "round" t1)) (XT : TX K CT) (XF : FXc K CF) (MT : MskO P w K mg base CF "table" ["self", "router"] 5 (spTab CF CT)) (MO : MskO P w K mg base CT "onward" ["self", "address"] 3 (spOnw0 CT))
    (CE : Cal P w K mg base "is_end" ["thing"] 1 spEndW) (CL : Cal P w K mg base "least_first" ["row"] 1 spLF) (F : FnP K "fate" sFate f fd) : FnOk P w K mg base CX0 6 f fd ["field", "start", "address"] (spFate CF CT) := by
  obtain ⟨f1, fd1, me1, F1, b1⟩ := MT.ex
  obtain ⟨f2, fd2, me2, F2, b2⟩ := MO.ex
  refine F.ok scFate (fun vs H Q E h => ?_) (fun cdv A outer s H vs Q E hr h => ?_)
  · obtain ⟨x, start, l, ess, nv, rfl, _⟩ := h
    rfl
  · obtain ⟨x, start, l, ess, nv, rfl, hF, h8, ⟨hnl, hnw, hrk⟩, hl, had, hst, k⟩ := h
    have r5 : Room 5 _ := hr.mono (by decide)
    have r3 : Room 3 _ := hr.mono (by decide)
    refine ⟨_, pss_cons (ps_set (i := 3) scFate.nd rfl (Or.inl rfl) (pe_meth (pe_meth (pv 0) XF.cl me1 F1 r5 b1 .nil pass0 (pa_cons (pv 1) pa_nil)) XT.ic.cl me2 F2 r3 b2 .nil pass0 (pa_cons (pv 2) pa_nil)))
      (pss_cons (ps_set (i := 4) scFate.nd rfl (Or.inl rfl) (pe_lst (pa_cons (pv 1) pa_nil)))
      (pss_cons (ps_while (passes_of rfl) (pt_not (pt_val (pe_cal CE hr (by rfl) (pa_cons (pv 3) pa_nil))))
        (pss_cons (ps_if (pt_cmpR (op_in_seqK (K := K) rfl) (pv 3) (pv 4) rfl) (pss_one (ps_ret (pe_tup (pa_cons (pe_glob (v := .str "round") (by rfl) hR ⟨_, rfl⟩) (pa_cons (pe_cal CL hr (by rfl) (pa_cons (pe_slice sl_list (pv 4) (po_some (pe_bm PySem.F.plainAttrs_list PySem.F.slot_list_index PySem.F.type_list_index mt_index (pv 4) (pa_cons (pv 3) pa_nil))) po_none) pa_nil)) pa_nil))))) pss_nil)
        (pss_cons (ps_expr (pe_bm PySem.F.plainAttrs_list PySem.F.slot_list_append PySem.F.type_list_append mt_append (pv 4) (pa_cons (pv 3) pa_nil)))
        (pss_one (ps_set (i := 3) scFate.nd rfl (Or.inl rfl) (pe_meth (pe_meth (pv 0) XF.cl me1 F1 r5 b1 .nil pass0 (pa_cons (pv 3) pa_nil)) XT.ic.cl me2 F2 r3 b2 .nil pass0 (pa_cons (pv 2) pa_nil)))))))
      (pss_one (ps_ret (pe_tup (pa_cons (pv 3) (pa_cons (pe_ix (ix_listK (K := K) rfl) (pv 4) (pe_un un_neg pe_int) (fun _ _ => rfl)) (pa_cons (pe_op op_sub (pe_callB call_len_seq (by rfl) B.len PySem.boot_len (pa_cons (pv 4) pa_nil)) pe_int) pa_nil)))))))), ?_⟩
    have hsn : start < nv.length := by omega
    have hop : ∀ {H' : Hp} {σ : L2.St} {i r : Nat} {wn : Nw}, Ex H H' → σ[0]? = some (some (.ref x)) → σ[i]? = some (some (.int (r : Int))) → σ[2]? = some (some (.str (T l))) → nv[r]? = some wn → Ev (tMeth CT "onward" (spOnw0 CT) [] E0 (tMeth CF "table" (spTab CF CT) [] E0 (tVar 0) (tCons (tVar i) tNil)) (tCons (tVar 2) tNil)) σ H' (nwV wn) := fun {H'} {σ} {i} {r} {wn} e h0 hi h2 hw => by
      have hr2 : r < ess.length := by have := (List.getElem?_eq_some_iff.mp hw).1; omega
      exact ev_hop h0 hi h2 (hF.mono e) (List.getElem?_eq_getElem hr2) hl had (hrk r _ _ (List.getElem?_eq_getElem hr2) hw)
    obtain ⟨w0, hw0⟩ : ∃ w0, nv[start]? = some w0 := ⟨_, List.getElem?_eq_getElem hsn⟩
    refine q_asg (hop (Ex.refl H) rfl rfl rfl hw0) fun H1 e1 => ?_
    change tSeq (tAsg _ _) _ _ [some (.ref x), some (.int (start : Int)), some (.str (T l)), some (nwV w0), none] H1
    refine q_asgL (el_lst (vs := [.int (start : Int)]) (ea_cons (ev_var rfl) ea_nil) (by show 1 ≤ 100000; decide)) fun rl H2 nR e2 hR2 => ?_
    change tSeq (tWhile _ _) _ _ [some (.ref x), some (.int (start : Int)), some (.str (T l)), some (nwV w0), some (.ref rl)] H2
    have hrl0 : H rl = none := fresh_back e1 nR
    refine q_while (fun mm σ' H' => ∃ (row : List Nat) (a : Nat) (wn : Nw), σ' = [some (.ref x), some (.int (start : Int)), some (.str (T l)), some (nwV wn), some (.ref rl)] ∧ mm = nv.length - row.length ∧ H' rl = some (.lst (iV (row ++ [a]))) ∧ nv[a]? = some wn ∧ (row ++ [a]).Nodup ∧ (∀ y ∈ row ++ [a], y < nv.length) ∧ fw nv (nv.length - row.length) row a = fateN nv start ∧ Ex H H') nv.length
      ⟨[], start, w0, rfl, rfl, hR2, hw0, by simp, fun y hy => by simp at hy; omega, rfl, e1.trans e2⟩ ?_
    rintro mm σ' H3 ⟨row, a, wn, rfl, rfl, hrl, hwn, hnd, hlt, hfw, e3⟩
    have hlen := nodup_len _ hnd hlt
    rw [List.length_append, List.length_singleton] at hlen
    obtain ⟨g, hg⟩ : ∃ g, nv.length - row.length = g + 1 := ⟨nv.length - row.length - 1, by omega⟩
    have c1 : Ev (tCall spEndW [] E0 (tCons (tVar 3) tNil)) [some (.ref x), some (.int (start : Int)), some (.str (T l)), some (nwV wn), some (.ref rl)] H3 (.bl (isFin (nwV wn))) := ev_call (ea_cons (ev_var rfl) ea_nil) (spP_v fun H4 e4 => ⟨nwV wn, rfl, nw_nx hnw (by omega) hwn, rfl⟩)
    refine ⟨!isFin (nwV wn), et_not (et_B c1), fun hb H4 e4 => ?_, fun hb H4 e4 => ?_⟩
    · cases wn with
      | fin s => cases hb
      | go kk =>
        have hkn := hnw.go a kk hwn
        have hrl4 := e4 _ _ hrl
        have v3 : ∀ {H5 : Hp}, Ev (tVar 3) [some (.ref x), some (.int (start : Int)), some (.str (T l)), some (nwV (.go kk)), some (.ref rl)] H5 (.int (kk : Int)) := ev_var rfl
        have v4 : ∀ {H5 : Hp}, Ev (tVar 4) [some (.ref x), some (.int (start : Int)), some (.str (T l)), some (nwV (.go kk)), some (.ref rl)] H5 (.ref rl) := ev_var rfl
        have hfe : fateN nv start = if kk ∈ row ++ [a] then .ring (lf ((row ++ [a]).drop ((row ++ [a]).idxOf kk))) else fw nv g (row ++ [a]) kk := by
          rw [← hfw, hg, fw, hwn]
        refine ⟨fun σ2 H' => ∃ m', m' < nv.length - row.length ∧ ∃ (row : List Nat) (a : Nat) (wn : Nw), σ2 = [some (.ref x), some (.int (start : Int)), some (.str (T l)), some (nwV wn), some (.ref rl)] ∧ m' = nv.length - row.length ∧ H' rl = some (.lst (iV (row ++ [a]))) ∧ nv[a]? = some wn ∧ (row ++ [a]).Nodup ∧ (∀ y ∈ row ++ [a], y < nv.length) ∧ fw nv (nv.length - row.length) row a = fateN nv start ∧ Ex H H', fun σ2 H' h => h, ?_⟩
        refine q_when (b := decide (kk ∈ row ++ [a])) (et_test (ev_in_n (K := K) v3 v4 (sq_of hrl4))) (fun hin H5 e5 => ?_) fun hin H5 e5 => ?_
        · have hin := of_decide_eq_true hin
          rw [if_pos hin] at hfe
          have hrl5 := e5 _ _ hrl4
          have hi := List.idxOf_lt_length_of_mem hin
          have i1 : Ev (tBM K "list" (rIndex K) (tVar 4) (tCons (tVar 3) tNil)) [some (.ref x), some (.int (start : Int)), some (.str (T l)), some (nwV (.go kk)), some (.ref rl)] H5 (.int ((row ++ [a]).idxOf kk : Nat)) := fun H6 e6 Q6 q6 => ⟨.ref rl, rfl, .inl ⟨rfl, _, sq_of (e6 _ _ hrl5)⟩, .int (kk : Int), rfl, by
            dsimp only [tNil]
            exact rindex_at (sq_of (e6 _ _ hrl5)) hin (q6 H6 (Ex.refl _))⟩
          have i2 := el_sl (K := K) (te := tVar 4) (tl := tPart (tBM K "list" (rIndex K) (tVar 4) (tCons (tVar 3) tNil))) (th := tNoPart) v4 (eo_some i1) eo_none (sq_of hrl5)
          rw [cut_from _ _ (by rw [List.length_map]; omega)] at i2
          refine i2 H5 (Ex.refl _) _ fun D H6 nD e6 hD => ?_
          refine ⟨D, (row ++ [a]).drop ((row ++ [a]).idxOf kk), rfl, by rw [hD]; simp only [iV, List.map_drop], fun z => ?_, by rw [List.length_drop, List.length_append, List.length_singleton]; omega, fun H7 u e7 hu => ?_⟩
          · have := congrArg List.length z
            rw [List.length_drop] at this
            simp only [List.length_nil] at this
            omega
          · refine ⟨by show 2 ≤ sizeLine; decide, fun t ht => k _ _ ((((e3.trans e4).trans e5).trans (e6.trans e7)).trans (Ex.new ht)) ?_⟩
            rw [hfe]
            exact ⟨t, u, rfl, upd_same, (Ex.new ht) _ _ hu⟩
        · have hin := of_decide_eq_false hin
          rw [if_neg hin] at hfe
          have hrl5 := e5 _ _ hrl4
          refine ⟨.ref rl, rfl, .inl ⟨rfl, _, sq_of hrl5⟩, .int (kk : Int), rfl, rl, iV (row ++ [a]), .int (kk : Int), rfl, rfl, hrl5, by rw [sizeLine_eq, List.length_map, List.length_append, List.length_singleton]; omega, ?_⟩
          have e35 := (e3.trans e4).trans e5
          have e6 : Ex H (upd H5 rl (.lst (iV (row ++ [a]) ++ [.int (kk : Int)]))) := Ex.mut e35 hrl0
          have hrl6 : (upd H5 rl (.lst (iV (row ++ [a]) ++ [.int (kk : Int)]))) rl = some (.lst (iV (row ++ [a]) ++ [.int (kk : Int)])) := upd_same
          generalize upd H5 rl (.lst (iV (row ++ [a]) ++ [.int (kk : Int)])) = H6 at *
          obtain ⟨w2, hw2⟩ : ∃ w2, nv[kk]? = some w2 := ⟨_, List.getElem?_eq_getElem hkn⟩
          refine (hop (i := 3) (σ := [some (.ref x), some (.int (start : Int)), some (.str (T l)), some (nwV (.go kk)), some (.ref rl)]) e6 rfl rfl rfl hw2) H6 (Ex.refl _) _ fun H7 e7 => ?_
          refine g_name ⟨g, by omega, row ++ [a], kk, w2, rfl, by rw [List.length_append, List.length_singleton]; omega, ?_, hw2, ?_, fun y hy => ?_, ?_, e6.trans e7⟩
          · rw [e7 _ _ hrl6]
            simp only [iV, List.map_append, List.map_cons, List.map_nil]
          · rw [List.nodup_append]
            refine ⟨hnd, by simp, fun p hp q hq => ?_⟩
            simp only [List.mem_singleton] at hq
            subst hq
            intro z
            exact hin (z ▸ hp)
          · rcases List.mem_append.mp hy with z | z
            · exact hlt y z
            · simp only [List.mem_singleton] at z; omega
          · rw [hfe]
            congr 1
            rw [List.length_append, List.length_singleton]
            omega
    · cases wn with
      | go kk => cases hb
      | fin s =>
        have hrl4 := e4 _ _ hrl
        have hfe : fateN nv start = .out s a row.length := by
          rw [← hfw, hg, fw, hwn]
        have v4 : ∀ {H5 : Hp}, Ev (tVar 4) [some (.ref x), some (.int (start : Int)), some (.str (T l)), some (nwV (.fin s)), some (.ref rl)] H5 (.ref rl) := ev_var rfl
        have i1 : Ev (tOp (rIxL K) (tVar 4) (tUn (rU fun i => .int (-i)) (tC (.int 1)))) [some (.ref x), some (.int (start : Int)), some (.str (T l)), some (nwV (.fin s)), some (.ref rl)] H4 (.int (a : Int)) := ev_op v4 (ev_un ev_c ru_neg) (rv_ixL (sq_of hrl4) (by simp only [iV, List.map_append, List.map_cons, List.map_nil]; exact atI_last _ _))
        have i2 : Ev (tOp (rI0 fun i j => .int (i - j)) (tCB (rLenS K) (tCons (tVar 4) tNil)) (tC (.int 1))) [some (.ref x), some (.int (start : Int)), some (.str (T l)), some (nwV (.fin s)), some (.ref rl)] H4 (.int (((iV (row ++ [a])).length : Int) - 1)) := ev_op (ev_len (K := K) v4 (sq_of hrl4)) ev_c rv_I0
        have hlen2 : ((iV (row ++ [a])).length : Int) - 1 = (row.length : Int) := by rw [List.length_map, List.length_append, List.length_singleton]; omega
        rw [hlen2] at i2
        have i3 := ea_cons (ev_var (i := 3) (v := .str s) (σ := [some (.ref x), some (.int (start : Int)), some (.str (T l)), some (nwV (.fin s)), some (.ref rl)]) (H := H4) rfl) (ea_cons i1 (ea_cons i2 ea_nil))
        refine s_retU (eu_tup i3 (by show 3 ≤ 100000; decide)) fun t H5 nt e5 ht => k _ _ ((e3.trans e4).trans e5) ?_
        rw [hfe]
        exact ⟨t, rfl, ht⟩
end
end Wk

set_option Elab.async false
set_option linter.all false
set_option maxRecDepth 100000
set_option maxHeartbeats 4000000
namespace Wk
open PySem PySem.Spec PyProof.Rows L2 Evl
abbrev rTupK (K : PySem.W.Frag) : List V → Hp → VK → Prop := fun xs H Q => ∃ p ys, xs = [.ref p] ∧ ((SqL K H p ys ∧ ∀ l, H l = none → Q (.ref l) (upd H l (.tup ys))) ∨ (SqT K H p ys ∧ Q (.ref p) H))
section
variable {K : PySem.W.Frag} {σ : L2.St} {H : Hp}
/-- the place of a number -/
theorem ev_idx {ta tb : TE} {p : Addr} {l : List Nat} {m : Nat} (ha : Ev ta σ H (.ref p)) (hp : H p = some (.lst (iV l))) (hb : Ev tb σ H (.int (m : Int))) (hm : m ∈ l) : Ev (tBM K "list" (rIndex K) ta (tCons tb tNil)) σ H (.int (l.idxOf m : Nat)) := fun H1 e Q q =>
  ha H1 e _ fun H2 e2 => ⟨.inl ⟨rfl, _, sq_of ((e.trans e2) _ _ hp)⟩, hb H2 (e.trans e2) _ fun H3 e3 => by
    dsimp only [tNil]
    exact rindex_at (sq_of (((e.trans e2).trans e3) _ _ hp)) hm (q H3 (e2.trans e3))⟩
theorem ev_least {ta : TE} {p : Addr} {l : List Nat} (ha : Ev ta σ H (.ref p)) (hp : H p = some (.lst (iV l))) (hne : l ≠ []) : Ev (tCB (rMin K) (tCons ta tNil)) σ H (.int ((l.min?.getD 0 : Nat) : Int)) := fun H1 e Q q =>
  ha H1 e _ fun H2 e2 => ⟨p, l.map fun (i : Nat) => (i : Int), rfl, by rw [← iV_ints]; exact sq_of ((e.trans e2) _ _ hp), by rw [List.length_map]; exact List.length_pos_iff.mpr hne, fun m hm hle => by
    obtain ⟨i, hi, rfl⟩ := List.mem_map.mp hm
    have hmin : l.min?.getD 0 = i := min_at hi fun y hy => by have := hle _ (List.mem_map.mpr ⟨y, hy, rfl⟩); omega
    rw [← hmin]
    exact q H2 e2⟩
theorem least_mem {l : List Nat} (h : l ≠ []) : l.min?.getD 0 ∈ l := by
  obtain ⟨m, hm, hl⟩ := min_ex h
  rw [min_at hm hl]
  exact hm
theorem eu_turn {ta tb : TE} {p : Addr} {l : List Nat} {j : Nat} (ha : Ev ta σ H (.ref p)) (hp : H p = some (.lst (iV l))) (hb : Ev tb σ H (.int (j : Int))) (hj : j ≤ l.length) (hl : l.length ≤ 100) :
    EvU (tCB (rTupK K) (tCons (tOp rCat (tSl (rSlL K) ta (tPart tb) tNoPart) (tSl (rSlL K) ta tNoPart (tPart tb))) tNil)) σ H (iV (l.drop j ++ l.take j)) := fun H0 e0 Q q => by
  have hL : (iV l).length = l.length := by rw [List.length_map]
  have e1 := el_sl (K := K) (H := H0) (tl := tPart tb) (th := tNoPart) (fun H1 e => ha H1 (e0.trans e)) (eo_some (fun H1 e => hb H1 (e0.trans e))) eo_none (sq_of (e0 _ _ hp))
  rw [cut_from _ _ (by omega)] at e1
  refine e1 H0 (Ex.refl _) _ fun a1 H1 n1 x1 h1 => ?_
  have e2 := el_sl (K := K) (H := H1) (tl := tNoPart) (th := tPart tb) (fun H2 e => ha H2 ((e0.trans x1).trans e)) eo_none (eo_some (fun H2 e => hb H2 ((e0.trans x1).trans e))) (sq_of (x1 _ _ (e0 _ _ hp)))
  rw [cut_to _ _ (by omega)] at e2
  refine e2 H1 (Ex.refl _) _ fun a2 H2 n2 x2 h2 => ?_
  refine ⟨a1, a2, _, _, rfl, rfl, x2 _ _ h1, h2, by rw [List.length_drop, List.length_take, sizeLine_eq]; omega, fun c hc => ?_⟩
  have x3 := Ex.new (o := .lst ((iV l).drop j ++ (iV l).take j)) hc
  have h3 : (upd H2 c (.lst ((iV l).drop j ++ (iV l).take j))) c = some (.lst ((iV l).drop j ++ (iV l).take j)) := upd_same
  generalize upd H2 c (.lst ((iV l).drop j ++ (iV l).take j)) = H3 at *
  refine ⟨c, _, rfl, .inl ⟨sq_of h3, fun t ht => ?_⟩⟩
  refine q t _ (fresh_back ((x1.trans x2).trans x3) ht) (((x1.trans x2).trans x3).trans (Ex.new ht)) ?_
  rw [upd_same]
  simp only [iV, List.map_append, List.map_drop, List.map_take]
theorem s_retTU {D : Ends} {te tc : TE} {c : V} {xs : List V} (h1 : Ev tc σ H c) (h : EvU te σ H xs) (k : ∀ u t H1, Ex H H1 → H1 t = some (.tup [c, .ref u]) → H1 u = some (.tup xs) → D.rt (.ref t) H1) : tRet (tTup (tCons tc (tCons te tNil))) D σ H :=
  h1 H (Ex.refl _) _ fun H1 e1 => h H1 e1 _ fun u H2 nu e2 hu => ⟨by show 2 ≤ sizeLine; decide, fun t ht => k u t _ ((e1.trans e2).trans (Ex.new ht)) upd_same ((Ex.new ht) _ _ hu)⟩
end
end Wk

set_option Elab.async false
set_option linter.all false
set_option maxRecDepth 100000
set_option maxHeartbeats 4000000
namespace Wk
open PySem PySem.Spec PyProof.Rows L2 Evl
/-! fates as data -/
def iD (l : List Nat) : List PyData := l.map fun (i : Nat) => PyData.int (i : Int)
def ftD : Ft → PyData
  | .out s a k => .tuple [.str s, .int (a : Int), .int (k : Int)]
  | .ring r => .tuple [.str "round", .tuple (iD r)]
def FtOk : Ft → Prop
  | .out s _ _ => s = "here" ∨ s = "drop"
  | .ring r => r.length ≤ 100
theorem lay_iD : ∀ (l : List Nat), PyData.canLayAll0 (iD l) = true ∧ PyData.depthAll (iD l) ≤ 1
  | [] => ⟨by simp [iD, PyData.canLayAll0], by simp [iD, PyData.depthAll]⟩
  | a :: l => by
    obtain ⟨h1, h2⟩ := lay_iD l
    have e : iD (a :: l) = .int (a : Int) :: iD l := rfl
    rw [e]
    refine ⟨by simp [PyData.canLayAll0, PyData.canLay0, h1], ?_⟩
    simp only [PyData.depthAll, PyData.depth]
    omega
theorem dqa_iD {H : Hp} : ∀ (l : List Nat), DqA H (iV l) (iD l)
  | [] => .nil
  | a :: l => .cons (.int _) (dqa_iD l)
theorem lay_ft {ft : Ft} (h : FtOk ft) : (ftD ft).canLay0 = true := by
  cases ft with
  | out s a k =>
    have hs : PyData.strOk s = true := by rcases h with rfl | rfl <;> decide +kernel
    simp [ftD, PyData.canLay0, PyData.canLayAll0, hs]
  | ring r =>
    have hs : PyData.strOk ("round" : Str) = true := by decide +kernel
    simp [ftD, PyData.canLay0, PyData.canLayAll0, hs, (lay_iD r).1]
theorem dq_ft {H : Hp} {v : V} {ft : Ft} (h : FtV H v ft) : Dq H v (ftD ft) := by
  cases ft with
  | out s a k =>
    obtain ⟨t, rfl, ht⟩ := h
    exact .tup ht (.cons (.str _) (.cons (.int _) (.cons (.int _) .nil)))
  | ring r =>
    obtain ⟨t, u, rfl, ht, hu⟩ := h
    exact .tup ht (.cons (.str _) (.cons (.tup hu (dqa_iD r)) .nil))
theorem shaped_ft {ft : Ft} (h : FtOk ft) : SeqAt.shaped (ftD ft) = true := by
  unfold SeqAt.shaped
  rw [Bool.and_eq_true]
  refine ⟨lay_ft h, decide_eq_true ?_⟩
  cases ft with
  | out s a k => simp only [ftD, PyData.depth, PyData.depthAll]; omega
  | ring r =>
    have := (lay_iD r).2
    simp only [ftD, PyData.depth, PyData.depthAll]
    omega
theorem fw_ok {nv : List Nw} (hok : NwOk nv) : ∀ (f : Nat) (row : List Nat) (a : Nat), row.length + f ≤ 100 → FtOk (fw nv f row a)
  | 0, row, a, _ => Nat.zero_le _
  | f + 1, row, a, h => by
    rw [fw]
    cases e : nv[a]? with
    | none => exact Nat.zero_le _
    | some w =>
      cases w with
      | fin s => exact hok.fin a s e
      | go k =>
        dsimp only
        split
        · show (lf _).length ≤ 100
          unfold lf
          rw [List.length_append, List.length_drop, List.length_take, List.length_drop, List.length_append, List.length_singleton]
          omega
        · exact fw_ok hok f (row ++ [a]) k (by rw [List.length_append, List.length_singleton]; omega)
theorem fate_ok {nv : List Nw} (hok : NwOk nv) (h8 : nv.length ≤ 8) (a : Nat) : FtOk (fateN nv a) := fw_ok hok _ _ _ (by simp; omega)
section
variable {K : PySem.W.Frag} {σ : L2.St} {H : Hp}
theorem rv_eqFt {u v : V} {ft : Ft} (hu : FtV H u ft) (hv : FtV H v ft) (ho : FtOk ft) : RV (rEqD K) u v H (.bl true) := fun H1 e Q q =>
  ⟨ftD ft, ftD ft, Dq.dp (lay_ft ho) (dq_ft (hu.mono e)), Dq.dp (lay_ft ho) (dq_ft (hv.mono e)), shaped_ft ho, shaped_ft ho, by rw [SeqAt.eqv_refl _ (lay_ft ho)]; exact q H1 (Ex.refl _)⟩
theorem rv_neFt {u v : V} {ft : Ft} (hu : FtV H u ft) (hv : FtV H v ft) (ho : FtOk ft) : RV (rNeD K) u v H (.bl false) := fun H1 e Q q =>
  ⟨ftD ft, ftD ft, Dq.dp (lay_ft ho) (dq_ft (hu.mono e)), Dq.dp (lay_ft ho) (dq_ft (hv.mono e)), shaped_ft ho, shaped_ft ho, by rw [SeqAt.eqv_refl _ (lay_ft ho)]; exact q H1 (Ex.refl _)⟩
/-- with a display that is an end -/
theorem ev_eqOut {ta tb : TE} {u : V} {s : Str} {a k : Nat} (ha : Ev ta σ H u) (hb : EvU tb σ H [.str s, .int (a : Int), .int (k : Int)]) (hu : FtV H u (.out s a k)) (ho : FtOk (.out s a k)) : Ev (tOp (rEqD K) ta tb) σ H (.bl true) := fun H1 e Q q =>
  ha H1 e _ fun H2 e2 => hb H2 (e.trans e2) _ fun t H3 nt e3 ht => rv_eqFt (K := K) (hu.mono ((e.trans e2).trans e3)) (⟨t, rfl, ht⟩ : FtV H3 (.ref t) (.out s a k)) ho H3 (Ex.refl _) _ fun H4 e4 => q H4 ((e2.trans e3).trans e4)
theorem q_asgT {te : TE} {tz : TS} {E : Ends} {i : Nat} {xs : List V} (h : EvS te σ H xs) (k : ∀ t H1, Ex H H1 → H1 t = some (.tup xs) → tz E (σ.set i (some (.ref t))) H1) : tSeq (tAsg te (gName i)) tz E σ H := h H (Ex.refl _) _ fun t H1 e ht => k t H1 e ht
end
end Wk

set_option Elab.async false
set_option linter.all false
set_option maxRecDepth 100000
set_option maxHeartbeats 4000000
namespace Wk
open PySem PySem.Spec PyProof.Rows L2 Evl
section
variable {p g c : Addr} {G H : Hp}
theorem Gq.mutD {G1 H1 : Hp} {D : Addr} {o : HO} (hD : H D = none) (g1 : G1 D = none) (np : D ≠ p) (ng : D ≠ g) (h : Gq p g c G H G1 H1) : Gq p g c G H G1 (upd H1 D o) :=
  ⟨h.ex, h.nw, fun b u h1 h2 hb => by rw [upd_ne (fun z => by rw [z, hD] at hb; cases hb)]; exact h.off b u h1 h2 hb, h.pl.mut g1 np ng⟩
theorem Gq.holdD {G1 H1 : Hp} {D : Addr} {o : HO} (hD : H D = none) (g1 : G1 D = none) (np : D ≠ p) (ng : D ≠ g) (h1D : H1 D = some o) (h : Gq p g c G H G1 H1) : Gq p g c G H (upd G1 D o) H1 :=
  ⟨h.ex.trans (Ex.new g1), fun b hb hh => by rw [upd_ne (fun z => hh (by rw [z]; exact hD))]; exact h.nw b hb hh, h.off, h.pl.hold h1D np ng g1⟩
/-- a list comprehension over range(n) whose items grow what stands -/
theorem ep_lcG {σ : L2.St} {ta te : TE} {j : Nat} {vs : List Nat} {n : Nat} {Q : VK} {Yg : Hp → V → Prop} (hP : Pq G H p g c) (ha : Ev ta σ G (.int (n : Int))) (hn : n ≤ 1000) (hw : ∀ x, wipe ((wipe σ vs).set j (some x)) vs = wipe σ vs) (hY : ∀ G1 G2 v, Ex G1 G2 → Yg G1 v → Yg G2 v)
    (he : ∀ (G' H' : Hp) (i : Nat), Ex G G' → Pq G' H' p g c → i < n → ∀ Q' : VK, (∀ G'' H'' v, Gq p g c G' H' G'' H'' → Yg G'' v → Q' v H'') → te ((wipe σ vs).set j (some (.int (i : Int)))) H' Q')
    (k : ∀ G' H' D us, Gq p g c G H G' H' → G' D = some (.lst us) → us.length = n → (∀ u ∈ us, Yg G' u) → Q (.ref D) H') : tLc (iRng1 (tCons ta tNil)) (gName j) tYes te vs σ H Q := by
  refine ha H hP.ex _ fun H1 e1 => ?_
  have hP1 : Pq G H1 p g c := hP.ext e1
  refine ⟨(n : Int), rfl, by omega, by omega, fun D hD => ?_⟩
  have gD := fresh_back hP1.ex hD
  have np := hP1.np hD
  have ng := hP1.ng hD
  refine lc_range (lo := 0) (n := (n : Int).toNat) (fun i H' => ∃ (G' : Hp) (us : List V), us.length = i ∧ (∀ u ∈ us, Yg G' u) ∧ Gq p g c G H1 G' H' ∧ G' D = none ∧ H' D = some (.lst us)) ⟨G, [], rfl, (fun _ h => by cases h), (Gq.refl hP1).mutD hD gD np ng, gD, upd_same⟩ (fun i H' hi hh => ?_) (fun H' hh => ?_)
  · obtain ⟨G', us, h1, h2, h3, h4, h5⟩ := hh
    have e0 : (0 : Int) + (i : Int) = (i : Int) := Int.zero_add _
    show wipe ((wipe σ vs).set j (some (.int ((0 : Int) + (i : Int))))) vs = wipe σ vs ∧ te ((wipe σ vs).set j (some (.int ((0 : Int) + (i : Int))))) H' fun y H4 => ∃ acc, H4 D = some (.lst acc) ∧ acc.length < sizeLine ∧ ∃ (G' : Hp) (us : List V), us.length = i + 1 ∧ (∀ u ∈ us, Yg G' u) ∧ Gq p g c G H1 G' (upd H4 D (.lst (acc ++ [y]))) ∧ G' D = none ∧ (upd H4 D (.lst (acc ++ [y]))) D = some (.lst us)
    rw [e0]
    refine ⟨hw _, he G' H' i h3.ex h3.pl (by omega) _ fun G2 H2 y g2 hy => ?_⟩
    have g2D := g2.nw D h4 (by rw [h5]; exact fun z => by cases z)
    have h2D := g2.off D _ np ng h5
    refine ⟨us, h2D, sz_lt (by omega), G2, us ++ [y], by simp [h1], fun u hu => (List.mem_append.mp hu).elim (fun z => hY _ _ _ g2.ex (h2 u z)) fun z => by rw [List.mem_singleton.mp z]; exact hy, (h3.trans g2).mutD hD g2D np ng, g2D, upd_same⟩
  · obtain ⟨G', us, h1, h2, h3, h4, h5⟩ := hh
    have hg := h3.holdD hD h4 np ng h5
    exact k _ H' D us ((Gq.ext hP e1).trans hg) upd_same (by omega) fun u hu => hY _ _ _ (Ex.new h4) (h2 u hu)
end
end Wk

set_option Elab.async false
set_option linter.all false
set_option maxRecDepth 100000
set_option maxHeartbeats 4000000
namespace Wk
open PySem PySem.Spec PyProof.Rows L2 Evl
def RowG (n m : Nat) (G : Hp) (v : V) : Prop := ∃ (l : Addr) (us : List V) (es : List Row), v = .ref l ∧ G l = some (.lst us) ∧ EsT G us es ∧ EsOk es m ∧ ∀ e ∈ es, WayN n e.2
theorem RowG.mono {n m : Nat} {G G' : Hp} {v : V} (e : Ex G G') (h : RowG n m G v) : RowG n m G' v := by
  obtain ⟨l, us, es, rfl, h1, h2, h3, h4⟩ := h
  exact ⟨l, us, es, rfl, e _ _ h1, h2.mono e, h3, h4⟩
section
variable {P : Program} {w : World} {K : PySem.W.Frag} {mg : Str → Option Value} {base : Heap} {f : Addr} {fd : FuncData} {CT CF : Addr}
/-! _law_rows -/
def spRows : Sp := fun vs H Q _ => ∃ (G : Hp) (p g c : Addr) (n m : Nat), vs = [.ref p, .int (n : Int), .int (m : Int)] ∧ Pq G H p g c ∧ 1 ≤ n ∧ n ≤ 8 ∧ m ≤ 23 ∧ ∀ G' H' D us, Gq p g c G H G' H' → G' D = some (.lst us) → us.length = n → (∀ u ∈ us, RowG n m G' u) → Q (.ref D) H'
abbrev sRows : Stmt := top 50
abbrev nRows : List Str := ["_law_pool_here", "_law_size", "_law_most", "_law_nexts", "_law_k"]
theorem scRows : FnScope nRows ["_law_pool_here", "_law_size", "_law_most"] (defScope sRows) := ⟨rfl, rfl, rfl, by decide +kernel, rfl, by decide +kernel, by decide +kernel⟩
theorem ok_rows (B : Bl mg) (C1 : Cal P w K mg base "_law_draw" ["_law_pool_here", "_law_many"] 1 spDrw) (C2 : Cal P w K mg base "_law_entries" ["_law_pool_here", "_law_many", "_law_nexts"] 3 spEnt) (F : FnP K "_law_rows" sRows f fd) : FnOk P w K mg base CX0 4 f fd ["_law_pool_here", "_law_size", "_law_most"] spRows := by
  refine F.ok scRows (fun vs H Q E h => ?_) (fun cdv A outer s H vs Q E hr h => ?_)
  · obtain ⟨G, p, g, c, n, m, rfl, _⟩ := h
    rfl
  · obtain ⟨G, p, g, c, n, m, rfl, hP, hn1, hn8, hm, k⟩ := h
    refine ⟨_, pss_cons (ps_set (i := 3) scRows.nd rfl (Or.inr rfl) (pe_op op_cat (pe_lst (pa_cons pe_str (pa_cons pe_str pa_nil)))
        (pe_op op_rep (pe_lc (own := [("_law_k", 4)]) (g := gName 4) (tt := tYes) rfl scRows.nd (pi_range1 (by rfl) B.range (pa_cons (pv 1) pa_nil)) (blkOk_by (N := nRows) (sc := defScope sRows) (by decide +kernel))
            (fun _ _ _ _ _ => pg_name (i := 4) scRows.nd rfl (Or.inl rfl)) (fun _ _ _ _ _ => pts_nil) (fun _ _ _ _ _ => pv 4))
          (pe_op op_add pe_int (pe_cal C1 hr (by rfl) (pa_cons (pv 0) (pa_cons pe_int pa_nil)))))))
      (pss_one (ps_ret (pe_lc (own := [("_law_k", 4)]) (g := gName 4) (tt := tYes) rfl scRows.nd (pi_range1 (by rfl) B.range (pa_cons (pv 1) pa_nil)) (blkOk_by (N := nRows) (sc := defScope sRows) (by decide +kernel))
            (fun _ _ _ _ _ => pg_name (i := 4) scRows.nd rfl (Or.inl rfl)) (fun _ _ _ _ _ => pts_nil)
            (fun _ _ _ _ _ => pe_cal C2 hr (by rfl) (pa_cons (pv 0) (pa_cons (pe_cal C1 hr (by rfl) (pa_cons (pv 0) (pa_cons (pe_op op_add (pv 2) pe_int) pa_nil))) (pa_cons (pv 3) pa_nil))))))), ?_⟩
    refine q_asgW ?_
    refine ⟨by show 2 ≤ sizeLine; decide, fun a1 h1 => ?_⟩
    have x1 := Ex.new (o := .lst [V.str "here", .str "drop"]) h1
    have h11 : (upd H a1 (.lst [V.str "here", .str "drop"])) a1 = some (.lst [V.str "here", .str "drop"]) := upd_same
    generalize upd H a1 (.lst [V.str "here", .str "drop"]) = H1 at *
    have hl := el_lcR1 (σ := start nRows [V.ref p, .int (n : Int), .int (m : Int)]) (H := H1) (ta := tCons (tVar 1) tNil) (t := tYes) (te := tVar 4) (j := 4) (vs := [4]) (n := (n : Int)) (fun _ => true) (fun i => .int (i : Int)) (ea_cons (ev_var rfl) ea_nil) (by omega) (fun x => rfl) (fun _ _ _ _ => et_yes) (fun i H2 _ _ _ => ev_var rfl)
    rw [given_yesAll, Int.toNat_natCast] at hl
    refine hl H1 (Ex.refl _) _ fun a2 H2 n2 x2 h2 => ?_
    have x02 := x1.trans x2
    have g2 := Gq.grow hP x02
    have hG1 : (fun b => match H b with | none => H2 b | some _ => G b) a1 = some (.lst [V.str "here", .str "drop"]) := by
      dsimp only
      rw [h1]
      exact x2 _ _ h11
    have hG2 : (fun b => match H b with | none => H2 b | some _ => G b) a2 = some (.lst ((List.range n).map fun (i : Nat) => V.int (i : Int))) := by
      dsimp only
      rw [fresh_back x1 n2]
      exact h2
    generalize (fun b => match H b with | none => H2 b | some _ => G b) = G2 at *
    refine ep_drw (g := g) (c := c) (G := G2) (z := 3) rfl ev_c (by decide) (by decide) H2 g2.pl _ fun H3 v g3 hv => ?_
    obtain ⟨j, rfl, hj0, hj1⟩ := hv
    refine ⟨1, j, rfl, rfl, ?_⟩
    have hlen : ((List.range n).map fun (i : Nat) => V.int (i : Int)).length = n := by simp
    have hmul : n * (1 + j).toNat ≤ 24 := Nat.le_trans (Nat.mul_le_mul hn8 (show (1 + j).toNat ≤ 3 by omega)) (by decide)
    refine ⟨a2, 1 + j, _, rfl, rfl, g3.pl.ex _ _ hG2, by omega, by omega, by rw [hlen, sizeLine_eq]; omega, fun a3 h3 => ?_⟩
    have hrep : ((List.replicate (1 + j).toNat ((List.range n).map fun (i : Nat) => V.int (i : Int))).flatten).length = n * (1 + j).toNat := by
      rw [List.length_flatten, List.map_replicate, hlen, List.sum_replicate_nat, Nat.mul_comm]
    have hway : ∀ v ∈ (List.replicate (1 + j).toNat ((List.range n).map fun (i : Nat) => V.int (i : Int))).flatten, WayN n v := fun v hv => by
      obtain ⟨l, hl1, hl2⟩ := List.mem_flatten.mp hv
      rw [List.eq_of_mem_replicate hl1] at hl2
      obtain ⟨i, hi, rfl⟩ := List.mem_map.mp hl2
      exact .inr (.inr ⟨i, List.mem_range.mp hi, rfl⟩)
    generalize (List.replicate (1 + j).toNat ((List.range n).map fun (i : Nat) => V.int (i : Int))).flatten = rp at *
    have g4 := Gq.new (o := .lst rp) g3.pl h3
    have h33 : (upd H3 a3 (.lst rp)) a3 = some (.lst rp) := upd_same
    have hG4 := g4.ex _ _ hG1
    have hH4 := g4.pl.ex _ _ hG4
    generalize upd H3 a3 (.lst rp) = H4 at *
    refine ⟨a1, a3, _, _, rfl, rfl, hH4, h33, by rw [sizeLine_eq, hrep]; show 2 + _ ≤ _; omega, fun nl hnl => ?_⟩
    have g5 := Gq.new (o := .lst ([V.str "here", .str "drop"] ++ rp)) g4.pl hnl
    have hG5 : (upd (upd G2 a3 (.lst rp)) nl (.lst ([V.str "here", .str "drop"] ++ rp))) nl = some (.lst ([V.str "here", .str "drop"] ++ rp)) := upd_same
    have g05 := ((g2.trans g3).trans g4).trans g5
    generalize upd (upd G2 a3 (.lst rp)) nl (.lst ([V.str "here", .str "drop"] ++ rp)) = G5 at *
    generalize upd H4 nl (.lst ([V.str "here", .str "drop"] ++ rp)) = H5 at *
    have hwall : ∀ v ∈ [V.str "here", .str "drop"] ++ rp, WayN n v := fun v hv => by
      rcases List.mem_append.mp hv with z | z
      · simp only [List.mem_cons, List.not_mem_nil, or_false] at z
        rcases z with rfl | rfl
        · exact .inl rfl
        · exact .inr (.inl rfl)
      · exact hway v z
    have hnlen : ([V.str "here", .str "drop"] ++ rp).length = 2 + n * (1 + j).toNat := by rw [List.length_append, hrep]; rfl
    change tRet _ _ [some (.ref p), some (.int (n : Int)), some (.int (m : Int)), some (.ref nl), none] H5
    refine ep_lcG (p := p) (g := g) (c := c) (G := G5) (H := H5) (σ := [some (.ref p), some (.int (n : Int)), some (.int (m : Int)), some (.ref nl), none]) (ta := tVar 1) (te := tCall spEnt [] E0 (tCons (tVar 0) (tCons (tCall spDrw [] E0 (tCons (tVar 0) (tCons (tOp (rI0 fun i j => .int (i + j)) (tVar 2) (tC (.int 1))) tNil))) (tCons (tVar 3) tNil)))) (j := 4) (vs := [4]) (n := n) (Yg := RowG n m) g05.pl (ev_var rfl) (by omega) (fun x => rfl) (fun _ _ _ e h => h.mono e) (fun G6 H6 i eG hP6 hi Q' kk => ?_) (fun G' H' D us g6 h1 h2 h3 => k G' H' D us (g05.trans g6) h1 h2 h3)
    refine ⟨.ref p, rfl, ep_drw (g := g) (c := c) (G := G6) (z := (m : Int) + 1) rfl (ev_op (ev_var rfl) ev_c rv_I0) (by omega) (by omega) H6 hP6 _ fun H7 v g7 hv => ?_⟩
    obtain ⟨j2, rfl, hj2, hj3⟩ := hv
    obtain ⟨jn, rfl⟩ : ∃ jn : Nat, j2 = (jn : Int) := ⟨j2.toNat, by omega⟩
    exact ⟨.ref nl, rfl, G6, p, g, c, nl, jn, _, rfl, g7.pl, by omega, eG _ _ hG5, by rw [hnlen]; omega, by rw [hnlen]; omega, fun v hv => (hwall v hv).nx hn8, fun G7 H8 L1 us es g8 h1 h2 h3 h4 => kk G7 H8 _ (g7.trans g8) ⟨L1, us, es, rfl, h1, h2, h3.le (by omega), fun e he => hwall _ (h4 e he)⟩⟩
/-! _law_address -/
end
end Wk

set_option Elab.async false
set_option linter.all false
set_option maxRecDepth 100000
set_option maxHeartbeats 4000000
namespace Wk
open PySem PySem.Spec PyProof.Rows L2 Evl
/-! the ways of an address -/
theorem val_back : ∀ {es : List Row} {k : List Nat} {v : V}, valV es k = some v → (k, v) ∈ es
  | [], _, _, h => by cases h
  | (a, b) :: r, k, v, h => by
    by_cases c : a = k
    · rw [valV_pos c] at h
      rw [← Option.some.inj h, c]
      exact List.mem_cons_self
    · rw [valV_neg c] at h
      exact List.mem_cons_of_mem _ (val_back h)
theorem long_ex (es : List Row) (l : List Nat) : ∃ v, LongIs es l v := by
  have h : ∀ n, n ≤ 11 → (∃ v, LongIs es l v) ∨ ∀ j, j < n → valV es (l.take (10 - j)) = none := by
    intro n
    induction n with
    | zero => exact fun _ => .inr fun j hj => absurd hj (Nat.not_lt_zero j)
    | succ n ih =>
      intro hn
      rcases ih (by omega) with h | h
      · exact .inl h
      · cases e : valV es (l.take (10 - n)) with
        | some v => exact .inl ⟨v, .inl ⟨n, by omega, e, h⟩⟩
        | none =>
          refine .inr fun j hj => ?_
          by_cases c : j = n
          · rw [c]; exact e
          · exact h j (by omega)
  rcases h 11 (Nat.le_refl _) with h | h
  · exact h
  · exact ⟨_, .inr ⟨rfl, fun j hj => h j (by omega)⟩⟩
theorem long_way {es : List Row} {l : List Nat} {v : V} {n : Nat} (h : LongIs es l v) (hw : ∀ e ∈ es, WayN n e.2) : WayN n v := by
  rcases h with ⟨i, _, hv, _⟩ | ⟨rfl, _⟩
  · exact hw _ (val_back hv)
  · exact .inr (.inl rfl)
theorem long_is {es : List Row} {l : List Nat} {v : V} (nd : (es.map (·.1)).Nodup) (h10 : ∀ e ∈ es, e.1.length ≤ 10) (hl : l.length = 10) (h : LongIs es l v) : LawIs es l v := by
  have key : ∀ e ∈ es, l.take e.1.length = e.1 → valV es (l.take (10 - (10 - e.1.length))) = some e.2 := fun e he hp => by
    have : 10 - (10 - e.1.length) = e.1.length := by have := h10 e he; omega
    rw [this, hp]
    exact valE_mem nd he
  rcases h with ⟨i, hi, hv, hno⟩ | ⟨rfl, hno⟩
  · have hm := val_back hv
    have hlen : (l.take (10 - i)).length = 10 - i := by rw [List.length_take]; omega
    refine .inr ⟨_, hm, by rw [hlen], rfl, fun e' he' hp => ?_⟩
    rw [hlen]
    have := h10 e' he'
    by_cases c : e'.1.length ≤ 10 - i
    · exact c
    · have z := key e' he' hp
      rw [hno _ (by omega)] at z
      cases z
  · refine .inl ⟨rfl, fun e he hp => ?_⟩
    have z := key e he hp
    rw [hno _ (by omega)] at z
    cases z
theorem law_perm {a b : List Row} {l : List Nat} {v : V} (hp : a.Perm b) (h : LawIs a l v) : LawIs b l v := by
  rcases h with ⟨rfl, h⟩ | ⟨e, he, h1, rfl, h2⟩
  · exact .inl ⟨rfl, fun e he => h e (hp.mem_iff.mpr he)⟩
  · exact .inr ⟨e, hp.mem_iff.mp he, h1, rfl, fun e' he' => h2 e' (hp.mem_iff.mpr he')⟩
theorem way_nw {n : Nat} {v : V} (h : WayN n v) : ∃ w : Nw, v = nwV w ∧ (∀ k, w = .go k → k < n) ∧ ∀ s, w = .fin s → s = "here" ∨ s = "drop" := by
  rcases h with rfl | rfl | ⟨i, hi, rfl⟩
  · exact ⟨.fin "here", rfl, (fun k z => by cases z), (fun s z => by cases z; exact .inl rfl)⟩
  · exact ⟨.fin "drop", rfl, (fun k z => by cases z), (fun s z => by cases z; exact .inr rfl)⟩
  · exact ⟨.go i, rfl, (fun k z => by cases z; exact hi), (fun s z => by cases z)⟩
/-- the ways of all rows -/
theorem nv_ex {n : Nat} {l : List Nat} : ∀ (ess : List (List Row)), (∀ es ∈ ess, ∀ e ∈ es, WayN n e.2) → ∃ nv : List Nw, nv.length = ess.length ∧ (∀ w ∈ nv, (∀ k, w = .go k → k < n) ∧ ∀ s, w = .fin s → s = "here" ∨ s = "drop") ∧ ∀ (r : Nat) es w, ess[r]? = some es → nv[r]? = some w → LongIs es l (nwV w)
  | [], _ => ⟨[], rfl, (fun _ h => by cases h), fun r es w h => by cases h⟩
  | es :: ess, h => by
    obtain ⟨nv, h1, h2, h3⟩ := nv_ex (n := n) (l := l) ess fun a ha => h a (List.mem_cons_of_mem _ ha)
    obtain ⟨v, hv⟩ := long_ex es l
    obtain ⟨w, rfl, hw⟩ := way_nw (long_way hv (h es List.mem_cons_self))
    refine ⟨w :: nv, by simp [h1], fun x hx => (List.mem_cons.mp hx).elim (fun z => by rw [z]; exact hw) (h2 x), fun r es' w' ha hb => ?_⟩
    cases r with
    | zero =>
      cases ha
      cases hb
      exact hv
    | succ r => exact h3 r es' w' ha hb
/-- all the tables of a field have the ways nv -/
theorem rk_of {ess ess2 : List (List Row)} {l : List Nat} {nv : List Nw} {m : Nat} (hl : l.length = 10) (h1 : nv.length = ess.length) (h2 : ∀ w ∈ nv, (∀ k, w = .go k → k < ess.length) ∧ ∀ s, w = .fin s → s = "here" ∨ s = "drop") (h3 : ∀ (r : Nat) es w, ess[r]? = some es → nv[r]? = some w → LongIs es l (nwV w))
    (hok : ∀ es ∈ ess, EsOk es m) (he : ess2.length = ess.length) (hp : ∀ (r : Nat) e2, ess2[r]? = some e2 → ∃ e1, ess[r]? = some e1 ∧ e2.Perm e1) : Rk ess2 l nv := by
  refine ⟨by omega, ⟨fun a k ha => by rw [h1]; exact (h2 _ (List.mem_of_getElem? ha)).1 k rfl, fun a s ha => (h2 _ (List.mem_of_getElem? ha)).2 s rfl⟩, fun r es2 w ha hb z hz => ?_⟩
  obtain ⟨es, he1, hpm⟩ := hp r es2 ha
  have ho := hok es (List.mem_of_getElem? he1)
  have hlw := law_perm hpm.symm (long_is ho.nd (fun e he => (ho.it e he).2.1) hl (h3 r es w he1 hb))
  exact long_law ((hpm.map (·.1)).nodup_iff.mpr ho.nd) hl (fun e he => (ho.it e (hpm.mem_iff.mp he)).2.1) hz hlw
/-! rows that are data -/
theorem rows_ess {n m : Nat} {G : Hp} : ∀ (us : List V), (∀ u ∈ us, RowG n m G u) → ∃ ess : List (List Row), ess.length = us.length ∧ (∀ es ∈ ess, EsOk es m ∧ ∀ e ∈ es, WayN n e.2) ∧ ∀ (r : Nat) u, us[r]? = some u → ∃ l vs es, ess[r]? = some es ∧ u = .ref l ∧ G l = some (.lst vs) ∧ EsT G vs es
  | [], _ => ⟨[], rfl, (fun _ h => by cases h), fun r u h => by cases h⟩
  | u :: us, h => by
    obtain ⟨ess, h1, h2, h3⟩ := rows_ess us fun a ha => h a (List.mem_cons_of_mem _ ha)
    obtain ⟨l, vs, es, rfl, i1, i2, i3, i4⟩ := h u List.mem_cons_self
    refine ⟨es :: ess, by simp [h1], fun x hx => (List.mem_cons.mp hx).elim (fun z => by rw [z]; exact ⟨i3, i4⟩) (h2 x), fun r u' hu => ?_⟩
    cases r with
    | zero =>
      cases hu
      exact ⟨l, vs, es, rfl, rfl, i1, i2⟩
    | succ r => exact h3 r u' hu
theorem EsOk.perm {a b : List Row} {m : Nat} (h : EsOk b m) (hp : a.Perm b) : EsOk a m := ⟨(hp.map (·.1)).nodup_iff.mpr h.nd, by rw [hp.length_eq]; exact h.len, fun e he => h.it e (hp.mem_iff.mp he)⟩
/-! tables beside a list that grows -/
theorem EsT.updL {H : Hp} {D : Addr} {xs : List V} {o : HO} (hD : H D = some (.lst xs)) : ∀ {us : List V} {es : List Row}, EsT H us es → EsT (upd H D o) us es
  | _, _, .nil => .nil
  | _, _, .cons (b := b) h t => .cons (by rw [upd_ne (fun z => by rw [z, hD] at h; cases h)]; exact h) (t.updL hD)
theorem Tb.updL {CT : Addr} {H : Hp} {x D : Addr} {es : List Row} {xs : List V} {o : HO} (hD : H D = some (.lst xs)) (h : Tb CT H x es) : Tb CT (upd H D o) x es := by
  obtain ⟨dx, fs, te, nd, us', es', h1, h2, h3, h4, h5, h6, h7, h8⟩ := h
  exact ⟨dx, fs, te, nd, us', es', by rw [upd_ne (fun z => by rw [z, hD] at h1; cases h1)]; exact h1, h2, h3, h4, by rw [upd_ne (fun z => by rw [z, hD] at h5; cases h5)]; exact h5, h6.updL hD, h7, by rw [upd_ne (fun z => by rw [z, hD] at h8; cases h8)]; exact h8⟩
theorem TsT.updL {CT : Addr} {H : Hp} {D : Addr} {xs : List V} {o : HO} (hD : H D = some (.lst xs)) : ∀ {us : List V} {ess : List (List Row)}, TsT CT H us ess → TsT CT (upd H D o) us ess
  | _, _, .nil => .nil
  | _, _, .cons h t => .cons (h.updL hD) (t.updL hD)
theorem TsT.snoc {CT : Addr} {H : Hp} {x : Addr} {es : List Row} (h : Tb CT H x es) : ∀ {us : List V} {ess : List (List Row)}, TsT CT H us ess → TsT CT H (us ++ [.ref x]) (ess ++ [es])
  | _, _, .nil => .cons h .nil
  | _, _, .cons i t => .cons i (t.snoc h)
/-- [Table(..) for row in rows] -/
theorem lc_tabs {K : PySem.W.Frag} {σ : L2.St} {H : Hp} {te tl : TE} {j : Nat} {vs : List Nat} {Q : VK} {CT a : Addr} {us : List V} {ess : List (List Row)} (ha : Ev tl σ H (.ref a)) (hx : H a = some (.lst us)) (hl : us.length ≤ 100) (hlen : ess.length = us.length) (hw : ∀ x, wipe ((wipe σ vs).set j (some x)) vs = wipe σ vs)
    (he : ∀ (i : Nat) u es H', Ex H H' → us[i]? = some u → ess[i]? = some es → ∀ Q' : VK, (∀ x es' H'', Ex H' H'' → es'.Perm es → Tb CT H'' x es' → Q' (.ref x) H'') → te ((wipe σ vs).set j (some u)) H' Q')
    (k : ∀ D H' ts ess', Ex H H' → H' D = some (.lst ts) → TsT CT H' ts ess' → ess'.length = ess.length → (∀ (r : Nat) e2, ess'[r]? = some e2 → ∃ e1, ess[r]? = some e1 ∧ e2.Perm e1) → Q (.ref D) H') :
    tLc (iList K tl) (gName j) tYes te vs σ H Q := ha H (Ex.refl _) _ fun H1 e1 => by
  refine ⟨a, rfl, ⟨us, sq_of (e1 _ _ hx)⟩, fun D hD => ?_⟩
  refine lc_it (walk_list (K := K) (a := a) (xs := us)) (fun i H' => ∃ ts ess', Ex H1 H' ∧ H' D = some (.lst ts) ∧ ts.length = i ∧ TsT CT H' ts ess' ∧ ∀ (r : Nat) e2, ess'[r]? = some e2 → ∃ e1, ess[r]? = some e1 ∧ e2.Perm e1) ⟨[], [], Ex.new hD, upd_same, rfl, .nil, fun r e2 h => by cases h⟩ (fun i H' _ p => ?_) (fun i x H' H2 hi p y => ?_) (fun H' p => ?_)
  · obtain ⟨_, _, e2, _⟩ := p
    exact sq_of (e2 _ _ (e1 _ _ hx))
  · obtain ⟨ts, ess', e2, h1, h2, h3, h4⟩ := p
    obtain ⟨rfl, hxi⟩ := y
    have hil : i < ess.length := by rw [hlen]; exact (List.getElem?_eq_some_iff.mp hxi).1
    refine ⟨hw _, et_yes H2 (Ex.refl _) _ fun H3 e3 => ?_⟩
    rw [if_pos rfl]
    refine he i x ess[i] H3 ((e1.trans e2).trans e3) hxi (List.getElem?_eq_getElem hil) _ fun y es' H4 e4 hp hT => ?_
    have hD4 := e4 _ _ (e3 _ _ h1)
    have e14 := (e2.trans e3).trans e4
    have hel := h3.length
    refine ⟨ts, hD4, sz_lt (by omega), ts ++ [.ref y], ess' ++ [es'], Ex.mut e14 hD, upd_same, by simp [h2], (((h3.mono e3).mono e4).snoc hT).updL hD4, fun r e2 hr => ?_⟩
    by_cases c : r < ess'.length
    · rw [List.getElem?_append_left c] at hr
      exact h4 r e2 hr
    · rw [List.getElem?_append_right (by omega)] at hr
      have hr0 : r - ess'.length = 0 := by
        cases hz : r - ess'.length with
        | zero => rfl
        | succ q => rw [hz] at hr; cases hr
      rw [hr0] at hr
      cases hr
      refine ⟨ess[i], ?_, hp⟩
      rw [show r = i by omega]
      exact List.getElem?_eq_getElem hil
  · obtain ⟨ts, ess', e2, h1, h2, h3, h4⟩ := p
    have := h3.length
    exact k D H' ts ess' (e1.trans e2) h1 h3 (by omega) h4
end Wk

set_option Elab.async false
set_option linter.all false
set_option maxRecDepth 100000
set_option maxHeartbeats 8000000
namespace Wk
open PySem PySem.Spec PyProof.Rows L2 Evl
section
variable {P : Program} {w : World} {K : PySem.W.Frag} {mg : Str → Option Value} {base : Heap} {f : Addr} {fd : FuncData} {CT CF : Addr}
structure MkT (P : Program) (w : World) (K : PySem.W.Frag) (mg : Str → Option Value) (base : Heap) (CT : Addr) : Prop where
  g : mg "Table" = some (.ref CT)
  ex : ∃ (fI : Addr) (fd : FuncData), Mk K CT fI ∧ FnOk P w K mg base CX0 6 fI fd ["self", "entries"] (spInit CT) ∧ Binds K fd ["self", "entries"] []
structure MkF (P : Program) (w : World) (K : PySem.W.Frag) (mg : Str → Option Value) (base : Heap) (CF CT : Addr) : Prop where
  g : mg "Field" = some (.ref CF)
  ex : ∃ (fI : Addr) (fd : FuncData), Mk K CF fI ∧ FnOk P w K mg base CX0 6 fI fd ["self", "tables"] (spFIn CF CT) ∧ Binds K fd ["self", "tables"] []
theorem mk_tab {W : XK} {H : Hp} {Q : Addr → Hp → Prop} {l : Addr} {us : List V} {es : List Row} (hrow : RowA H l us) (hus : EsT H us es) (hes : EsOk es 24) (k : ∀ x H', Ex H H' → H x = none → Tb CT H' x es → Q x H') :
    ∀ x dx, H x = none → H dx = none → dx ≠ x → spInit CT [.ref x, .ref l] (upd (upd H dx (.own x)) x (.ins CT dx [])) (fun v H2 => v = .non ∧ Q x H2) W := fun x dx hx hdx hne => by
  have e1 : Ex H (upd (upd H dx (.own x)) x (.ins CT dx [])) := (Ex.new hdx).trans (Ex.new (by rw [upd_ne (Ne.symm hne)]; exact hx))
  refine ⟨x, l, dx, us, es, rfl, upd_same, hrow.mono e1, hus.mono e1, hes, fun H' o hT => ⟨rfl, k x H' (fun b u hb => ?_) hx hT⟩⟩
  exact o b u (fun z => by rw [z, hx] at hb; cases hb) (e1 _ _ hb)
theorem mk_fld {W : XK} {H : Hp} {Q : Addr → Hp → Prop} {t : Addr} {ts : List V} {ess : List (List Row)} (ht : H t = some (.tup ts)) (hts : TsT CT H ts ess) (hok : FOk ess) (hlen : ∀ es ∈ ess, es.length ≤ 100) (k : ∀ x H', Ex H H' → H x = none → Fl CF CT H' x ess → Q x H') :
    ∀ x dx, H x = none → H dx = none → dx ≠ x → spFIn CF CT [.ref x, .ref t] (upd (upd H dx (.own x)) x (.ins CF dx [])) (fun v H2 => v = .non ∧ Q x H2) W := fun x dx hx hdx hne => by
  have e1 : Ex H (upd (upd H dx (.own x)) x (.ins CF dx [])) := (Ex.new hdx).trans (Ex.new (by rw [upd_ne (Ne.symm hne)]; exact hx))
  refine ⟨x, t, dx, ts, ess, rfl, upd_same, e1 _ _ ht, hts.mono e1, hok, hlen, fun H' o hT => ⟨rfl, k x H' (fun b u hb => ?_) hx hT⟩⟩
  exact o b u (fun z => by rw [z, hx] at hb; cases hb) (e1 _ _ hb)
theorem TsT.hd {G H : Hp} {p g c : Addr} (h : Pq G H p g c) : ∀ {us : List V} {ess : List (List Row)}, (∀ es ∈ ess, ∀ e ∈ es, IsB e.1) → TsT CT H us ess → TsT CT (Hd2 H p g) us ess
  | _, _, _, .nil => .nil
  | _, _, hb, .cons i t => .cons (i.hd h (hb _ List.mem_cons_self)) (t.hd h fun es he => hb es (List.mem_cons_of_mem _ he))
theorem Fl.hd {G H : Hp} {p g c x : Addr} {ess : List (List Row)} (h : Pq G H p g c) (hb : ∀ es ∈ ess, ∀ e ∈ es, IsB e.1) (hF : Fl CF CT H x ess) : Fl CF CT (Hd2 H p g) x ess := by
  obtain ⟨dx, fs, t, ts, h1, h2, h3, h4, h5, h6⟩ := hF
  refine ⟨dx, fs, t, ts, ?_, h2, h3, h4, h.tupH h5, h6.hd h hb⟩
  obtain ⟨cs, gs, k, s, m, i1, i2, i3, i4, i5, r⟩ := h.at_
  rw [hd2_at (fun z => by rw [z, i4] at h1; cases h1) (fun z => by rw [z, i5] at h1; cases h1)]
  exact h1
theorem FOk.of {ess ess2 : List (List Row)} {n m : Nat} (hn : ess.length = n) (h1 : 1 ≤ n) (h8 : n ≤ 8) (hok : ∀ es ∈ ess, EsOk es m ∧ ∀ e ∈ es, WayN n e.2) (hm : m ≤ 100) (he : ess2.length = ess.length) (hp : ∀ (r : Nat) e2, ess2[r]? = some e2 → ∃ e1, ess[r]? = some e1 ∧ e2.Perm e1) : FOk ess2 ∧ (∀ es ∈ ess2, es.length ≤ 100) ∧ ∀ es ∈ ess2, ∀ e ∈ es, IsB e.1 := by
  have key : ∀ es ∈ ess2, ∃ e1 ∈ ess, es.Perm e1 := fun es hes => by
    obtain ⟨r, hr⟩ := List.getElem?_of_mem hes
    obtain ⟨e1, i1, i2⟩ := hp r es hr
    exact ⟨e1, List.mem_of_getElem? i1, i2⟩
  refine ⟨⟨by omega, by omega, fun es hes e hee => ?_⟩, fun es hes => ?_, fun es hes e hee => ?_⟩
  · obtain ⟨e1, i1, i2⟩ := key es hes
    rw [he, hn]
    exact (hok e1 i1).2 e (i2.mem_iff.mp hee)
  · obtain ⟨e1, i1, i2⟩ := key es hes
    rw [i2.length_eq]
    exact Nat.le_trans (hok e1 i1).1.len hm
  · obtain ⟨e1, i1, i2⟩ := key es hes
    exact ((hok e1 i1).1.it e (i2.mem_iff.mp hee)).1

end
end Wk

set_option Elab.async false
set_option linter.all false
set_option maxRecDepth 100000
set_option maxHeartbeats 4000000
namespace Wk
/-! ranges as mathematics -/
theorem IsB.z {a : List Nat} (h : IsB a) : IsB (a ++ [48]) := h.app fun c hc => by rw [List.mem_singleton.mp hc]; exact .inl rfl
theorem IsB.o {a : List Nat} (h : IsB a) : IsB (a ++ [49]) := h.app fun c hc => by rw [List.mem_singleton.mp hc]; exact .inr rfl
/-- the number that bits tell -/
def vl (l : List Nat) : Nat := l.foldl (fun a c => 2 * a + (c - 48)) 0
theorem vl_snoc (l : List Nat) (c : Nat) : vl (l ++ [c]) = 2 * vl l + (c - 48) := by simp [vl]
theorem snoc_ind {P : List Nat → Prop} (h0 : P []) (h1 : ∀ l c, P l → P (l ++ [c])) (l : List Nat) : P l := by
  have key : ∀ r : List Nat, P r.reverse := fun r => by
    induction r with
    | nil => exact h0
    | cons c r ih => rw [List.reverse_cons]; exact h1 _ _ ih
  have := key l.reverse
  rwa [List.reverse_reverse] at this
/-- the bits of a number -/
def bN : Nat → Nat → List Nat
  | 0, _ => []
  | n + 1, i => bN n (i / 2) ++ [48 + i % 2]
theorem bN_succ (n i : Nat) : bN (n + 1) i = bN n (i / 2) ++ [48 + i % 2] := rfl
theorem bN_len : ∀ n i, (bN n i).length = n
  | 0, _ => rfl
  | n + 1, i => by simp [bN, bN_len n]
theorem bN_isB : ∀ n i, IsB (bN n i)
  | 0, _ => IsB.nil
  | n + 1, i => (bN_isB n _).app fun c hc => by
    rw [List.mem_singleton.mp hc]
    omega
theorem vl_bN : ∀ n i, i < 2 ^ n → vl (bN n i) = i
  | 0, i, h => by
    have : i = 0 := by simpa using h
    rw [this]; rfl
  | n + 1, i, h => by
    unfold bN
    rw [vl_snoc, vl_bN n (i / 2) (by rw [Nat.pow_succ] at h; omega)]
    omega
theorem bN_vl (l : List Nat) : IsB l → bN l.length (vl l) = l := by
  refine snoc_ind (P := fun l => IsB l → bN l.length (vl l) = l) (fun _ => rfl) (fun l c ih h => ?_) l
  have hl : IsB l := fun x hx => h x (List.mem_append_left _ hx)
  have hc := h c (List.mem_append_right _ (List.mem_singleton.mpr rfl))
  rw [List.length_append, List.length_singleton, vl_snoc]
  show bN l.length ((2 * vl l + (c - 48)) / 2) ++ [48 + (2 * vl l + (c - 48)) % 2] = _
  have e1 : (2 * vl l + (c - 48)) / 2 = vl l := by omega
  have e2 : 48 + (2 * vl l + (c - 48)) % 2 = c := by omega
  rw [e1, e2, ih hl]
theorem vl_lt (l : List Nat) : IsB l → vl l < 2 ^ l.length := by
  refine snoc_ind (P := fun l => IsB l → vl l < 2 ^ l.length) (fun _ => by decide) (fun l c ih h => ?_) l
  have hl : IsB l := fun x hx => h x (List.mem_append_left _ hx)
  have hc := h c (List.mem_append_right _ (List.mem_singleton.mpr rfl))
  rw [List.length_append, List.length_singleton, vl_snoc, Nat.pow_succ]
  have := ih hl
  omega
theorem vl_app (a b : List Nat) : vl (a ++ b) = vl a * 2 ^ b.length + vl b := by
  refine snoc_ind (P := fun b => vl (a ++ b) = vl a * 2 ^ b.length + vl b) (by simp [vl]) (fun b c ih => ?_) b
  rw [← List.append_assoc, vl_snoc, ih, vl_snoc, List.length_append, List.length_singleton, Nat.pow_succ]
  have : vl a * (2 ^ b.length * 2) = 2 * (vl a * 2 ^ b.length) := by rw [← Nat.mul_assoc, Nat.mul_comm]
  rw [this]
  omega
theorem take_bN : ∀ n k i, k ≤ n → (bN n i).take k = bN k (i / 2 ^ (n - k))
  | 0, k, i, h => by
    have : k = 0 := by omega
    subst this
    simp [bN]
  | n + 1, k, i, h => by
    by_cases hk : k = n + 1
    · subst hk
      rw [List.take_of_length_le (by rw [bN_len]; omega)]
      simp
    · rw [bN_succ]
      rw [List.take_append_of_le_length (by rw [bN_len]; omega), take_bN n k (i / 2) (by omega), Nat.div_div_eq_div_mul]
      congr 2
      rw [show n + 1 - k = (n - k) + 1 by omega, Nat.pow_succ, Nat.mul_comm]
/-- the first address of a range, and the one behind its last -/
def lo (r : List Nat) : Nat := vl r * 2 ^ (10 - r.length)
def hi (r : List Nat) : Nat := (vl r + 1) * 2 ^ (10 - r.length)
theorem lo_lt (r : List Nat) : lo r < hi r := by
  unfold lo hi
  exact Nat.mul_lt_mul_of_lt_of_le (by omega) (Nat.le_refl _) (Nat.pow_pos (by decide))
theorem hi_le {r : List Nat} (h : IsB r) (hl : r.length ≤ 10) : hi r ≤ 1024 := by
  unfold hi
  have h1 := vl_lt r h
  have : (2 : Nat) ^ r.length * 2 ^ (10 - r.length) = 1024 := by rw [← Nat.pow_add, show r.length + (10 - r.length) = 10 by omega]
  calc (vl r + 1) * 2 ^ (10 - r.length) ≤ 2 ^ r.length * 2 ^ (10 - r.length) := Nat.mul_le_mul_right _ h1
    _ = 1024 := this
/-- a range has an address -/
theorem take_iff {r : List Nat} {i : Nat} (h : IsB r) (hl : r.length ≤ 10) (hi' : i < 1024) : (bN 10 i).take r.length = r ↔ lo r ≤ i ∧ i < hi r := by
  rw [take_bN 10 r.length i hl]
  have hp : 0 < 2 ^ (10 - r.length) := Nat.pow_pos (by decide)
  have e : (2 : Nat) ^ r.length * 2 ^ (10 - r.length) = 1024 := by rw [← Nat.pow_add, show r.length + (10 - r.length) = 10 by omega]
  have hd : i / 2 ^ (10 - r.length) < 2 ^ r.length := by
    rw [Nat.div_lt_iff_lt_mul hp, e]
    exact hi'
  have key : bN r.length (i / 2 ^ (10 - r.length)) = r ↔ i / 2 ^ (10 - r.length) = vl r := by
    constructor
    · intro z
      have := vl_bN r.length _ hd
      rw [z] at this
      exact this.symm
    · intro z
      rw [z]
      exact bN_vl r h
  rw [key]
  unfold lo hi
  constructor
  · intro z
    rw [← z]
    refine ⟨Nat.div_mul_le_self _ _, ?_⟩
    rw [Nat.add_mul, Nat.one_mul]
    exact Nat.lt_div_mul_add hp
  · intro ⟨z1, z2⟩
    apply Nat.div_eq_of_lt_le z1 z2
/-- all texts of n bits, ascending -/
def AD : Nat → List (List Nat)
  | 0 => [[]]
  | n + 1 => (AD n).flatMap fun r => [r ++ [48], r ++ [49]]
theorem flat_at {α β : Type} (f g : α → β) : ∀ (l : List α) (i : Nat), (l.flatMap fun r => [f r, g r])[i]? = (l[i / 2]?).map fun r => if i % 2 = 0 then f r else g r
  | [], i => by simp
  | a :: l, 0 => by simp
  | a :: l, 1 => by simp
  | a :: l, i + 2 => by
    rw [List.flatMap_cons]
    show (l.flatMap fun r => [f r, g r])[i]? = _
    rw [flat_at f g l i]
    have e1 : (i + 2) / 2 = i / 2 + 1 := by omega
    have e2 : (i + 2) % 2 = i % 2 := by omega
    rw [e1, e2]
    rfl
theorem AD_len : ∀ n, (AD n).length = 2 ^ n
  | 0 => rfl
  | n + 1 => by
    unfold AD
    rw [List.length_flatMap]
    have : ((AD n).map fun a => [a ++ [48], a ++ [49]].length).sum = 2 * (AD n).length := by
      generalize AD n = l
      induction l with
      | nil => rfl
      | cons a l ih => rw [List.map_cons, List.sum_cons, ih]; simp; omega
    rw [this, AD_len n, Nat.pow_succ, Nat.mul_comm]
theorem AD_at : ∀ n i, i < 2 ^ n → (AD n)[i]? = some (bN n i)
  | 0, i, h => by
    have : i = 0 := by simpa using h
    rw [this]; rfl
  | n + 1, i, h => by
    unfold AD
    rw [flat_at, AD_at n (i / 2) (by rw [Nat.pow_succ] at h; omega)]
    rw [bN_succ]
    have : i % 2 = 0 ∨ i % 2 = 1 := by omega
    rcases this with e | e <;> simp [e]
theorem AD_eq (n : Nat) : AD n = (List.range (2 ^ n)).map (bN n) := by
  apply List.ext_getElem?
  intro i
  by_cases h : i < 2 ^ n
  · rw [AD_at n i h, List.getElem?_map, List.getElem?_range h]
    rfl
  · rw [List.getElem?_eq_none (by rw [AD_len]; omega), List.getElem?_eq_none (by simp; omega)]
/-! the widest ranges that have one worth -/
section
variable {α : Type} [DecidableEq α]
def oneB (ws : List α) : Bool := match ws with | [] => true | w :: t => t.all (fun x => decide (x = w))
def mrg : Nat → List α → List Nat → List (List Nat × α)
  | _, [], _ => []
  | 0, w :: _, a => [(a, w)]
  | n + 1, w :: t, a => if oneB (w :: t) = true then [(a, w)] else mrg n ((w :: t).take (2 ^ n)) (a ++ [48]) ++ mrg n ((w :: t).drop (2 ^ n)) (a ++ [49])
/-- a row of ranges that has all addresses from p to q, each range with one worth, and no wider one -/
inductive Prt (W : Nat → α) : Nat → List (List Nat × α) → Nat → Prop
  | nil {p : Nat} : Prt W p [] p
  | cons {r : List Nat} {x : α} {rest : List (List Nat × α)} {p q : Nat} : IsB r → r.length ≤ 10 → lo r = p → (∀ i, lo r ≤ i → i < hi r → W i = x) →
      (r ≠ [] → ∃ i, lo r.dropLast ≤ i ∧ i < hi r.dropLast ∧ W i ≠ x) → Prt W (hi r) rest q → Prt W p ((r, x) :: rest) q
theorem Prt.app {W : Nat → α} : ∀ {l m : List (List Nat × α)} {p q s : Nat}, Prt W p l q → Prt W q m s → Prt W p (l ++ m) s
  | [], _, _, _, _, .nil, k => k
  | _ :: _, _, _, _, _, .cons h1 h2 h3 h4 h5 t, k => .cons h1 h2 h3 h4 h5 (t.app k)
theorem one_all {ws : List α} {w : α} {t : List α} (e : ws = w :: t) (h : oneB ws = true) : ∀ (i : Nat) (x : α), ws[i]? = some x → x = w := by
  subst e
  intro i x hx
  cases i with
  | zero => exact (Option.some.inj hx).symm
  | succ i =>
    have := List.all_eq_true.mp h x (List.mem_of_getElem? (show t[i]? = some x from hx))
    exact of_decide_eq_true this
theorem one_not {w : α} {t : List α} (h : ¬ oneB (w :: t) = true) : ∃ (i : Nat) (x : α), (w :: t)[i]? = some x ∧ x ≠ w := by
  have h : ¬ t.all (fun x => decide (x = w)) = true := h
  rw [List.all_eq_true] at h
  have ⟨x, hx⟩ := Classical.not_forall.mp h
  have ⟨hm, hn⟩ := Classical.not_imp.mp hx
  obtain ⟨i, hi⟩ := List.getElem?_of_mem hm
  exact ⟨i + 1, x, hi, fun z => hn (decide_eq_true z)⟩
theorem mrg_prt {W : Nat → α} : ∀ (n : Nat) (ws : List α) (a : List Nat), IsB a → a.length + n = 10 → ws.length = 2 ^ n → (∀ i, i < 2 ^ n → ws[i]? = some (W (vl a * 2 ^ n + i))) →
    (a ≠ [] → ∀ x, ∃ i, lo a.dropLast ≤ i ∧ i < hi a.dropLast ∧ W i ≠ x) → Prt W (vl a * 2 ^ n) (mrg n ws a) ((vl a + 1) * 2 ^ n)
  | n, [], a, ha, hn, hl, hw, hx => by
    have : 0 < 2 ^ n := Nat.pow_pos (by decide)
    simp at hl
    omega
  | 0, w :: t, a, ha, hn, hl, hw, hx => by
    have el : lo a = vl a * 2 ^ 0 := by unfold lo; rw [show 10 - a.length = 0 by omega]
    have eh : hi a = (vl a + 1) * 2 ^ 0 := by unfold hi; rw [show 10 - a.length = 0 by omega]
    have w0 : w = W (vl a * 2 ^ 0 + 0) := Option.some.inj (hw 0 (by decide))
    refine .cons ha (by omega) el (fun i h1 h2 => ?_) (fun z => hx z w) (by rw [eh]; exact .nil)
    rw [el] at h1
    rw [eh] at h2
    have : i = vl a * 2 ^ 0 + 0 := by omega
    rw [this, ← w0]
  | n + 1, w :: t, a, ha, hn, hl, hw, hx => by
    have el : lo a = vl a * 2 ^ (n + 1) := by unfold lo; rw [show 10 - a.length = n + 1 by omega]
    have eh : hi a = (vl a + 1) * 2 ^ (n + 1) := by unfold hi; rw [show 10 - a.length = n + 1 by omega]
    have hp : 0 < 2 ^ n := Nat.pow_pos (by decide)
    have hp2 : (2 : Nat) ^ (n + 1) = 2 * 2 ^ n := by rw [Nat.pow_succ, Nat.mul_comm]
    have w0 : w = W (vl a * 2 ^ (n + 1) + 0) := Option.some.inj (hw 0 (by omega))
    unfold mrg
    split
    · rename_i h1
      refine .cons ha (by omega) el (fun i k1 k2 => ?_) (fun z => hx z w) (by rw [eh]; exact .nil)
      rw [el] at k1
      rw [eh, Nat.add_mul, Nat.one_mul] at k2
      have hz := hw (i - vl a * 2 ^ (n + 1)) (by omega)
      rw [show vl a * 2 ^ (n + 1) + (i - vl a * 2 ^ (n + 1)) = i by omega] at hz
      exact one_all rfl h1 _ _ hz
    · rename_i h1
      obtain ⟨j, y, hj, hy⟩ := one_not h1
      have hjl : j < 2 ^ (n + 1) := by
        have := (List.getElem?_eq_some_iff.mp hj).1
        omega
      have hjw := hw j hjl
      have ey : y = W (vl a * 2 ^ (n + 1) + j) := Option.some.inj (hj.symm.trans hjw)
      have wide : ∀ x, ∃ i, lo a ≤ i ∧ i < hi a ∧ W i ≠ x := fun x => by
        rw [el, eh, Nat.add_mul, Nat.one_mul]
        by_cases hw2 : w = x
        · exact ⟨vl a * 2 ^ (n + 1) + j, by omega, by omega, by rw [← ey, ← hw2]; exact hy⟩
        · exact ⟨vl a * 2 ^ (n + 1) + 0, by omega, by omega, by rw [← w0]; exact hw2⟩
      have v0 : vl (a ++ [48]) = 2 * vl a := by rw [vl_snoc]; omega
      have v1 : vl (a ++ [49]) = 2 * vl a + 1 := by rw [vl_snoc]
      have e1 : 2 * vl a * 2 ^ n = vl a * 2 ^ (n + 1) := by rw [hp2, Nat.mul_comm 2 (vl a), Nat.mul_assoc]
      have e2 : (2 * vl a + 1) * 2 ^ n = vl a * 2 ^ (n + 1) + 2 ^ n := by rw [Nat.add_mul, e1, Nat.one_mul]
      have e3 : (2 * vl a + 1 + 1) * 2 ^ n = (vl a + 1) * 2 ^ (n + 1) := by rw [Nat.add_mul, e2, Nat.one_mul, Nat.add_mul, Nat.one_mul]; omega
      have p1 := mrg_prt (W := W) n ((w :: t).take (2 ^ n)) (a ++ [48]) ha.z (by simp; omega) (by rw [List.length_take]; omega) (fun i h => by
        rw [List.getElem?_take_of_lt h, hw i (by omega), v0, e1]) (fun _ x => by rw [List.dropLast_concat]; exact wide x)
      have p2 := mrg_prt (W := W) n ((w :: t).drop (2 ^ n)) (a ++ [49]) ha.o (by simp; omega) (by rw [List.length_drop]; omega) (fun i h => by
        rw [List.getElem?_drop, hw (2 ^ n + i) (by omega), v1, e2, Nat.add_assoc]) (fun _ x => by rw [List.dropLast_concat]; exact wide x)
      rw [v0, e1, e2] at p1
      rw [v1, e2, e3] at p2
      exact p1.app p2
theorem mrg_all {W : Nat → α} {ws : List α} (hl : ws.length = 1024) (hw : ∀ i, i < 1024 → ws[i]? = some (W i)) : Prt W 0 (mrg 10 ws []) 1024 := by
  have := mrg_prt (W := W) 10 ws [] IsB.nil rfl hl (fun i h => by rw [hw i h]; simp [vl]) (fun z => absurd rfl z)
  simpa [vl] using this
theorem Prt.le {W : Nat → α} : ∀ {l : List (List Nat × α)} {p q : Nat}, Prt W p l q → p ≤ q
  | [], _, _, .nil => Nat.le_refl _
  | _ :: _, _, _, .cons (r := r) h1 h2 h3 h4 h5 t => by
    have := lo_lt r
    have := t.le
    omega
theorem mrg_len : ∀ (n : Nat) (ws : List α) (a : List Nat), (mrg n ws a).length ≤ 2 ^ n
  | _, [], _ => by simp [mrg]
  | 0, w :: _, a => by simp [mrg]
  | n + 1, w :: t, a => by
    unfold mrg
    split
    · have : 0 < 2 ^ n := Nat.pow_pos (by decide)
      rw [Nat.pow_succ]
      simp
      omega
    · rw [List.length_append, Nat.pow_succ]
      have := mrg_len n ((w :: t).take (2 ^ n)) (a ++ [48])
      have := mrg_len n ((w :: t).drop (2 ^ n)) (a ++ [49])
      omega
end
/-! the fewest ranges -/
inductive Cov (F : Nat → Bool) : Nat → List (List Nat) → Prop
  | nil {p : Nat} : (∀ i, p ≤ i → i < 1024 → F i = false) → Cov F p []
  | cons {r : List Nat} {rest : List (List Nat)} {p : Nat} : IsB r → r.length ≤ 10 → p ≤ lo r → (∀ i, p ≤ i → i < lo r → F i = false) → (∀ i, lo r ≤ i → i < hi r → F i = true) →
      (r ≠ [] → ∃ i, lo r.dropLast ≤ i ∧ i < hi r.dropLast ∧ F i = false) → Cov F (hi r) rest → Cov F p (r :: rest)
theorem Cov.of {F : Nat → Bool} : ∀ {l : List (List Nat × Bool)} {p q : Nat}, q ≤ p → (∀ i, q ≤ i → i < p → F i = false) → Prt F p l 1024 → Cov F q ((l.filter (·.2)).map (·.1))
  | [], _, _, h1, h2, .nil => .nil h2
  | (r, x) :: rest, p, q, h1, h2, .cons k1 k2 k3 k4 k5 t => by
    have lt := lo_lt r
    cases x with
    | false =>
      rw [List.filter_cons_of_neg (by simp)]
      refine Cov.of (by omega) (fun i a b => ?_) t
      by_cases c : i < lo r
      · exact h2 i a (by omega)
      · exact k4 i (by omega) b
    | true =>
      rw [List.filter_cons_of_pos (by simp), List.map_cons]
      have k3 : lo r = p := k3
      show Cov F q (r :: _)
      refine .cons k1 k2 (by omega) (fun i a b => h2 i a (by omega)) k4 (fun z => ?_) (Cov.of (Nat.le_refl _) (fun i a b => by omega) t)
      obtain ⟨i, a, b, c⟩ := k5 z
      exact ⟨i, a, b, by simpa using c⟩
/-- some of the ranges has an address -/
def covB (rs : List (List Nat)) (i : Nat) : Bool := rs.any fun r => decide (lo r ≤ i ∧ i < hi r)
theorem covB_iff {rs : List (List Nat)} {i : Nat} : covB rs i = true ↔ ∃ r ∈ rs, lo r ≤ i ∧ i < hi r := by
  unfold covB
  rw [List.any_eq_true]
  constructor
  · rintro ⟨r, h1, h2⟩
    exact ⟨r, h1, of_decide_eq_true h2⟩
  · rintro ⟨r, h1, h2⟩
    exact ⟨r, h1, decide_eq_true h2⟩
theorem covB_same {rs ss : List (List Nat)} (h : ∀ r, r ∈ rs ↔ r ∈ ss) (i : Nat) : covB rs i = covB ss i := by
  have : covB rs i = true ↔ covB ss i = true := by
    rw [covB_iff, covB_iff]
    exact ⟨fun ⟨r, a, b⟩ => ⟨r, (h r).mp a, b⟩, fun ⟨r, a, b⟩ => ⟨r, (h r).mpr a, b⟩⟩
  cases h1 : covB rs i <;> cases h2 : covB ss i <;> simp_all
theorem Cov.has {F : Nat → Bool} : ∀ {rs : List (List Nat)} {p : Nat}, Cov F p rs → ∀ i, p ≤ i → i < 1024 → covB rs i = F i
  | [], _, .nil h, i, a, b => by rw [h i a b]; rfl
  | r :: rest, p, .cons k1 k2 k3 k4 k5 k6 t, i, a, b => by
    have lt := lo_lt r
    have e : covB (r :: rest) i = (decide (lo r ≤ i ∧ i < hi r) || covB rest i) := rfl
    rw [e]
    by_cases c : i < lo r
    · rw [k4 i a c, decide_eq_false (by omega), Bool.false_or]
      by_cases z : covB rest i = true
      · have low : ∀ {ss : List (List Nat)} {q : Nat}, Cov F q ss → ∀ s ∈ ss, q ≤ lo s := by
          intro ss
          induction ss with
          | nil => intro q _ s hs; cases hs
          | cons s ss ih =>
            intro q hq u hu
            cases hq with
            | cons m1 m2 m3 m4 m5 m6 t =>
              rcases List.mem_cons.mp hu with e | e
              · rw [e]; exact m3
              · have := ih t u e
                have := lo_lt s
                omega
        obtain ⟨s, hs, h1, h2⟩ := covB_iff.mp z
        have := low t s hs
        omega
      · simpa using z
    · by_cases d : i < hi r
      · rw [k5 i (by omega) d, decide_eq_true ⟨by omega, d⟩, Bool.true_or]
      · rw [decide_eq_false (by omega), Bool.false_or]
        exact t.has i (by omega) b
def fewR (F : Nat → Bool) : List (List Nat) := ((mrg 10 ((List.range 1024).map F) []).filter (·.2)).map (·.1)
theorem fewR_cov (F : Nat → Bool) : Cov F 0 (fewR F) := Cov.of (Nat.le_refl _) (fun i a b => by omega) (mrg_all (by simp) fun i h => by rw [List.getElem?_map, List.getElem?_range h]; rfl)
theorem fewR_congr {F G : Nat → Bool} (h : ∀ i, i < 1024 → F i = G i) : fewR F = fewR G := by
  unfold fewR
  rw [List.map_congr_left fun i hi => h i (List.mem_range.mp hi)]
theorem fewR_len (F : Nat → Bool) : (fewR F).length ≤ 1024 := by
  unfold fewR
  rw [List.length_map]
  exact Nat.le_trans (List.length_filter_le _ _) (mrg_len 10 _ _)
theorem Cov.bits {F : Nat → Bool} : ∀ {rs : List (List Nat)} {p : Nat}, Cov F p rs → ∀ r ∈ rs, IsB r ∧ r.length ≤ 10
  | [], _, _, r, h => by cases h
  | s :: rest, p, .cons k1 k2 k3 k4 k5 k6 t, r, h => (List.mem_cons.mp h).elim (fun e => by rw [e]; exact ⟨k1, k2⟩) (t.bits r)
end Wk

set_option Elab.async false
set_option linter.all false
set_option maxRecDepth 100000
set_option maxHeartbeats 4000000
namespace Wk
open PySem PySem.Spec PyProof.Rows L2 Evl
/-! [f(x, y) for x in a list for y in a tuple] -/
def Lw (D : Addr) (H : Hp) (acc : List V) (H' : Hp) : Prop := H D = none ∧ Ex H H' ∧ H' D = some (.lst acc)
theorem Lw.ext {D : Addr} {H H' H2 : Hp} {acc : List V} (h : Lw D H acc H') (e : Ex H' H2) : Lw D H acc H2 := ⟨h.1, h.2.1.trans e, e _ _ h.2.2⟩
theorem Lw.put {D : Addr} {H H' : Hp} {acc : List V} {u : V} (h : Lw D H acc H') : Lw D H (acc ++ [u]) (upd H' D (.lst (acc ++ [u]))) := ⟨h.1, Ex.mut h.2.1 h.1, upd_same⟩
theorem flat_take {xs ys : List V} {v : V → V → V} {i : Nat} {x : V} (h : xs[i]? = some x) : (xs.take (i + 1)).flatMap (fun x => ys.map (v x)) = (xs.take i).flatMap (fun x => ys.map (v x)) ++ ys.map (v x) := by
  rw [take_snoc h, List.flatMap_append]
  simp
theorem flat_len {xs ys : List V} {v : V → V → V} : (xs.flatMap fun x => ys.map (v x)).length = xs.length * ys.length := by
  induction xs with
  | nil => simp
  | cons x xs ih => rw [List.flatMap_cons, List.length_append, ih, List.length_map, List.length_cons, Nat.add_mul, Nat.one_mul, Nat.add_comm]
theorem el_lc2 {K : PySem.W.Frag} {a : Addr} {xs ys : List V} {tl tu te : TE} {i j : Nat} {vs vs1 : List Nat} {σ : L2.St} {H : Hp} (v : V → V → V) (h : Ev tl σ H (.ref a)) (hx : SqL K H a xs) (hz : xs.length * ys.length ≤ 40000)
    (hw : ∀ x, wipe ((wipe σ vs).set i (some x)) vs = wipe σ vs) (hw1 : ∀ x y, wipe ((wipe ((wipe σ vs).set i (some x)) vs1).set j (some y)) vs1 = wipe ((wipe σ vs).set i (some x)) vs1)
    (hu : ∀ x, EvS tu ((wipe σ vs).set i (some x)) H ys) (he : ∀ x y, x ∈ xs → y ∈ ys → Ev te ((wipe ((wipe σ vs).set i (some x)) vs1).set j (some y)) H (v x y)) :
    EvL (tLc2 (iList K tl) (gName i) tYes (iTup K tu) (gName j) tYes te vs vs1) σ H (xs.flatMap fun x => ys.map (v x)) := fun H0 e Q q => h H0 e _ fun H1 e1 => by
  have e01 := e.trans e1
  refine ⟨a, rfl, ⟨xs, ex_l e01 hx⟩, fun D hD => ?_⟩
  refine ⟨fun k m Hx => m = xs.length - k ∧ k ≤ xs.length ∧ Lw D H1 ((xs.take k).flatMap fun x => ys.map (v x)) Hx, ⟨xs.length, by simp, Nat.zero_le _, hD, Ex.new hD, upd_same⟩, ?_⟩
  rintro k m H2 ⟨rfl, hk, lw⟩
  have s2 : SqL K H2 a xs := ex_l lw.2.1 (ex_l e01 hx)
  by_cases lt : k < xs.length
  · refine .inr ⟨walk_list.goes k H2 lt s2, fun Hx => Lw D H1 ((xs.take (k + 1)).flatMap fun x => ys.map (v x)) Hx, fun Hx p => ⟨xs.length - (k + 1), by omega, rfl, lt, p⟩, fun x H3 hy => ?_⟩
    obtain ⟨rfl, hxk⟩ := walk_list.yields k H2 x H3 lt s2 hy
    have hxm : x ∈ xs := List.mem_of_getElem? hxk
    rw [flat_take hxk]
    have hpl : ((xs.take k).flatMap fun x => ys.map (v x)).length + ys.length ≤ 40000 := by
      rw [flat_len, List.length_take]
      have : (min k xs.length + 1) * ys.length ≤ xs.length * ys.length := Nat.mul_le_mul_right _ (by omega)
      rw [Nat.add_mul, Nat.one_mul] at this
      omega
    generalize ((xs.take k).flatMap fun x => ys.map (v x)) = pre at *
    refine ⟨hw _, et_yes H3 (Ex.refl _) _ fun H4 e4 => ?_⟩
    rw [if_pos rfl]
    have lw4 := lw.ext e4
    refine hu x H4 (e01.trans lw4.2.1) _ fun T H5 e5 hT => ?_
    have lw5 := lw4.ext e5
    have hne : T ≠ D := fun z => by rw [z, lw5.2.2] at hT; cases hT
    refine ⟨T, rfl, ⟨ys, st_of hT⟩, fun j' m' Hx => m' = ys.length - j' ∧ j' ≤ ys.length ∧ Lw D H1 (pre ++ (ys.take j').map (v x)) Hx ∧ Hx T = some (.tup ys), ⟨ys.length, by simp, Nat.zero_le _, by simpa using lw5, hT⟩, ?_⟩
    rintro j' m' H6 ⟨rfl, hj, lw6, hT6⟩
    by_cases ltj : j' < ys.length
    · refine .inr ⟨walk_tup.goes j' H6 ltj (st_of hT6), fun Hx => Lw D H1 (pre ++ (ys.take (j' + 1)).map (v x)) Hx ∧ Hx T = some (.tup ys), fun Hx p => ⟨ys.length - (j' + 1), by omega, rfl, ltj, p.1, p.2⟩, fun y H7 hyy => ?_⟩
      obtain ⟨rfl, hyk⟩ := walk_tup.yields j' H6 y H7 ltj (st_of hT6) hyy
      refine ⟨hw1 _ _, et_yes H7 (Ex.refl _) _ fun H8 e8 => ?_⟩
      rw [if_pos rfl]
      have lw8 := lw6.ext e8
      refine he x y hxm (List.mem_of_getElem? hyk) H8 (e01.trans lw8.2.1) _ fun H9 e9 => ?_
      have lw9 := lw8.ext e9
      refine ⟨_, lw9.2.2, ?_, ?_, ?_⟩
      · rw [List.length_append, List.length_map, List.length_take]
        exact sz_lt (by omega)
      · rw [take_snoc hyk, List.map_append, ← List.append_assoc]
        exact lw9.put
      · rw [upd_ne hne]
        exact e9 _ _ (e8 _ _ hT6)
    · have ej : j' = ys.length := by omega
      subst ej
      refine .inl ⟨walk_tup.stops H6 (st_of hT6), ?_⟩
      rw [List.take_of_length_le (Nat.le_refl _)] at lw6
      exact lw6
  · have ek : k = xs.length := by omega
    subst ek
    rw [List.take_of_length_le (Nat.le_refl _)] at lw
    exact .inl ⟨walk_list.stops H2 s2, q D H2 (fresh_back e1 hD) (e1.trans lw.2.1) lw.2.2⟩
theorem pi_tupK {X : Cx} {K : PySem.W.Frag} {tg l : Expr} {tl : TE} (hK : X.K = K) (hl : PE X l tl) : PI X tg l (iTup K tl) := by
  subst hK
  exact pi_tup hl
section
variable {P : Program} {w : World} {K : PySem.W.Frag} {mg : Str → Option Value} {base : Heap} {f : Addr} {fd : FuncData}
/-! addresses -/
def adV (n : Nat) : List V := (AD n).map fun l => V.str (T l)
theorem adV_len (n : Nat) : (adV n).length = 2 ^ n := by unfold adV; rw [List.length_map, AD_len]
theorem adV_succ (n : Nat) (v : V → V → V) (hv : ∀ l ∈ AD n, v (.str (T l)) (.str "0") = .str (T (l ++ [48])) ∧ v (.str (T l)) (.str "1") = .str (T (l ++ [49]))) : ((adV n).flatMap fun x => [V.str "0", V.str "1"].map (v x)) = adV (n + 1) := by
  have e : adV (n + 1) = (AD n).flatMap fun r => [V.str (T (r ++ [48])), V.str (T (r ++ [49]))] := by
    unfold adV
    show ((AD n).flatMap fun r => [r ++ [48], r ++ [49]]).map _ = _
    rw [List.map_flatMap]
    rfl
  rw [e]
  unfold adV
  rw [List.flatMap_map]
  clear e
  generalize AD n = A at *
  induction A with
  | nil => rfl
  | cons l A ih =>
    rw [List.flatMap_cons, List.flatMap_cons, ih fun x hx => hv x (List.mem_cons_of_mem _ hx)]
    obtain ⟨h1, h2⟩ := hv l List.mem_cons_self
    congr 1
    show [v _ _, v _ _] = _
    rw [h1, h2]
def spAds : Sp := fun vs H Q _ => vs = [] ∧ ∀ H' D, H D = none → Ex H H' → H' D = some (.lst (adV 10)) → Q (.ref D) H'
abbrev sAds : Stmt := top 20
abbrev nAds : List Str := ["rows", "_", "row", "sign"]
theorem scAds : FnScope nAds [] (defScope sAds) := ⟨rfl, rfl, rfl, by decide +kernel, rfl, by decide +kernel, by decide +kernel⟩
def addV : V → V → V
  | .str a, .str b => .str (a ++ b)
  | _, _ => .non
theorem AD_lenOf {n : Nat} {l : List Nat} (h : l ∈ AD n) : l.length = n := by
  rw [AD_eq] at h
  obtain ⟨i, _, rfl⟩ := List.mem_map.mp h
  exact bN_len n i
theorem ok_ads (B : Bl mg) {t1 : Tok} (hM : mg "ADDRESS_LENGTH" = some (.int 10 t1)) (F : FnP K "addresses" sAds f fd) : FnOk P w K mg base CX0 1 f fd [] spAds := by
  refine F.ok scAds (fun vs H Q E h => ?_) (fun cdv A outer s H vs Q E hr h => ?_)
  · obtain ⟨rfl, _⟩ := h
    rfl
  · obtain ⟨rfl, k⟩ := h
    refine ⟨_, pss_cons (ps_set (i := 0) scAds.nd rfl (Or.inl rfl) (pe_lst (pa_cons pe_str pa_nil)))
      (pss_cons (ps_for (passes_of rfl) rfl (pi_range1 (by rfl) B.range (pa_cons (pe_glob (v := .int 10) (by rfl) hM ⟨_, rfl⟩) pa_nil)) (pg_name (i := 1) scAds.nd rfl (.inl rfl))
        (pss_one (ps_setLc2 (i := 0) (own := [("row", 2), ("sign", 3)]) (vs1 := [3]) (g := gName 2) (g1 := gName 3) (tt := tYes) (tt1 := tYes) rfl scAds.nd rfl rfl (sw_true rfl rfl rfl (by decide +kernel)) (pi_list (pv 0)) (blkOk_by (N := nAds) (sc := defScope sAds) (by decide +kernel)) (by decide)
          (fun _ _ _ _ _ => pg_name (i := 2) scAds.nd rfl (Or.inl rfl)) (fun _ _ _ _ _ => pts_nil)
          (fun _ _ _ _ _ => pi_tupK (K := K) rfl (pe_tup (pa_cons pe_str (pa_cons pe_str pa_nil))))
          (fun _ _ _ _ _ => pg_name (i := 3) scAds.nd rfl (Or.inl rfl)) (fun _ _ _ _ _ => pts_nil) (fun _ _ _ _ _ => pe_op op_add_str (pv 2) (pv 3)))))
      (pss_one (ps_ret (pv 0)))), ?_⟩
    refine q_asgL (xs := [V.str ""]) (el_lst (ea_cons ev_c ea_nil) (by decide)) fun D0 H0 hD0 e0 h0 => ?_
    refine q_forR1 (n := 10) (ea_cons ev_c ea_nil) (by omega) (fun i σ' H' => ∃ (D : Addr) (o1 : Option V), σ' = [some (.ref D), o1, none, none] ∧ Ex H H' ∧ H D = none ∧ H' D = some (.lst (adV i))) (fun H1 e1 => ⟨D0, none, rfl, e0.trans e1, hD0, e1 _ _ (by rw [h0]; show some (HO.lst [V.str (Str.ofString "")]) = _; rw [t_empty]; rfl)⟩) (fun i σ' H' hi hp => ?_) (fun σ' H' hp => ?_)
    · obtain ⟨D, o1, rfl, e1, hD, h1⟩ := hp
      have hi2 : i < 10 := by omega
      have hp2 : (2 : Nat) ^ i ≤ 512 := Nat.pow_le_pow_right (by decide) (show i ≤ 9 by omega)
      have lit : (Str.ofString "0" = T [48]) ∧ (Str.ofString "1" = T [49]) := by decide +kernel
      change tAsg _ _ _ [some (.ref D), some (.int (i : Int)), none, none] H'
      have z := el_lc2 (K := K) (a := D) (xs := adV i) (ys := [V.str "0", V.str "1"]) (tl := tVar 0) (tu := tTup (tCons (tC (.str "0")) (tCons (tC (.str "1")) tNil))) (te := tOp rAddS (tVar 2) (tVar 3)) (i := 2) (j := 3) (vs := [2, 3]) (vs1 := [3]) (σ := [some (.ref D), some (.int (i : Int)), none, none]) (H := H') addV (ev_var rfl) (sq_of h1) (by rw [adV_len]; show _ * 2 ≤ _; omega) (fun x => rfl) (fun x y => rfl)
        (fun x => es_tup (ea_cons ev_c (ea_cons ev_c ea_nil)) (by decide)) (fun x y hx hy => by
          unfold adV at hx
          obtain ⟨l, hl, rfl⟩ := List.mem_map.mp hx
          have hll := AD_lenOf hl
          have hy2 : ∃ c, y = .str (T [c]) := by
            rcases List.mem_cons.mp hy with e | e
            · exact ⟨48, by rw [e]; exact congrArg V.str lit.1⟩
            · exact ⟨49, by rw [List.mem_singleton.mp e]; exact congrArg V.str lit.2⟩
          obtain ⟨c, rfl⟩ := hy2
          show Ev _ _ _ (V.str (T l ++ T [c]))
          rw [T_cat]
          exact ev_addS (ev_var rfl) (ev_var rfl) (by simp; omega))
      rw [adV_succ i addV (fun l hl => ⟨by show V.str (T l ++ Str.ofString "0") = _; rw [lit.1, T_cat], by show V.str (T l ++ Str.ofString "1") = _; rw [lit.2, T_cat]⟩)] at z
      exact s_asgL z fun D2 H2 hD2 e2 h2 => ⟨D2, _, rfl, e1.trans e2, fresh_back e1 hD2, h2⟩
    · obtain ⟨D, o1, rfl, e1, hD, h1⟩ := hp
      exact s_ret (v := .ref D) (ev_var rfl) fun H2 e2 => k H2 D hD (e1.trans e2) (e2 _ _ h1)
end
end Wk

set_option Elab.async false
set_option linter.all false
set_option maxRecDepth 100000
set_option maxHeartbeats 4000000
namespace Wk
open PySem PySem.Spec PyProof.Rows L2 Evl
/-! how often something is in a list of data -/
def rCntD (K : PySem.W.Frag) : V → List V → Hp → VK → Prop := fun x xs H Q => ∃ (l : Addr) (vs : List V) (ds : List PyData) (v : V) (d : PyData), x = .ref l ∧ xs = [v] ∧ H l = some (.lst vs) ∧ DpAll K H vs ds ∧ Dp K H v d ∧ PyData.plainAll ds = true ∧ d.plain = true ∧ d.depth ≤ 60 ∧ Q (.int ((ds.countP fun y => PyData.eqv y d : Nat) : Int)) H
theorem mt_countD {X : Cx} {K : PySem.W.Frag} (hK : X.K = K) (hu : X.A.units + 64 < cLine) : MtR X "list.count" (rCntD K) := by
  subst hK
  intro pins s σ H x xs v us Q I rx rxs h
  obtain ⟨l, vs, ds, v', d, rfl, rfl, hH, hds, hd, hp1, hp2, hdep, q⟩ := h
  cases rx
  obtain ⟨u, rfl, ru⟩ := rxs.one
  obtain ⟨z, its, n, r, hl, e⟩ := I.lstM hH
  obtain ⟨as, q1⟩ := Dp.readsAll I ds _ _ hds r
  obtain ⟨bs, q2⟩ := Dp.reads I d _ _ hd ru
  refine SeqAt.count_list_data (vs := its.toArray) ⟨_, e, rfl, n, rfl⟩ q1 q2 hp1 hp2 (by have := Nat.min_le_right (PyData.depthAll ds) d.depth; omega) ?_
  exact ⟨.int _, H, I.tok _, ⟨s.toks, rfl⟩, q⟩
theorem ret_one {te : TE} {D : Ends} {σ : L2.St} {H : Hp} (h : te σ H fun x H1 => 1 ≤ sizeLine ∧ ∀ b, H1 b = none → D.rt (.ref b) (upd H1 b (.lst [x]))) : tRet (tLst (tCons te tNil)) D σ H := h
/-! values that tell worths -/
structure Wth (K : PySem.W.Frag) (α : Type) [DecidableEq α] where
  R : Hp → V → α → Prop
  dat : α → PyData
  mono : ∀ {H H' : Hp} {v : V} {a : α}, Ex H H' → R H v a → R H' v a
  dp : ∀ {H : Hp} {v : V} {a : α}, R H v a → Dp K H v (dat a)
  pl : ∀ a, (dat a).plain = true
  dep : ∀ a, (dat a).depth ≤ 60
  eqv : ∀ a b, PyData.eqv (dat a) (dat b) = decide (a = b)
inductive RA {α : Type} (R : V → α → Prop) : List V → List α → Prop
  | nil : RA R [] []
  | cons {v : V} {vs : List V} {a : α} {as : List α} : R v a → RA R vs as → RA R (v :: vs) (a :: as)
section
variable {α : Type} {R R' : V → α → Prop}
theorem RA.mono (h : ∀ v a, R v a → R' v a) : ∀ {vs : List V} {as : List α}, RA R vs as → RA R' vs as
  | _, _, .nil => .nil
  | _, _, .cons a t => .cons (h _ _ a) (t.mono h)
theorem RA.length : ∀ {vs : List V} {as : List α}, RA R vs as → vs.length = as.length
  | _, _, .nil => rfl
  | _, _, .cons a t => by simp [t.length]
theorem RA.take : ∀ {vs : List V} {as : List α} (n : Nat), RA R vs as → RA R (vs.take n) (as.take n)
  | _, _, 0, _ => by rw [List.take_zero, List.take_zero]; exact .nil
  | _, _, n + 1, .nil => .nil
  | _, _, n + 1, .cons a t => .cons a (t.take n)
theorem RA.drop : ∀ {vs : List V} {as : List α} (n : Nat), RA R vs as → RA R (vs.drop n) (as.drop n)
  | _, _, 0, h => h
  | _, _, n + 1, .nil => .nil
  | _, _, n + 1, .cons a t => t.drop n
theorem RA.app : ∀ {vs us : List V} {as bs : List α}, RA R vs as → RA R us bs → RA R (vs ++ us) (as ++ bs)
  | _, _, _, _, .nil, k => k
  | _, _, _, _, .cons a t, k => .cons a (t.app k)
theorem RA.at_ : ∀ {vs : List V} {as : List α} {i : Nat} {v : V}, RA R vs as → vs[i]? = some v → ∃ a, as[i]? = some a ∧ R v a
  | _, _, i, v, .nil, h => by cases h
  | _, _, 0, v, .cons (a := a) ha t, h => ⟨a, rfl, by rw [← Option.some.inj h]; exact ha⟩
  | _, _, i + 1, v, .cons ha t, h => t.at_ (show _ = some v from h)
end
section
variable {K : PySem.W.Frag} {α : Type} [DecidableEq α]
theorem Wth.dpAll (W : Wth K α) {H : Hp} : ∀ {us : List V} {as : List α}, RA (W.R H) us as → DpAll K H us (as.map W.dat)
  | _, _, .nil => .nil
  | _, _, .cons h t => .cons (W.dp h) (W.dpAll t)
theorem Wth.plAll (W : Wth K α) : ∀ as : List α, PyData.plainAll (as.map W.dat) = true
  | [] => rfl
  | a :: as => by
    show (_ && _) = true
    rw [W.pl a, W.plAll as]
    rfl
theorem Wth.cnt (W : Wth K α) (a : α) (t : List α) : decide (V.int ((((a :: t).map W.dat).countP fun y => PyData.eqv y (W.dat a) : Nat) : Int) = V.int (((a :: t).length : Nat) : Int)) = oneB (a :: t) := by
  have e : (((a :: t).map W.dat).countP fun y => PyData.eqv y (W.dat a)) = (a :: t).countP fun x => decide (x = a) := by
    rw [List.countP_map]
    congr 1
    funext x
    exact W.eqv x a
  rw [e]
  have e2 : (V.int (((a :: t).countP fun x => decide (x = a) : Nat) : Int) = V.int (((a :: t).length : Nat) : Int)) ↔ t.all (fun x => decide (x = a)) = true := by
    constructor
    · intro z
      injection z with z
      have z : (a :: t).countP (fun x => decide (x = a)) = (a :: t).length := by omega
      have := List.countP_eq_length.mp z
      rw [List.all_eq_true]
      exact fun x hx => this x (List.mem_cons_of_mem _ hx)
    · intro z
      rw [List.all_eq_true] at z
      have : (a :: t).countP (fun x => decide (x = a)) = (a :: t).length := List.countP_eq_length.mpr fun x hx => by
        rcases List.mem_cons.mp hx with y | y
        · rw [y]; exact decide_eq_true rfl
        · exact z x y
      rw [this]
  show _ = t.all (fun x => decide (x = a))
  cases h : t.all (fun x => decide (x = a)) with
  | true => exact decide_eq_true (e2.mpr h)
  | false => exact decide_eq_false fun z => by rw [e2.mp z] at h; cases h
/-- what merged gives: new pairs -/
def MR1 (W : Wth K α) (H : Hp) (u : V) (p : List Nat × α) : Prop := ∃ t v, u = .ref t ∧ H t = some (.tup [.str (T p.1), v]) ∧ W.R H v p.2
theorem MR1.mono {W : Wth K α} {H H' : Hp} {u : V} {p : List Nat × α} (e : Ex H H') (h : MR1 W H u p) : MR1 W H' u p := by
  obtain ⟨t, v, h1, h2, h3⟩ := h
  exact ⟨t, v, h1, e _ _ h2, W.mono e h3⟩
def spM (W : Wth K α) (n : Nat) : Sp := fun vs H Q _ => ∃ (l : Addr) (us : List V) (as : List α) (a : List Nat), vs = [.ref l, .str (T a)] ∧ H l = some (.lst us) ∧ RA (W.R H) us as ∧ as.length = 2 ^ n ∧ a.length + n ≤ 10 ∧
  ∀ H' D rs, H D = none → Ex H H' → H' D = some (.lst rs) → RA (MR1 W H') rs (mrg n as a) → Q (.ref D) H'
def spMx (W : Wth K α) : Nat → Sp
  | 0 => fun _ _ _ _ => False
  | n + 1 => spM W n
end
section
variable {P : Program} {w : World} {K : PySem.W.Frag} {mg : Str → Option Value} {base : Heap} {f : Addr} {fd : FuncData} {α : Type} [DecidableEq α]
abbrev sMg : Stmt := top 23
abbrev nMg : List Str := ["worths", "ahead", "half"]
abbrev FnMg (K : PySem.W.Frag) (f : Addr) (fd : FuncData) : Prop := FunD K "merged" "merged" (defArgs sMg) (defBody sMg) (defScope sMg) [V.str ""] [] f fd
theorem scMg : FnScope nMg ["worths", "ahead"] (defScope sMg) := ⟨rfl, rfl, rfl, by decide +kernel, rfl, by decide +kernel, by decide +kernel⟩
theorem mg_step {W : Wth K α} {n : Nat} (B : Bl mg) (C : Cal P w K mg base "merged" ["worths", "ahead"] (n + 1) (spMx W n)) (F : FnMg K f fd) : FnOk P w K mg base CX0 (n + 2) f fd ["worths", "ahead"] (spM W n) := by
  refine F.ok scMg (fun vs H Q E h => ?_) (fun cdv A outer s H vs Q E hr h => ?_)
  · obtain ⟨l, us, as, a, rfl, _⟩ := h
    rfl
  · obtain ⟨l, us, as, a, rfl, hl, hus, hlen, han, k⟩ := h
    refine ⟨_, pss_cons (ps_if (pt_cmpR op_eq (pe_bm PySem.F.plainAttrs_list PySem.F.slot_list_count PySem.F.type_list_count (mt_countD (K := K) rfl hr.units) (pv 0) (pa_cons (pe_ix (ix_listK (K := K) rfl) (pv 0) pe_int (fun _ _ => rfl)) pa_nil)) (pe_callB call_len_seq (by rfl) B.len PySem.boot_len (pa_cons (pv 0) pa_nil)) (nomark _))
        (pss_one (ps_ret (pe_lst (pa_cons (pe_tup (pa_cons (pv 1) (pa_cons (pe_ix (ix_listK (K := K) rfl) (pv 0) pe_int (fun _ _ => rfl)) pa_nil))) pa_nil)))) pss_nil)
      (pss_cons (ps_set (i := 2) scMg.nd rfl (Or.inl rfl) (pe_op op_fdiv (pe_callB call_len_seq (by rfl) B.len PySem.boot_len (pa_cons (pv 0) pa_nil)) pe_int))
      (pss_one (ps_ret (pe_op op_cat (pe_cal C hr (by rfl) (pa_cons (pe_slice sl_list (pv 0) po_none (po_some (pv 2))) (pa_cons (pe_op op_add_str (pv 1) pe_str) pa_nil)) (Nat.le_refl _)) (pe_cal C hr (by rfl) (pa_cons (pe_slice sl_list (pv 0) (po_some (pv 2)) po_none) (pa_cons (pe_op op_add_str (pv 1) pe_str) pa_nil)) (Nat.le_refl _)))))), ?_⟩
    have hp : 0 < 2 ^ n := Nat.pow_pos (by decide)
    have hp10 : (2 : Nat) ^ n ≤ 1024 := Nat.pow_le_pow_right (by decide) (show n ≤ 10 by omega)
    have hul := hus.length
    have lit : (Str.ofString "0" = T [48]) ∧ (Str.ofString "1" = T [49]) := by decide +kernel
    obtain ⟨a0, t, rfl⟩ : ∃ a0 t, as = a0 :: t := by
      cases as with
      | nil => simp at hlen; omega
      | cons a0 t => exact ⟨a0, t, rfl⟩
    obtain ⟨u0, us', rfl⟩ : ∃ u0 us', us = u0 :: us' := by
      cases us with
      | nil => simp at hul
      | cons u0 us' => exact ⟨u0, us', rfl⟩
    have hu0 : W.R H u0 a0 := by cases hus with | cons h t => exact h
    have v0 : ∀ {H1 : Hp}, Ev (tVar 0) (start nMg [V.ref l, .str (T a)]) H1 (.ref l) := ev_var rfl
    have i0 : ∀ {H1 : Hp}, Ex H H1 → Ev (tOp (rIxL K) (tVar 0) (tC (.int 0))) (start nMg [V.ref l, .str (T a)]) H1 u0 := fun {H1} e => ev_op (ev_var rfl) ev_c (rv_ixL (sq_of (e _ _ hl)) (atI_nat (j := 0) rfl))
    have c1 : Ev (tBM K "list" (rCntD K) (tVar 0) (tCons (tOp (rIxL K) (tVar 0) (tC (.int 0))) tNil)) (start nMg [V.ref l, .str (T a)]) H (.int ((((a0 :: t).map W.dat).countP fun y => PyData.eqv y (W.dat a0) : Nat) : Int)) := fun H1 e Q1 q1 =>
      ⟨.ref l, rfl, .inl ⟨rfl, _, sq_of (e _ _ hl)⟩, ea_cons (i0 e) ea_nil H1 (Ex.refl _) _ fun H2 e2 => ⟨l, _, (a0 :: t).map W.dat, u0, W.dat a0, rfl, rfl, e2 _ _ (e _ _ hl), W.dpAll (hus.mono fun v x h => W.mono (e.trans e2) h), W.dp (W.mono (e.trans e2) hu0), W.plAll _, W.pl _, W.dep _, q1 H2 e2⟩⟩
    have c2 : Ev (tCB (rLenS K) (tCons (tVar 0) tNil)) (start nMg [V.ref l, .str (T a)]) H (.int (((a0 :: t).length : Nat) : Int)) := by
      rw [← hul]
      exact ev_len v0 (sq_of hl)
    refine q_when (b := oneB (a0 :: t)) (by rw [← W.cnt a0 t]; exact et_test (ev_op (r := rEq) c1 c2 (rv_eq rfl))) (fun hb H1 e1 => ?_) fun hb H1 e1 => ?_
    · have em : mrg n (a0 :: t) a = [(a, a0)] := by
        cases n with
        | zero => rfl
        | succ n => show (if _ then _ else _) = _; rw [if_pos hb]
      rw [em] at k
      have z : EvS (tTup (tCons (tVar 1) (tCons (tOp (rIxL K) (tVar 0) (tC (.int 0))) tNil))) (start nMg [V.ref l, .str (T a)]) H1 [.str (T a), u0] := es_tup (ea_cons (ev_var rfl) (ea_cons (i0 e1) ea_nil)) (by show 2 ≤ 100000; decide)
      refine ret_one (z H1 (Ex.refl _) _ fun p H2 e2 hp => ⟨by decide, fun D hD => ?_⟩)
      refine k _ D _ (fresh_back (e1.trans e2) hD) ((e1.trans e2).trans (Ex.new hD)) upd_same (.cons ⟨p, u0, rfl, Ex.new hD _ _ hp, W.mono ((e1.trans e2).trans (Ex.new hD)) hu0⟩ .nil)
    · obtain ⟨m, rfl⟩ : ∃ m, n = m + 1 := by
        cases n with
        | zero =>
          exfalso
          have : t = [] := by
            cases t with
            | nil => rfl
            | cons x t => simp at hlen
          subst this
          cases hb
        | succ m => exact ⟨m, rfl⟩
      have em : mrg (m + 1) (a0 :: t) a = mrg m ((a0 :: t).take (2 ^ m)) (a ++ [48]) ++ mrg m ((a0 :: t).drop (2 ^ m)) (a ++ [49]) := by
        show (if _ then _ else _) = _
        rw [if_neg (by rw [hb]; decide)]
      rw [em] at k
      have hm2 : 2 ^ (m + 1) = 2 * 2 ^ m := by rw [Nat.pow_succ, Nat.mul_comm]
      have hhalf : (((u0 :: us').length : Nat) : Int) / 2 = ((2 ^ m : Nat) : Int) := by rw [hul, hlen, hm2]; omega
      refine q_asg (v := .int ((2 ^ m : Nat) : Int)) ?_ fun H2 e2 => ?_
      · have z := ev_op (r := rI CDiv fun i j => .int (i / j)) (ev_len (K := K) (σ := start nMg [V.ref l, .str (T a)]) (H := H1) (ta := tVar 0) (ev_var rfl) (sq_of (e1 _ _ hl))) (ev_c (v := .int 2)) (rv_I ⟨by decide, by decide⟩)
        rw [hhalf] at z
        exact z
      have e02 := e1.trans e2
      change tRet _ _ [some (.ref l), some (.str (T a)), some (.int ((2 ^ m : Nat) : Int))] H2
      generalize hL : (a0 :: t) = as at *
      generalize hU : (u0 :: us') = us at *
      have sl1 := el_sl (K := K) (te := tVar 0) (tl := tNoPart) (th := tPart (tVar 2)) (σ := [some (.ref l), some (.str (T a)), some (.int ((2 ^ m : Nat) : Int))]) (H := H2) (ev_var rfl) eo_none (eo_some (ev_var rfl)) (sq_of (e02 _ _ hl))
      rw [cut_to _ _ (by omega)] at sl1
      refine sl1 H2 (Ex.refl _) _ fun p3 H3 n3 e3 h3 => ?_
      refine ev_addS (b := [48]) (ev_var rfl) (ev_is ev_c (congrArg V.str lit.1)) (by simp; omega) H3 (Ex.refl _) _ fun H4 e4 => ?_
      have e04 := (e02.trans e3).trans e4
      refine ⟨p3, _, as.take (2 ^ m), a ++ [48], rfl, e4 _ _ h3, (hus.take _).mono fun v x h => W.mono e04 h, by rw [List.length_take]; omega, by simp; omega, fun H5 D5 rs5 n5 e5 h5 r5 => ?_⟩
      have e05 := e04.trans e5
      have sl2 := el_sl (K := K) (te := tVar 0) (tl := tPart (tVar 2)) (th := tNoPart) (σ := [some (.ref l), some (.str (T a)), some (.int ((2 ^ m : Nat) : Int))]) (H := H5) (ev_var rfl) (eo_some (ev_var rfl)) eo_none (sq_of (e05 _ _ hl))
      rw [cut_from _ _ (by omega)] at sl2
      refine sl2 H5 (Ex.refl _) _ fun p6 H6 n6 e6 h6 => ?_
      refine ev_addS (b := [49]) (ev_var rfl) (ev_is ev_c (congrArg V.str lit.2)) (by simp; omega) H6 (Ex.refl _) _ fun H7 e7 => ?_
      have e57 := e6.trans e7
      have e07 := e05.trans e57
      refine ⟨p6, _, as.drop (2 ^ m), a ++ [49], rfl, e7 _ _ h6, (hus.drop _).mono fun v x h => W.mono e07 h, by rw [List.length_drop]; omega, by simp; omega, fun H8 D8 rs8 n8 e8 h8 r8 => ?_⟩
      have l5 := r5.length
      have l8 := r8.length
      have m5 := mrg_len m (as.take (2 ^ m)) (a ++ [48])
      have m8 := mrg_len m (as.drop (2 ^ m)) (a ++ [49])
      have e58 := e57.trans e8
      refine ⟨D5, D8, rs5, rs8, rfl, rfl, e58 _ _ h5, h8, sz_of (by omega), fun D hD => ?_⟩
      have e08 := e07.trans e8
      exact k _ D _ (fresh_back e08 hD) (e08.trans (Ex.new hD)) upd_same (((r5.mono fun v x h => h.mono e58).app r8).mono fun v x h => h.mono (Ex.new hD))
theorem ok_mg {W : Wth K α} (B : Bl mg) (hg : mg "merged" = some (.ref f)) (hk : PySem.W.keepIn K (.ref f) = true) (hb : Binds K fd ["worths", "ahead"] []) (F : FnMg K f fd) : ∀ n, Cal P w K mg base "merged" ["worths", "ahead"] (n + 1) (spMx W n)
  | 0 => ⟨f, fd, F.ok scMg (fun vs H Q E h => h.elim) (fun cdv A outer s H vs Q E hr h => h.elim), hg, hk, hb⟩
  | n + 1 => ⟨f, fd, mg_step B (ok_mg B hg hk hb F n) F, hg, hk, hb⟩
end
end Wk

set_option Elab.async false
set_option linter.all false
set_option maxRecDepth 100000
set_option maxHeartbeats 4000000
namespace Wk
open PySem PySem.Spec PyProof.Rows L2 Evl
/-! texts in a row -/
def txV (rs : List (List Nat)) : List V := rs.map fun l => .str (T l)
theorem tx_at {rs : List (List Nat)} {i : Nat} {v : V} (h : (txV rs)[i]? = some v) : ∃ l, rs[i]? = some l ∧ v = .str (T l) := by
  unfold txV at h
  rw [List.getElem?_map] at h
  cases e : rs[i]? with
  | none => rw [e] at h; cases h
  | some l => rw [e] at h; exact ⟨l, rfl, (Option.some.inj h).symm⟩
/-- a dict knows just the texts ls -/
def Knows (kvs : List (L2.Key × V)) (ls : List (List Nat)) : Prop := ∀ l, (valV kvs (.inr (T l))).isSome = decide (l ∈ ls)
theorem Knows.put {kvs : List (L2.Key × V)} {ls : List (List Nat)} (h : Knows kvs ls) (l : List Nat) (v : V) : Knows (putK kvs (.inr (T l)) v) (ls ++ [l]) := fun m => by
  rw [valV_put]
  by_cases z : (.inr (T m) : L2.Key) = .inr (T l)
  · have z2 : m = l := T_inj (by injection z)
    rw [if_pos z, z2]
    simp
  · rw [if_neg z, h]
    have z2 : m ≠ l := fun y => z (by rw [y])
    simp [z2]
/-- {x: v for x in texts} -/
theorem dc_txt {J : It} {rs : List (List Nat)} {Gd : Hp → Prop} {j : Nat} {vs : List Nat} {σ : L2.St} {H : Hp} {D : Addr} {Qd : Hp → Prop} {tv : TE} {c : V} (w : Walk J (txV rs).length Gd (fun i H x H' => H' = H ∧ (txV rs)[i]? = some x)) (hD : H D = none) (hn : rs.length ≤ 1100)
    (hG : ∀ H', Ex H H' → Gd H') (hw : ∀ x, wipe ((wipe σ vs).set j (some x)) vs = wipe σ vs) (h1 : ∀ x, ((wipe σ vs).set j (some x))[j]? = some (some x)) (hv : ∀ x H', Ev tv ((wipe σ vs).set j (some x)) H' c)
    (hq : ∀ H' kvs, Ex H H' → H' D = some (.dK kvs) → Knows kvs rs → Qd H') :
    ∃ W : Nat → Nat → Hp → Prop, (∃ m, W 0 m (upd H D (.dK []))) ∧ ∀ i m H, W i m H →
      (J.stop i H ∧ Qd H) ∨ (J.go i H ∧ ∃ Nx : Hp → Prop, (∀ H', Nx H' → ∃ m', m' < m ∧ W (i + 1) m' H') ∧ ∀ x H', J.yld i H x H' → gName j x (wipe σ vs) H' fun σ2 H2 => wipe σ2 vs = wipe σ vs ∧ tYes σ2 H2 fun b H3 =>
        if b = true then tVar j σ2 H3 fun y H4 => tv σ2 H4 fun z H5 => ∃ kvs k, y = kV k ∧ H5 D = some (.dK kvs) ∧ kvs.length < sizeLine ∧ Nx (upd H5 D (.dK (putK kvs k z))) else Nx H3) := by
  have hl : (txV rs).length = rs.length := by unfold txV; rw [List.length_map]
  let Pv : Nat → Hp → Prop := fun i H' => Ex H H' ∧ ∃ kvs, H' D = some (.dK kvs) ∧ kvs.length ≤ i ∧ Knows kvs (rs.take i)
  refine ⟨fun i m H' => m = rs.length - i ∧ i ≤ rs.length ∧ Pv i H', ⟨rs.length, by simp, Nat.zero_le _, Ex.new hD, [], upd_same, Nat.le_refl _, fun l => by rw [List.take_zero]; rfl⟩, ?_⟩
  rintro i m H1 ⟨rfl, hi, p⟩
  by_cases lt : i < rs.length
  · refine .inr ⟨w.goes i H1 (by omega) (hG H1 p.1), Pv (i + 1), fun H' p => ⟨rs.length - (i + 1), by omega, rfl, lt, p⟩, fun x H' y => ?_⟩
    obtain ⟨rfl, hx⟩ := w.yields i H1 x H' (by omega) (hG H1 p.1) y
    obtain ⟨l, hl2, rfl⟩ := tx_at hx
    refine ⟨hw _, et_yes H' (Ex.refl _) _ fun H3 e3 => ?_⟩
    rw [if_pos rfl]
    refine ⟨_, h1 _, hv _ H3 H3 (Ex.refl _) _ fun H4 e4 => ?_⟩
    obtain ⟨e1, kvs, d1, dl, dk⟩ := p
    refine ⟨kvs, .inr (T l), rfl, e4 _ _ (e3 _ _ d1), sz_lt (by omega), Ex.mut ((e1.trans e3).trans e4) hD, _, upd_same, by have := length_putK kvs (.inr (T l)) c; omega, ?_⟩
    rw [take_snoc hl2]
    exact dk.put l c
  · have ei : i = rs.length := by omega
    subst ei
    obtain ⟨e1, kvs, d1, dl, dk⟩ := p
    rw [List.take_of_length_le (Nat.le_refl _)] at dk
    have ws := w.stops H1 (hG H1 e1)
    rw [hl] at ws
    exact .inl ⟨ws, hq H1 kvs e1 d1 dk⟩
/-! which addresses have one of the texts among their beginnings -/
def hasB (rs : List (List Nat)) (l : List Nat) : Bool := (List.range 11).any fun i => decide (l.take (10 - i) ∈ rs)
theorem hasB_cov {rs : List (List Nat)} {i : Nat} (hr : ∀ r ∈ rs, IsB r ∧ r.length ≤ 10) (hi : i < 1024) : hasB rs (bN 10 i) = covB rs i := by
  have : hasB rs (bN 10 i) = true ↔ covB rs i = true := by
    rw [covB_iff]
    unfold hasB
    rw [List.any_eq_true]
    constructor
    · rintro ⟨k, hk, h⟩
      have hm := of_decide_eq_true h
      obtain ⟨h1, h2⟩ := hr _ hm
      refine ⟨_, hm, (take_iff h1 h2 hi).mp ?_⟩
      rw [List.length_take, bN_len]
      congr 1
      omega
    · rintro ⟨r, hm, h⟩
      obtain ⟨h1, h2⟩ := hr r hm
      refine ⟨10 - r.length, List.mem_range.mpr (by omega), decide_eq_true ?_⟩
      rw [show 10 - (10 - r.length) = r.length by omega, (take_iff h1 h2 hi).mpr h]
      exact hm
  cases h1 : hasB rs (bN 10 i) <;> cases h2 : covB rs i <;> simp_all
section
variable {P : Program} {w : World} {K : PySem.W.Frag} {mg : Str → Option Value} {base : Heap} {f : Addr} {fd : FuncData}
theorem pe_ads {X : Cx} {x : Str} {p pos : Pos} {k j : Nat} {sp : Sp} (C : Cal X.prog X.w X.K X.mg X.base x [] k sp) (hr : Room j X.A) (hg : Gl X x) (hk : k ≤ j := by decide) (hdb : (x == ("__debug__" : Str)) = false := by decide) : PE X (.Call (.Name x p) [] [] pos) (tCall sp [] E0 tNil) := by
  obtain ⟨f, fd, F, g, kp, b⟩ := C.ex
  exact pe_call0 F (hr.mono hk) hg g kp b .nil pass0 hdb
theorem pi_listK {X : Cx} {K : PySem.W.Frag} {tg l : Expr} {tl : TE} (hK : X.K = K) (hl : PE X l tl) : PI X tg l (iList K tl) := by
  subst hK
  exact pi_list hl
theorem cr_anyK {X : Cx} {K : PySem.W.Frag} (hK : X.K = K) (hc : X.calm = true) : CallR X (.builtin "any") (rAny K) := by
  subst hK
  exact cr_any hc
/-! covered -/
def cvV (rs : List (List Nat)) : List V := (List.range 1024).map fun i => V.bl (covB rs i)
def spCov : Sp := fun vs H Q _ => ∃ (a : Addr) (rs : List (List Nat)), vs = [.ref a] ∧ RowA H a (txV rs) ∧ rs.length ≤ 1100 ∧ (∀ r ∈ rs, IsB r ∧ r.length ≤ 10) ∧ ∀ H' D, H D = none → Ex H H' → H' D = some (.lst (cvV rs)) → Q (.ref D) H'
abbrev sCov : Stmt := top 22
abbrev nCov : List Str := ["ranges", "there", "part", "address"]
theorem scCov : FnScope nCov ["ranges"] (defScope sCov) := ⟨rfl, rfl, rfl, by decide +kernel, rfl, by decide +kernel, by decide +kernel⟩
theorem ok_cov (B : Bl mg) (hany : mg "any" = none) (CB : Cal P w K mg base "beginnings" ["address"] 1 spBeg) (CA : Cal P w K mg base "addresses" [] 1 spAds) (F : FnP K "covered" sCov f fd) : FnOk P w K mg base CX0 2 f fd ["ranges"] spCov := by
  refine F.ok scCov (fun vs H Q E h => ?_) (fun cdv A outer s H vs Q E hr h => ?_)
  · obtain ⟨a, rs, rfl, _⟩ := h
    rfl
  · obtain ⟨a, rs, rfl, ha, hn, hrs, k⟩ := h
    have hu : (A.deeper (envOfC "covered" (defScope sCov) s.heap.objs.size f cdv)).units + 1 < cLine := by have := hr.un; omega
    refine ⟨_, pss_cons (ps_set (i := 1) scCov.nd rfl (Or.inr rfl) (pe_dc (own := [("part", 2)]) (g := gName 2) (tt := tYes) (tk := tVar 2) (tv := tC (.bl true)) rfl scCov.nd (pi_rowK (K := K) rfl (pv 0)) (blkOk_by (N := nCov) (sc := defScope sCov) (by decide +kernel))
          (fun _ _ _ _ _ => pg_name (i := 2) scCov.nd rfl (.inl rfl)) (fun _ _ _ _ _ => pts_nil) (fun _ _ _ _ _ => pv 2) (fun _ _ _ _ _ => pe_bl)))
      (pss_one (ps_ret (pe_lc (own := [("address", 3)]) (g := gName 3) (tt := tYes) rfl scCov.nd (pi_listK (K := K) rfl (pe_ads CA hr (by rfl))) (blkOk_by (N := nCov) (sc := defScope sCov) (by decide +kernel))
          (fun _ _ _ _ _ => pg_name (i := 3) scCov.nd rfl (.inl rfl)) (fun _ _ _ _ _ => pts_nil)
          (fun _ _ _ _ _ => pe_callB (cr_anyK (K := K) rfl rfl) (by rfl) hany PyProof.Rows.boot_any (pa_cons (pe_lc (own := [("part", 2)]) (g := gName 2) (tt := tYes) rfl scCov.nd (pi_listK (K := K) rfl (pe_cal CB hr (by rfl) (pa_cons (pv 3) pa_nil))) (blkOk_by (N := nCov) (by rfl))
            (fun _ _ _ _ _ => pg_name (i := 2) scCov.nd rfl (.inl rfl)) (fun _ _ _ _ _ => pts_nil) (fun _ _ _ _ _ => pe_cmp (pc_din hu (pv 2) (pv 1)))) pa_nil))))), ?_⟩
    have hl : (txV rs).length = rs.length := by unfold txV; rw [List.length_map]
    have step : ∀ H1 D kvs, Ex H H1 → H1 D = some (.dK kvs) → Knows kvs rs → (tRet (tLc (iList K (tCall spAds [] E0 tNil)) (gName 3) tYes (tCB (rAny K) (tCons (tLc (iList K (tCall spBeg [] E0 (tCons (tVar 3) tNil))) (gName 2) tYes (tDIn (tVar 2) (tVar 1)) [2]) tNil)) [3])) { nx := fun _ H' => Q .non H', rt := Q } [some (.ref a), some (.ref D), none, none] H1 := fun H1 D kvs e1 hD hk => by
      have z := el_lcNL (K := K) (xs := adV 10) (tl := tCall spAds [] E0 tNil) (t := tYes) (te := tCB (rAny K) (tCons (tLc (iList K (tCall spBeg [] E0 (tCons (tVar 3) tNil))) (gName 2) tYes (tDIn (tVar 2) (tVar 1)) [2]) tNil)) (j := 3) (vs := [3]) (σ := [some (.ref a), some (.ref D), none, none]) (H := H1)
        (fun _ => true) (fun i => V.bl (covB rs i)) (fun H2 e2 Q2 q2 => ⟨rfl, fun H3 D3 hD3 e3 h3 => q2 D3 H3 hD3 e3 h3⟩) (by rw [adV_len]; decide) (fun x => rfl) (fun i x H2 e2 hx => et_yes) (fun i x H2 e2 hx _ => by
          have hi : i < 1024 := by have := (List.getElem?_eq_some_iff.mp hx).1; rw [adV_len] at this; exact this
          have ex : x = .str (T (bN 10 i)) := by
            unfold adV at hx
            rw [List.getElem?_map, AD_at 10 i hi] at hx
            exact (Option.some.inj hx).symm
          subst ex
          have y := el_lcNL (K := K) (xs := begs (bN 10 i)) (tl := tCall spBeg [] E0 (tCons (tVar 3) tNil)) (t := tYes) (te := tDIn (tVar 2) (tVar 1)) (j := 2) (vs := [2]) (σ := [some (.ref a), some (.ref D), none, some (.str (T (bN 10 i)))]) (H := H2)
            (fun _ => true) (fun k => V.bl (decide ((bN 10 i).take (10 - k) ∈ rs))) (fun H3 e3 Q3 q3 => ⟨_, rfl, bN 10 i, rfl, by rw [bN_len]; decide, fun H4 D4 e4 hD4 h4 => q3 D4 H4 hD4 e4 h4⟩) (by unfold begs; rw [List.length_map, List.length_range]; decide) (fun x => rfl) (fun k x H3 e3 hx => et_yes) (fun k x H3 e3 hx _ => by
              have hk2 : k < 11 := by have := (List.getElem?_eq_some_iff.mp hx).1; unfold begs at this; rw [List.length_map, List.length_range] at this; exact this
              have ex : x = .str (T ((bN 10 i).take (10 - k))) := by
                unfold begs at hx
                rw [List.getElem?_map, List.getElem?_range hk2] at hx
                exact (Option.some.inj hx).symm
              subst ex
              intro H5 e5 Q5 q5
              refine ⟨_, rfl, .ref D, rfl, D, _, rfl, .inl ⟨kvs, .inr (T ((bN 10 i).take (10 - k))), .inl (e5 _ _ (e3 _ _ (e2 _ _ hD))), rfl, rfl⟩, ?_⟩
              rw [hk]
              exact q5 H5 (Ex.refl _))
          rw [given_yesAll] at y
          have eb : (List.range (begs (bN 10 i)).length).map (fun k => V.bl (decide ((bN 10 i).take (10 - k) ∈ rs))) = ((List.range 11).map fun k => decide ((bN 10 i).take (10 - k) ∈ rs)).map V.bl := by
            rw [List.map_map, show (begs (bN 10 i)).length = 11 by unfold begs; rw [List.length_map, List.length_range]]
            rfl
          rw [eb] at y
          have ea : ((List.range 11).map fun k => decide ((bN 10 i).take (10 - k) ∈ rs)).any id = covB rs i := by
            rw [List.any_map, ← hasB_cov hrs hi]
            rfl
          intro H5 e5 Q5 q5
          refine cb1 (y H5 e5 _ fun L H6 n6 e6 h6 => ⟨L, _, rfl, sq_of h6, ?_⟩)
          rw [ea]
          exact q5 H6 e6)
      rw [given_yesAll, adV_len] at z
      exact s_retL z fun L H2 nL e2 h2 => k H2 L (fresh_back e1 nL) (e1.trans e2) h2
    refine q_asgW ?_
    rcases ha with hx | hx
    · exact ⟨.ref a, rfl, a, rfl, .inl ⟨⟨_, sq_of hx⟩, fun D hD => dc_txt (walk_list (K := K) (a := a) (xs := txV rs)) hD hn (fun H' e => sq_of (e _ _ hx)) (fun _ => rfl) (fun _ => rfl) (fun _ _ => ev_c) fun H1 kvs e1 hD1 hk => step H1 D kvs e1 hD1 hk⟩⟩
    · exact ⟨.ref a, rfl, a, rfl, .inr ⟨⟨_, st_of hx⟩, fun D hD => dc_txt (walk_tup (K := K) (a := a) (xs := txV rs)) hD hn (fun H' e => st_of (e _ _ hx)) (fun _ => rfl) (fun _ => rfl) (fun _ _ => ev_c) fun H1 kvs e1 hD1 hk => step H1 D kvs e1 hD1 hk⟩⟩
end
end Wk

set_option Elab.async false
set_option linter.all false
set_option maxRecDepth 100000
set_option maxHeartbeats 4000000
namespace Wk
open PySem PySem.Spec PyProof.Rows L2 Evl
/-! flags as worths -/
def WB (K : PySem.W.Frag) : Wth K Bool where
  R := fun _ v b => v = .bl b
  dat := .bool
  mono := fun _ h => h
  dp := fun h => by rw [h]; exact .bl _
  pl := fun _ => rfl
  dep := fun b => by cases b <;> decide
  eqv := fun a b => by cases a <;> cases b <;> rfl
theorem ra_bls {K : PySem.W.Frag} {H : Hp} : ∀ bs : List Bool, RA ((WB K).R H) (bs.map V.bl) bs
  | [] => .nil
  | b :: bs => .cons rfl (ra_bls bs)
/-- a call that leaves the last arguments to their defaults -/
structure CalD (P : Program) (w : World) (K : PySem.W.Frag) (mg : Str → Option Value) (base : Heap) (x : Str) (ps : List Str) (dvs : List V) (k : Nat) (sp : Sp) : Prop where
  ex : ∃ (f : Addr) (fd : FuncData) (ds : List Value), FnOk P w K mg base CX0 k f fd ps sp ∧ mg x = some (.ref f) ∧ PySem.W.keepIn K (.ref f) = true ∧ Binds K fd ps ds ∧ Vals dvs ds
theorem pe_calD {X : Cx} {x : Str} {p pos : Pos} {e : Expr} {es : List Expr} {ps : List Str} {dvs : List V} {k j : Nat} {sp : Sp} {t : TA} (C : CalD X.prog X.w X.K X.mg X.base x ps dvs k sp) (hr : Room j X.A) (hg : Gl X x) (ha : PA X (e :: es) t) (hk : k ≤ j := by decide)
    (hdb : (x == ("__debug__" : Str)) = false := by decide) (he : starEach (e :: es) X.env = (false, eval e X.env) :: starEach es X.env := by rfl) (hpl : (backTo pos (starEach es X.env)).any (·.1) = false := by rfl) :
    PE X (.Call (.Name x p) (e :: es) [] pos) (tCall sp dvs E0 t) := by
  obtain ⟨f, fd, ds, F, g, kp, b, hd⟩ := C.ex
  exact pe_call F (hr.mono hk) hg g kp b hd pass0 ha hdb he hpl
/-! fewest_ranges -/
def flV (F : Nat → Bool) : List V := (List.range 1024).map fun i => V.bl (F i)
theorem cv_fl (rs : List (List Nat)) : cvV rs = flV (covB rs) := rfl
section
variable {P : Program} {w : World} {K : PySem.W.Frag} {mg : Str → Option Value} {base : Heap} {f : Addr} {fd : FuncData}
/-- [a for a, b in pairs if b] -/
theorem el_few {α : Type} [DecidableEq α] {W : Wth K α} {tl : TE} {i j : Nat} {vs : List Nat} {σ : L2.St} {H : Hp} {rs : List V} {ps : List (List Nat × Bool)} {D : Addr} {H0 : Hp} (hrs : RA (MR1 (WB K) H) rs ps) (hn : ps.length ≤ 2000) (hD : H D = some (.lst rs)) (h : Ev tl σ H (.ref D))
    (hw : ∀ x y, wipe (((wipe σ vs).set i (some x)).set j (some y)) vs = wipe σ vs) (h1 : ∀ x y, (((wipe σ vs).set i (some x)).set j (some y))[i]? = some (some x)) (h2 : ∀ x y, (((wipe σ vs).set i (some x)).set j (some y))[j]? = some (some y)) :
    EvL (tLc (iList K tl) (gTup K 2 (gCons (gName i) (gCons (gName j) gNil))) (tB (tVar j)) (tVar i) vs) σ H (txV ((ps.filter (·.2)).map (·.1))) := fun H1 e Q q => h H1 e _ fun H2 e2 => by
  have e02 := e.trans e2
  have hl := hrs.length
  refine ⟨D, rfl, ⟨rs, sq_of (e02 _ _ hD)⟩, fun L hL => ?_⟩
  refine lc_it (walk_list (K := K) (a := D) (xs := rs)) (fun k H' => Ex H2 H' ∧ H' L = some (.lst (txV (((ps.take k).filter (·.2)).map (·.1))))) ⟨Ex.new hL, upd_same⟩ (fun k H' _ p => sq_of (p.1 _ _ (e02 _ _ hD))) (fun k x H' H3 hk p y => ?_) (fun H' p => ?_)
  · obtain ⟨rfl, hx⟩ := y
    obtain ⟨⟨r, b⟩, hp, t, v, rfl, ht, hv⟩ := hrs.at_ hx
    have hv : v = .bl b := hv
    subst hv
    refine ⟨t, _, rfl, st_of (p.1 _ _ (e02 _ _ ht)), rfl, g_two ⟨hw _ _, .bl b, h2 _ _, b, rfl, ?_⟩⟩
    rw [take_snoc hp, List.filter_append]
    cases b with
    | false =>
      rw [if_neg (by decide)]
      have e1 : ([(r, false)] : List (List Nat × Bool)).filter (·.2) = [] := rfl
      rw [e1, List.append_nil]
      exact p
    | true =>
      rw [if_pos rfl]
      refine ⟨_, h1 _ _, _, p.2, ?_, Ex.mut p.1 hL, ?_⟩
      · unfold txV
        rw [List.length_map, List.length_map]
        have := List.length_filter_le (fun x : List Nat × Bool => x.2) (ps.take k)
        rw [List.length_take] at this
        exact sz_lt (by omega)
      · have e1 : ([(r, true)] : List (List Nat × Bool)).filter (·.2) = [(r, true)] := rfl
        rw [e1, upd_same, List.map_append]
        unfold txV
        rw [List.map_append]
        rfl
  · rw [hl, List.take_of_length_le (Nat.le_refl _)] at p
    exact q L H' (fresh_back e2 hL) (e2.trans p.1) p.2
def spFew : Sp := fun vs H Q _ => ∃ (l : Addr) (F : Nat → Bool), vs = [.ref l] ∧ H l = some (.lst (flV F)) ∧ ∀ H' D, H D = none → Ex H H' → H' D = some (.lst (txV (fewR F))) → Q (.ref D) H'
abbrev sFew : Stmt := top 24
abbrev nFew : List Str := ["flags", "part", "flag"]
theorem scFew : FnScope nFew ["flags"] (defScope sFew) := ⟨rfl, rfl, rfl, by decide +kernel, rfl, by decide +kernel, by decide +kernel⟩
theorem ok_few (B : Bl mg) (CM : CalD P w K mg base "merged" ["worths", "ahead"] [V.str ""] 12 (spM (WB K) 10)) (F : FnP K "fewest_ranges" sFew f fd) : FnOk P w K mg base CX0 13 f fd ["flags"] spFew := by
  refine F.ok scFew (fun vs H Q E h => ?_) (fun cdv A outer s H vs Q E hr h => ?_)
  · obtain ⟨l, F, rfl, _⟩ := h
    rfl
  · obtain ⟨l, F, rfl, hl, k⟩ := h
    refine ⟨_, pss_one (ps_ret (pe_lc (own := [("part", 1), ("flag", 2)]) (g := gTup K 2 (gCons (gName 1) (gCons (gName 2) gNil))) (tt := tB (tVar 2)) rfl scFew.nd (pi_listK (K := K) rfl (pe_calD CM hr (by rfl) (pa_cons (pv 0) pa_nil))) (blkOk_by (N := nFew) (sc := defScope sFew) (by decide +kernel))
        (fun _ _ _ _ _ => pg_tup rfl (pgs_cons (pg_name (i := 1) scFew.nd rfl (.inl rfl)) (pgs_cons (pg_name (i := 2) scFew.nd rfl (.inl rfl)) pgs_nil))) (fun _ _ _ _ _ => pts_one (pt_val (pv 2))) (fun _ _ _ _ _ => pv 1))), ?_⟩
    have lit : Str.ofString "" = T [] := by decide +kernel
    have key : ∀ H1 D rs, H D = none → Ex H H1 → H1 D = some (.lst rs) → RA (MR1 (WB K) H1) rs (mrg 10 ((List.range 1024).map F) []) → tRet (tLc (iList K (fun σ H Q => Q (.ref D) H)) (gTup K 2 (gCons (gName 1) (gCons (gName 2) gNil))) (tB (tVar 2)) (tVar 1) [1, 2]) { nx := fun _ H' => Q .non H', rt := Q } (start nFew [V.ref l]) H1 := fun H1 D rs nD e1 hD hrs => by
      have z := el_few (K := K) (W := WB K) (H0 := H) (tl := fun σ H Q => Q (.ref D) H) (i := 1) (j := 2) (vs := [1, 2]) (σ := start nFew [V.ref l]) (H := H1) hrs (by have := mrg_len 10 ((List.range 1024).map F) []; omega) hD (fun H2 _ Q2 q2 => q2 H2 (Ex.refl _)) (fun _ _ => rfl) (fun _ _ => rfl) (fun _ _ => rfl)
      exact s_retL z fun L H2 nL e2 h2 => k H2 L (fresh_back e1 nL) (e1.trans e2) h2
    refine ⟨_, rfl, l, flV F, (List.range 1024).map F, [], by rw [← lit]; rfl, hl, ?_, by rw [List.length_map, List.length_range], by decide, fun H1 D rs nD e1 hD hrs => key H1 D rs nD e1 hD hrs⟩
    have := ra_bls (K := K) (H := H) ((List.range 1024).map F)
    rw [List.map_map] at this
    exact this
end
end Wk

set_option Elab.async false
set_option linter.all false
set_option maxRecDepth 100000
set_option maxHeartbeats 4000000
namespace Wk
open PySem PySem.Spec PyProof.Rows L2 Evl
/-! what isinstance tells of a value, whatever is laid -/
/-- an own class that is no list and no tuple -/
structure TKr (K : PySem.W.Frag) (CT : Addr) : Prop where
  l : PySem.W.kitOne K (.ref CT) (.type "list") = some false
  t : PySem.W.kitOne K (.ref CT) (.type "tuple") = some false
theorem iskr_tb {K : PySem.W.Frag} {CT : Addr} {H : Hp} {x dx : Addr} {fs : List (Str × V)} (X : TX K CT) (R : TKr K CT) (h : H x = some (.ins CT dx fs)) : IsKr K H (.ref x) false := fun H' e => ⟨_, .base (.ins (e _ _ h) X.ic.cl X.ic.ha X.ic.hn X.ic.htk X.ic.hm), any2 R.l R.t⟩
section
variable {K : PySem.W.Frag} {σ : L2.St} {H : Hp} {ta : TE}
/-- over a list or a tuple -/
theorem el_lcA {a : Addr} {xs : List V} {tl te : TE} {t : TT} {j : Nat} {vs : List Nat} (f : Nat → Bool) (v : Nat → V) (h : Ev tl σ H (.ref a)) (hx : RowA H a xs) (hz : xs.length ≤ 40000) (hw : ∀ x, wipe ((wipe σ vs).set j (some x)) vs = wipe σ vs)
    (ht : ∀ (i : Nat) (x : V) H1, Ex H H1 → xs[i]? = some x → EvT t ((wipe σ vs).set j (some x)) H1 (f i)) (he : ∀ (i : Nat) (x : V) H1, Ex H H1 → xs[i]? = some x → f i = true → Ev te ((wipe σ vs).set j (some x)) H1 (v i)) :
    EvL (tLc (iRowK K tl) (gName j) t te vs) σ H (given xs.length f v) := fun H0 e Q q => h H0 e _ fun H1 e1 => ⟨a, rfl, by
  rcases hx with hx | hx
  · exact .inl ⟨⟨xs, sq_of ((e.trans e1) _ _ hx)⟩, fun Dl hD => lc_it (walk_list (K := K) (a := a) (xs := xs)) (Cw H1 f v Dl) ⟨hD, Ex.new hD, upd_same⟩ (fun i H' _ p => sq_of (((e.trans e1).trans p.2.1) _ _ hx))
      (fun i x H' H2 hi p y => by obtain ⟨rfl, hy⟩ := y; exact ⟨hw x, cw_turn p (by omega) (ht i x H1 (e.trans e1) hy) (fun hf => he i x H1 (e.trans e1) hy hf)⟩) (fun H' p => q Dl H' (fresh_back e1 p.1) (e1.trans p.2.1) p.2.2)⟩
  · exact .inr ⟨⟨xs, st_of ((e.trans e1) _ _ hx)⟩, fun Dl hD => lc_it (walk_tup (K := K) (a := a) (xs := xs)) (Cw H1 f v Dl) ⟨hD, Ex.new hD, upd_same⟩ (fun i H' _ p => st_of (((e.trans e1).trans p.2.1) _ _ hx))
      (fun i x H' H2 hi p y => by obtain ⟨rfl, hy⟩ := y; exact ⟨hw x, cw_turn p (by omega) (ht i x H1 (e.trans e1) hy) (fun hf => he i x H1 (e.trans e1) hy hf)⟩) (fun H' p => q Dl H' (fresh_back e1 p.1) (e1.trans p.2.1) p.2.2)⟩⟩
end
/-! items of a row: ranges or none -/
inductive RI (K : PySem.W.Frag) (H : Hp) : V → Bool → Prop
  | yes {l : List Nat} : IsB l → l.length ≤ 10 → RI K H (.str (T l)) true
  | txt {l : List Nat} : l.length ≤ 100 → rngB l = false → RI K H (.str (T l)) false
  | no {v : V} : NSt K H v → RI K H v false
theorem RI.mono {K : PySem.W.Frag} {H H' : Hp} {v : V} {b : Bool} (e : Ex H H') (h : RI K H v b) : RI K H' v b := by
  cases h with
  | yes a b => exact .yes a b
  | txt a b => exact .txt a b
  | no a => exact .no (a.mono e)
theorem ra_tx {K : PySem.W.Frag} {H : Hp} : ∀ {rs : List (List Nat)}, (∀ r ∈ rs, IsB r ∧ r.length ≤ 10) → RA (RI K H) (txV rs) (rs.map fun _ => true)
  | [], _ => .nil
  | r :: rs, h => .cons (.yes (h r List.mem_cons_self).1 (h r List.mem_cons_self).2) (ra_tx fun x hx => h x (List.mem_cons_of_mem _ hx))
section
variable {P : Program} {w : World} {K : PySem.W.Frag} {mg : Str → Option Value} {base : Heap} {f : Addr} {fd : FuncData} {CB : Addr}
/-! refuse_no_ranges -/
/-- a row of ranges, or none -/
def RwF (K : PySem.W.Frag) (H : Hp) (v : V) (ok : Bool) : Prop := (∃ (a : Addr) (us : List V) (bs : List Bool), v = .ref a ∧ RowA H a us ∧ us.length ≤ 1100 ∧ RA (RI K H) us bs ∧ ok = bs.all id) ∨ (IsKr K H v false ∧ ok = false)
def spRNG (K : PySem.W.Frag) (CB : Addr) : Sp := fun vs H Q E => ∃ (v : V) (ok : Bool), vs = [v] ∧ RwF K H v ok ∧ (ok = true → ∀ H', Ex H H' → Q .non H') ∧ (ok = false → ∀ H', Ex H H' → E (.ref CB) none H')
abbrev sRNG : Stmt := top 33
abbrev nRNG : List Str := ["thing", "part"]
theorem scRNG : FnScope nRNG ["thing"] (defScope sRNG) := ⟨rfl, rfl, rfl, by decide +kernel, rfl, by decide +kernel, by decide +kernel⟩
theorem ok_rng (B : Bl mg) (TB : ErrN K mg "BadRanges" CB) (CI : Cal P w K mg base "is_row" ["thing"] 1 (spRow3 K)) (CR : Cal P w K mg base "is_range" ["thing"] 1 (spRange K)) (F : FnP K "refuse_no_ranges" sRNG f fd) : FnOk P w K mg base (L2.CX P w) 3 f fd ["thing"] (spRNG K CB) := by
  refine F.ok scRNG (fun vs H Q E h => ?_) (fun cdv A outer s H vs Q E hr h => ?_)
  · obtain ⟨v, ok, rfl, _⟩ := h
    rfl
  · obtain ⟨v, ok, rfl, hv, kQ, kE⟩ := h
    refine ⟨_, pss_one (ps_if (PW.pt (pw_or (pt_not (pt_val (pe_cal CI hr (by rfl) (pa_cons (pv 0) pa_nil)))) (pw_or1 (pt_not (pt_val (pe_callB (cr_all rfl) (by rfl) B.all boot_all (pa_cons (pe_lc (own := [("part", 1)]) (g := gName 1) (tt := tYes) rfl scRNG.nd (pi_rowK (K := K) rfl (pv 0)) (blkOk_by (N := nRNG) (sc := defScope sRNG) (by decide +kernel))
          (fun _ _ _ _ _ => pg_name (i := 1) scRNG.nd rfl (Or.inl rfl)) (fun _ _ _ _ _ => pts_nil) (fun _ _ _ _ _ => pe_cal CR hr (by rfl) (pa_cons (pv 1) pa_nil))) pa_nil))))))) (pss_one (ps_raise rfl (takes_of rfl rfl rfl rfl) (pmk_errN rfl rfl TB (by rfl)))) pss_nil), ?_⟩
    rcases hv with ⟨a, us, bs, rfl, hrow, hn, hus, rfl⟩ | ⟨hi, rfl⟩
    · have hul := hus.length
      have c1 : Ev (tCall (spRow3 K) [] E0 (tCons (tVar 0) tNil)) (start nRNG [V.ref a]) H (.bl true) := ev_call (ea_cons (ev_var rfl) ea_nil) (spP_v fun H1 e1 => ⟨_, true, rfl, (iskr_row hrow).mono e1, rfl⟩)
      have z := el_lcA (K := K) (σ := start nRNG [V.ref a]) (H := H) (tl := tVar 0) (t := tYes) (te := tCall (spRange K) [] E0 (tCons (tVar 1) tNil)) (j := 1) (vs := [1]) (fun _ => true) (fun i => V.bl (bs.getD i false)) (ev_var rfl) hrow (by omega) (fun x => rfl) (fun i x H1 e1 hx => et_yes) (fun i x H1 e1 hx _ => by
        obtain ⟨b, hb, hr⟩ := hus.at_ hx
        rw [show bs.getD i false = b by rw [List.getD_eq_getElem?_getD, hb]; rfl]
        refine ev_call (ea_cons (ev_var rfl) ea_nil) (spP_v fun H2 e2 => ?_)
        have hr2 := hr.mono (e1.trans e2)
        cases hr2 with
        | yes h1 h2 => exact ⟨_, rfl, .inl ⟨_, rfl, by omega, by rw [rng_yes h1 h2]⟩⟩
        | txt h1 h2 => exact ⟨_, rfl, .inl ⟨_, rfl, h1, by rw [h2]⟩⟩
        | no h1 => exact ⟨_, rfl, .inr ⟨h1, rfl⟩⟩)
      rw [given_yesAll, hul] at z
      have e : (List.range bs.length).map (fun i => V.bl (bs.getD i false)) = bs.map V.bl := by
        apply List.ext_getElem
        · simp
        · intro i h1 h2
          have h3 : i < bs.length := by simpa using h1
          simp [List.getD_eq_getElem?_getD, List.getElem?_eq_getElem h3]
      rw [e] at z
      refine s_when (b := !true || !(bs.all id)) (et_or (et_not (et_B c1)) fun _ => et_not (et_B (ev_allL (K := K) z))) (fun hb H1 e1 => kE (by simpa using hb) H1 e1) fun hb H1 e1 => kQ (by simpa using hb) H1 e1
    · have c1 : Ev (tCall (spRow3 K) [] E0 (tCons (tVar 0) tNil)) (start nRNG [v]) H (.bl false) := ev_call (ea_cons (ev_var rfl) ea_nil) (spP_v fun H1 e1 => ⟨_, false, rfl, hi.mono e1, rfl⟩)
      exact s_when (b := !false || false) (et_or (et_not (et_B c1)) fun z => (by cases z)) (fun _ H1 e1 => kE rfl H1 e1) (fun z => by cases z)
end
end Wk

set_option Elab.async false
set_option linter.all false
set_option maxRecDepth 100000
set_option maxHeartbeats 4000000
namespace Wk
theorem Prt.map {α β : Type} [DecidableEq α] [DecidableEq β] {W : Nat → α} {g : α → β} (hg : ∀ a b, g a = g b → a = b) : ∀ {l : List (List Nat × α)} {p q : Nat}, Prt W p l q → Prt (fun i => g (W i)) p (l.map fun e => (e.1, g e.2)) q
  | [], _, _, .nil => .nil
  | _ :: _, _, _, .cons h1 h2 h3 h4 h5 t => by
    rw [List.map_cons]
    refine .cons h1 h2 h3 (fun i a b => congrArg g (h4 i a b)) (fun z => ?_) (t.map hg)
    obtain ⟨i, a, b, c⟩ := h5 z
    exact ⟨i, a, b, fun y => c (hg _ _ y)⟩
theorem Prt.bits {α : Type} {W : Nat → α} : ∀ {l : List (List Nat × α)} {p q : Nat}, Prt W p l q → ∀ e ∈ l, IsB e.1 ∧ e.1.length ≤ 10 ∧ p ≤ lo e.1 ∧ W (lo e.1) = e.2
  | [], _, _, _, e, he => by cases he
  | _ :: _, p, _, .cons (r := r) h1 h2 h3 h4 h5 t, e, he => by
    rcases List.mem_cons.mp he with z | z
    · rw [z]
      exact ⟨h1, h2, by rw [h3]; exact Nat.le_refl _, h4 _ (Nat.le_refl _) (lo_lt r)⟩
    · obtain ⟨a, b, c, d⟩ := t.bits e z
      have := lo_lt r
      exact ⟨a, b, by omega, d⟩
theorem Prt.nd {α : Type} {W : Nat → α} : ∀ {l : List (List Nat × α)} {p q : Nat}, Prt W p l q → (l.map (·.1)).Nodup
  | [], _, _, _ => List.nodup_nil
  | _ :: _, p, _, .cons (r := r) h1 h2 h3 h4 h5 t => by
    rw [List.map_cons, List.nodup_cons]
    refine ⟨fun hm => ?_, t.nd⟩
    obtain ⟨e, he, hr⟩ := List.mem_map.mp hm
    obtain ⟨_, _, h, _⟩ := t.bits e he
    have := lo_lt r
    have hr : e.1 = r := hr
    rw [hr] at h
    omega
/-! painting -/
section
variable {β : Type}
def hit (e : List Nat × β) (i : Nat) : Prop := lo e.1 ≤ i ∧ i < hi e.1
instance (e : List Nat × β) (i : Nat) : Decidable (hit e i) := inferInstanceAs (Decidable (_ ∧ _))
def pn1 (s : Nat) (F : Nat → β) (e : List Nat × β) : Nat → β := fun i => if e.1.length = s ∧ hit e i then e.2 else F i
def pnS (es : List (List Nat × β)) (F : Nat → β) (s : Nat) : Nat → β := es.foldl (pn1 s) F
def pnN (d : β) (es : List (List Nat × β)) : Nat → Nat → β
  | 0 => fun _ => d
  | n + 1 => pnS es (pnN d es n) n
def pnt (d : β) (es : List (List Nat × β)) : Nat → β := pnN d es 11
theorem pnS_at (s : Nat) (i : Nat) : ∀ (es : List (List Nat × β)) (F : Nat → β), (∃ e ∈ es, e.1.length = s ∧ hit e i ∧ es.foldl (pn1 s) F i = e.2) ∨ (es.foldl (pn1 s) F i = F i ∧ ∀ e ∈ es, e.1.length = s → ¬ hit e i)
  | [], F => .inr ⟨rfl, fun _ h => by cases h⟩
  | e :: es, F => by
    rw [List.foldl_cons]
    rcases pnS_at s i es (pn1 s F e) with ⟨e', h1, h2, h3, h4⟩ | ⟨h1, h2⟩
    · exact .inl ⟨e', List.mem_cons_of_mem _ h1, h2, h3, h4⟩
    · by_cases c : e.1.length = s ∧ hit e i
      · refine .inl ⟨e, List.mem_cons_self, c.1, c.2, ?_⟩
        rw [h1]
        exact if_pos c
      · refine .inr ⟨?_, fun e' he' => (List.mem_cons.mp he').elim (fun z => by rw [z]; exact fun a b => c ⟨a, b⟩) (h2 e')⟩
        rw [h1]
        exact if_neg c
theorem pnN_at (d : β) (es : List (List Nat × β)) (i : Nat) : ∀ s : Nat, (pnN d es s i = d ∧ ∀ e ∈ es, e.1.length < s → ¬ hit e i) ∨ ∃ e ∈ es, e.1.length < s ∧ hit e i ∧ pnN d es s i = e.2 ∧ ∀ e' ∈ es, e'.1.length < s → hit e' i → e'.1.length ≤ e.1.length
  | 0 => .inl ⟨rfl, fun e _ h => absurd h (Nat.not_lt_zero _)⟩
  | s + 1 => by
    have ih := pnN_at d es i s
    have st : pnN d es (s + 1) i = es.foldl (pn1 s) (pnN d es s) i := rfl
    rw [st]
    rcases pnS_at s i es (pnN d es s) with ⟨e, h1, h2, h3, h4⟩ | ⟨h1, h2⟩
    · exact .inr ⟨e, h1, by omega, h3, h4, fun e' _ h' _ => by omega⟩
    · rw [h1]
      rcases ih with ⟨i1, i2⟩ | ⟨e, i1, i2, i3, i4, i5⟩
      · refine .inl ⟨i1, fun e he hl => ?_⟩
        by_cases c : e.1.length = s
        · exact h2 e he c
        · exact i2 e he (by omega)
      · refine .inr ⟨e, i1, by omega, i3, i4, fun e' he hl hh => ?_⟩
        by_cases c : e'.1.length = s
        · exact absurd hh (h2 e' he c)
        · exact i5 e' he (by omega) hh
theorem pnt_at (d : β) {es : List (List Nat × β)} (h : ∀ e ∈ es, e.1.length ≤ 10) (i : Nat) : (pnt d es i = d ∧ ∀ e ∈ es, ¬ hit e i) ∨ ∃ e ∈ es, hit e i ∧ pnt d es i = e.2 ∧ ∀ e' ∈ es, hit e' i → e'.1.length ≤ e.1.length := by
  rcases pnN_at d es i 11 with ⟨h1, h2⟩ | ⟨e, h1, h2, h3, h4, h5⟩
  · exact .inl ⟨h1, fun e he => h2 e he (by have := h e he; omega)⟩
  · exact .inr ⟨e, h1, h3, h4, fun e' he => h5 e' he (by have := h e' he; omega)⟩
end
theorem Prt.congr {α : Type} {W U : Nat → α} (h : ∀ i, i < 1024 → W i = U i) : ∀ {l : List (List Nat × α)} {p q : Nat}, Prt W p l q → Prt U p l q
  | [], _, _, .nil => .nil
  | _ :: _, _, _, .cons (r := r) h1 h2 h3 h4 h5 t => by
    have hh := hi_le h1 h2
    refine .cons h1 h2 h3 (fun i a b => by rw [← h i (by omega)]; exact h4 i a b) (fun z => ?_) (t.congr h)
    obtain ⟨i, a, b, c⟩ := h5 z
    have h6 : IsB r.dropLast := fun c hc => h1 c (by rw [List.dropLast_eq_take] at hc; exact List.mem_of_mem_take hc)
    have h7 := hi_le h6 (by rw [List.length_dropLast]; omega)
    exact ⟨i, a, b, by rw [← h i (by omega)]; exact c⟩
/-- the wider range has the range -/
theorem wide_in {r : List Nat} (hB : IsB r) (hne : r ≠ []) (hl : r.length ≤ 10) : lo r.dropLast ≤ lo r ∧ hi r ≤ hi r.dropLast := by
  obtain ⟨s, c, rfl⟩ : ∃ s c, r = s ++ [c] := ⟨r.dropLast, r.getLast hne, (List.dropLast_concat_getLast hne).symm⟩
  rw [List.dropLast_concat]
  have hc := hB c (List.mem_append_right _ (List.mem_singleton.mpr rfl))
  rw [List.length_append, List.length_singleton] at hl
  unfold lo hi
  rw [vl_snoc, List.length_append, List.length_singleton]
  have e : 10 - s.length = (10 - (s.length + 1)) + 1 := by omega
  rw [e, Nat.pow_succ]
  generalize 2 ^ (10 - (s.length + 1)) = x
  have h1 : vl s * (x * 2) = (2 * vl s) * x := by rw [Nat.mul_comm x 2, ← Nat.mul_assoc, Nat.mul_comm (vl s) 2]
  have h2 : (vl s + 1) * (x * 2) = (2 * vl s + 2) * x := by rw [Nat.mul_comm x 2, ← Nat.mul_assoc]; congr 1; omega
  rw [h1, h2]
  exact ⟨Nat.mul_le_mul_right _ (by omega), Nat.mul_le_mul_right _ (by omega)⟩
theorem Prt.hits {α : Type} {W : Nat → α} : ∀ {l : List (List Nat × α)} {p q : Nat}, Prt W p l q → (∀ i, p ≤ i → i < q → ∃ e ∈ l, hit e i) ∧ ∀ e ∈ l, ∀ i, hit e i → W i = e.2
  | [], p, _, .nil => ⟨fun i h1 h2 => by omega, fun _ h => by cases h⟩
  | _ :: _, p, q, .cons (r := r) h1 h2 h3 h4 h5 t => by
    obtain ⟨a, b⟩ := t.hits
    refine ⟨fun i k1 k2 => ?_, fun e he i hh => ?_⟩
    · by_cases c : i < hi r
      · exact ⟨_, List.mem_cons_self, by rw [← h3] at k1; exact ⟨k1, c⟩⟩
      · obtain ⟨e, he, hh⟩ := a i (by omega) k2
        exact ⟨e, List.mem_cons_of_mem _ he, hh⟩
    · rcases List.mem_cons.mp he with z | z
      · rw [z] at hh ⊢
        exact h4 i hh.1 hh.2
      · exact b e z i hh
theorem Prt.pnt {β : Type} {W : Nat → β} {l : List (List Nat × β)} (d : β) (h : Prt W 0 l 1024) {i : Nat} (hi : i < 1024) : pnt d l i = W i := by
  obtain ⟨a, b⟩ := h.hits
  rcases pnt_at d (fun e he => (h.bits e he).2.1) i with ⟨h1, h2⟩ | ⟨e, h1, h2, h3, _⟩
  · obtain ⟨e, he, hh⟩ := a i (Nat.zero_le _) hi
    exact absurd hh (h2 e he)
  · rw [h3, b e h1 i h2]
open PySem PySem.Spec PyProof.Rows L2 Evl
/-- the painted way is that of the longest range that has the address -/
theorem pnt_law {es : List Row} {i : Nat} (h : ∀ e ∈ es, IsB e.1 ∧ e.1.length ≤ 10) (hi : i < 1024) : LawIs es (bN 10 i) (pnt (.str "drop") es i) := by
  have key : ∀ e ∈ es, (bN 10 i).take e.1.length = e.1 ↔ hit e i := fun e he => take_iff (h e he).1 (h e he).2 hi
  rcases pnt_at (V.str "drop") (fun e he => (h e he).2) i with ⟨h1, h2⟩ | ⟨e, h1, h2, h3, h4⟩
  · exact .inl ⟨h1, fun e he z => h2 e he ((key e he).mp z)⟩
  · exact .inr ⟨e, h1, (key e h1).mpr h2, h3, fun e' he z => h4 e' he ((key e' he).mp z)⟩
theorem pnt_way {es : List Row} {m i : Nat} {v : V} (hes : EsOk es m) (hi : i < 1024) (h : LongIs es (bN 10 i) v) : v = pnt (.str "drop") es i :=
  long_law hes.nd (bN_len 10 i) (fun e he => (hes.it e he).2.1) h (pnt_law (fun e he => ⟨(hes.it e he).1, (hes.it e he).2.1⟩) hi)
theorem pnt_nx {es : List Row} {m i : Nat} (hes : EsOk es m) (hi : i < 1024) : NxV (pnt (.str "drop") es i) := law_nx hes (pnt_law (fun e he => ⟨(hes.it e he).1, (hes.it e he).2.1⟩) hi)
/-! 1024 values -/
def fV (F : Nat → V) : List V := (List.range 1024).map F
theorem fV_len (F : Nat → V) : (fV F).length = 1024 := by unfold fV; rw [List.length_map, List.length_range]
theorem fV_at (F : Nat → V) (i : Nat) : (fV F)[i]? = if i < 1024 then some (F i) else none := by
  unfold fV
  rw [List.getElem?_map]
  by_cases h : i < 1024
  · rw [List.getElem?_range h, if_pos h]; rfl
  · rw [List.getElem?_eq_none (by rw [List.length_range]; omega), if_neg h]; rfl
theorem fV_put {F : Nat → V} {a c : Nat} {x : V} (hac : a ≤ c) (hc : c ≤ 1024) : (fV F).take a ++ List.replicate (c - a) x ++ (fV F).drop c = fV fun i => if a ≤ i ∧ i < c then x else F i := by
  apply List.ext_getElem?
  intro i
  have hl := fV_len F
  rw [fV_at]
  have lt : ((fV F).take a).length = a := by rw [List.length_take]; omega
  by_cases h1 : i < a
  · rw [List.append_assoc, List.getElem?_append_left (by omega), List.getElem?_take_of_lt h1, fV_at]
    rw [if_neg (show ¬ (a ≤ i ∧ i < c) by omega)]
  · by_cases h2 : i < c
    · rw [List.append_assoc, List.getElem?_append_right (by omega), lt, List.getElem?_append_left (by rw [List.length_replicate]; omega), List.getElem?_replicate, if_pos (by omega), if_pos (by omega), if_pos ⟨by omega, h2⟩]
    · rw [List.getElem?_append_right (by rw [List.length_append, lt, List.length_replicate]; omega), List.length_append, lt, List.length_replicate, List.getElem?_drop, fV_at]
      rw [show c + (i - (a + (c - a))) = i by omega, if_neg (show ¬ (a ≤ i ∧ i < c) by omega)]
theorem fV_const (x : V) : List.replicate 1024 x = fV fun _ => x := by
  apply List.ext_getElem?
  intro i
  rw [fV_at, List.getElem?_replicate]
theorem fV_congr {F G : Nat → V} (h : ∀ i, F i = G i) : fV F = fV G := by
  have : F = G := funext h
  rw [this]
end Wk

set_option Elab.async false
set_option linter.all false
set_option maxRecDepth 100000
set_option maxHeartbeats 4000000
namespace Wk
open PySem PySem.Spec PyProof.Rows L2 Evl
/-! fates as worths -/
instance ftDec : DecidableEq Ft := fun a b => match a, b with
  | .out s a k, .out t b m => if h : s = t ∧ a = b ∧ k = m then .isTrue (by obtain ⟨h1, h2, h3⟩ := h; rw [h1, h2, h3]) else .isFalse fun z => h (by injection z with z1 z2 z3; exact ⟨z1, z2, z3⟩)
  | .ring r, .ring q => if h : r = q then .isTrue (by rw [h]) else .isFalse fun z => h (by injection z)
  | .out _ _ _, .ring _ => .isFalse fun z => by cases z
  | .ring _, .out _ _ _ => .isFalse fun z => by cases z
abbrev FtS := { ft : Ft // FtOk ft }
theorem eqv_str (x y : Str) : PyData.eqv (.str x) (.str y) = decide (x = y) := by
  rw [PyData.eqv]
  by_cases c : x = y
  · rw [c]; simp
  · rw [decide_eq_false c]
    simpa using c
theorem eqv_nat (i j : Nat) : PyData.eqv (.int (i : Int)) (.int (j : Int)) = decide (i = j) := by
  rw [PyData.eqv]
  by_cases c : i = j
  · rw [c]; simp
  · rw [decide_eq_false c]
    have : (i : Int) ≠ (j : Int) := fun z => c (by omega)
    simpa using this
theorem eqv_iD : ∀ (l m : List Nat), PyData.eqvAll (iD l) (iD m) = decide (l = m)
  | [], [] => by simp [iD, PyData.eqvAll]
  | [], _ :: _ => by simp [iD, PyData.eqvAll]
  | _ :: _, [] => by simp [iD, PyData.eqvAll]
  | a :: l, b :: m => by
    have e : PyData.eqvAll (iD (a :: l)) (iD (b :: m)) = (PyData.eqv (.int (a : Int)) (.int (b : Int)) && PyData.eqvAll (iD l) (iD m)) := by
      simp only [iD, List.map_cons, PyData.eqvAll]
    rw [e, eqv_nat, eqv_iD l m]
    by_cases c : a = b <;> by_cases d : l = m <;> simp [c, d]
theorem ft_eqv {x y : Ft} (hx : FtOk x) (hy : FtOk y) : PyData.eqv (ftD x) (ftD y) = decide (x = y) := by
  cases x with
  | out s a k =>
    cases y with
    | out t b m =>
      simp only [ftD, PyData.eqv, PyData.eqvAll]
      have e1 := eqv_str s t
      have e2 := eqv_nat a b
      have e3 := eqv_nat k m
      simp only [PyData.eqv] at e1 e2 e3
      rw [e1, e2, e3]
      by_cases c : s = t <;> by_cases d : a = b <;> by_cases f : k = m <;> simp [c, d, f]
    | ring r =>
      simp only [ftD, PyData.eqv, PyData.eqvAll]
      simp
  | ring r =>
    cases y with
    | out t b m =>
      simp only [ftD, PyData.eqv, PyData.eqvAll]
      simp
    | ring q =>
      simp only [ftD, PyData.eqv, PyData.eqvAll]
      rw [eqv_iD]
      by_cases c : r = q <;> simp [c]
def WFt (K : PySem.W.Frag) : Wth K FtS where
  R := fun H v a => FtV H v a.1
  dat := fun a => ftD a.1
  mono := fun e h => h.mono e
  dp := fun {_ _ a} h => Dq.dp (lay_ft a.2) (dq_ft h)
  pl := fun a => PyData.plain_of_canLay0 _ (lay_ft a.2)
  dep := fun a => by
    obtain ⟨ft, h⟩ := a
    cases ft with
    | out s a k => simp only [ftD, PyData.depth, PyData.depthAll]; omega
    | ring r =>
      have := (lay_iD r).2
      simp only [ftD, PyData.depth, PyData.depthAll]
      omega
  eqv := fun a b => by
    rw [ft_eqv a.2 b.2]
    by_cases c : a = b
    · rw [c, decide_eq_true rfl, decide_eq_true rfl]
    · rw [decide_eq_false c, decide_eq_false fun z => c (Subtype.ext z)]
/-- the next routers of an address -/
def toNw : V → Nw
  | .int i => .go i.toNat
  | .str s => .fin s
  | _ => .fin "drop"
theorem toNw_way {n : Nat} {v : V} (h : WayN n v) : nwV (toNw v) = v ∧ (∀ k, toNw v = .go k → k < n) ∧ ∀ s, toNw v = .fin s → s = "here" ∨ s = "drop" := by
  rcases h with rfl | rfl | ⟨i, hi, rfl⟩
  · exact ⟨rfl, fun k z => (by cases z), fun s z => (by cases z; exact .inl rfl)⟩
  · exact ⟨rfl, fun k z => (by cases z), fun s z => (by cases z; exact .inr rfl)⟩
  · refine ⟨by show V.int _ = _; rw [Int.toNat_natCast], fun k z => ?_, fun s z => by cases z⟩
    have z : Nw.go ((i : Int).toNat) = .go k := z
    rw [Int.toNat_natCast] at z
    injection z with z
    omega
def nvF (ess : List (List Row)) (i : Nat) : List Nw := ess.map fun es => toNw (pnt (.str "drop") es i)
structure EssOk (ess : List (List Row)) (m : Nat) : Prop where
  one : 1 ≤ ess.length
  eight : ess.length ≤ 8
  ok : ∀ es ∈ ess, EsOk es m
  way : ∀ es ∈ ess, ∀ e ∈ es, WayN ess.length e.2
theorem pnt_wayN {es : List Row} {m n i : Nat} (hes : EsOk es m) (hw : ∀ e ∈ es, WayN n e.2) : WayN n (pnt (.str "drop") es i) := by
  rcases pnt_at (V.str "drop") (fun e he => (hes.it e he).2.1) i with ⟨h1, _⟩ | ⟨e, h1, _, h3, _⟩
  · rw [h1]; exact .inr (.inl rfl)
  · rw [h3]; exact hw e h1
theorem nvF_ok {ess : List (List Row)} {m : Nat} (h : EssOk ess m) (i : Nat) : NwOk (nvF ess i) := by
  have key : ∀ (a : Nat) w, (nvF ess i)[a]? = some w → ∃ es ∈ ess, w = toNw (pnt (.str "drop") es i) := fun a w hw => by
    unfold nvF at hw
    rw [List.getElem?_map] at hw
    cases e : ess[a]? with
    | none => rw [e] at hw; cases hw
    | some es => rw [e] at hw; exact ⟨es, List.mem_of_getElem? e, (Option.some.inj hw).symm⟩
  constructor
  · intro a k hk
    obtain ⟨es, he, z⟩ := key a _ hk
    have := (toNw_way (pnt_wayN (i := i) (h.ok es he) (h.way es he))).2.1 k z.symm
    unfold nvF
    rw [List.length_map]
    exact this
  · intro a s hk
    obtain ⟨es, he, z⟩ := key a _ hk
    exact (toNw_way (pnt_wayN (i := i) (h.ok es he) (h.way es he))).2.2 s z.symm
theorem nvF_rk {ess : List (List Row)} {m i : Nat} (h : EssOk ess m) (hi : i < 1024) : Rk ess (bN 10 i) (nvF ess i) := by
  refine ⟨by unfold nvF; rw [List.length_map], nvF_ok h i, fun r es w h1 h2 z hz => ?_⟩
  unfold nvF at h2
  rw [List.getElem?_map, h1] at h2
  have h2 : toNw (pnt (.str "drop") es i) = w := Option.some.inj h2
  have hm := List.mem_of_getElem? h1
  rw [← h2, (toNw_way (pnt_wayN (i := i) (h.ok es hm) (h.way es hm))).1]
  exact pnt_way (h.ok es hm) hi hz
theorem nvF_len (ess : List (List Row)) (i : Nat) : (nvF ess i).length = ess.length := by unfold nvF; rw [List.length_map]
/-- the fate of each address -/
def phi {ess : List (List Row)} {m : Nat} (h : EssOk ess m) (a : Nat) (i : Nat) : FtS := ⟨fateN (nvF ess i) a, fate_ok (nvF_ok h i) (by rw [nvF_len]; exact h.eight) a⟩
/-! a comprehension whose items are made -/
theorem lc_made {K : PySem.W.Frag} {σ : L2.St} {H : Hp} {te tl : TE} {j : Nat} {vs : List Nat} {Q : VK} {xs : List V} {Y : Nat → Hp → V → Prop} (hl : ∀ Q' : VK, (∀ a H1, Ex H H1 → H1 a = some (.lst xs) → Q' (.ref a) H1) → tl σ H Q') (hz : xs.length ≤ 40000) (hw : ∀ x, wipe ((wipe σ vs).set j (some x)) vs = wipe σ vs)
    (mono : ∀ i v H1 H2, Ex H1 H2 → Y i H1 v → Y i H2 v) (hup : ∀ i v H1 D ys o, H1 D = some (.lst ys) → v ≠ .ref D → Y i H1 v → Y i (upd H1 D o) v)
    (he : ∀ (i : Nat) x H1, Ex H H1 → xs[i]? = some x → ∀ Q' : VK, (∀ v H2, Ex H1 H2 → Y i H2 v → (∀ D ys, H1 D = some (.lst ys) → v ≠ .ref D) → Q' v H2) → te ((wipe σ vs).set j (some x)) H1 Q')
    (k : ∀ D H1 us, H D = none → Ex H H1 → H1 D = some (.lst us) → us.length = xs.length → (∀ i v, us[i]? = some v → Y i H1 v) → Q (.ref D) H1) :
    tLc (iList K tl) (gName j) tYes te vs σ H Q := hl _ fun a H1 e1 hx => by
  refine ⟨a, rfl, ⟨xs, sq_of hx⟩, fun D hD => ?_⟩
  refine lc_it (walk_list (K := K) (a := a) (xs := xs)) (fun i H' => ∃ us, Ex H1 H' ∧ H' D = some (.lst us) ∧ us.length = i ∧ ∀ r v, us[r]? = some v → v ≠ .ref D ∧ Y r H' v) ⟨[], Ex.new hD, upd_same, rfl, fun r v h => by cases h⟩ (fun i H' _ p => ?_) (fun i x H' H2 hi p y => ?_) (fun H' p => ?_)
  · obtain ⟨_, e2, _⟩ := p
    exact sq_of (e2 _ _ hx)
  · obtain ⟨us, e2, h1, h2, h3⟩ := p
    obtain ⟨rfl, hxi⟩ := y
    refine ⟨hw _, et_yes H2 (Ex.refl _) _ fun H3 e3 => ?_⟩
    rw [if_pos rfl]
    refine he i x H3 ((e1.trans e2).trans e3) hxi _ fun y H4 e4 hy hne => ?_
    have hD4 := e4 _ _ (e3 _ _ h1)
    have e14 := (e2.trans e3).trans e4
    refine ⟨us, hD4, sz_lt (by omega), us ++ [y], Ex.mut e14 hD, upd_same, by simp [h2], fun r v hr => ?_⟩
    by_cases c : r < us.length
    · rw [List.getElem?_append_left c] at hr
      obtain ⟨g1, g2⟩ := h3 r v hr
      exact ⟨g1, hup _ _ _ _ _ _ hD4 g1 (mono _ _ _ _ (e3.trans e4) g2)⟩
    · rw [List.getElem?_append_right (by omega)] at hr
      have hr0 : r - us.length = 0 := by
        cases hz : r - us.length with
        | zero => rfl
        | succ q => rw [hz] at hr; cases hr
      rw [hr0] at hr
      cases hr
      have g1 := hne D _ (e3 _ _ h1)
      rw [show r = i by omega]
      exact ⟨g1, hup _ _ _ _ _ _ hD4 g1 hy⟩
  · obtain ⟨us, e2, h1, h2, h3⟩ := p
    exact k D H' us (fresh_back e1 hD) (e1.trans e2) h1 h2 fun r v hr => (h3 r v hr).2
/-- the same over range(n) -/
theorem lc_madeR {σ : L2.St} {H : Hp} {te ta : TE} {j n : Nat} {vs : List Nat} {Q : VK} {Y : Nat → Hp → V → Prop} (ha : Ev ta σ H (.int (n : Int))) (hz : n ≤ 40000) (hw : ∀ x, wipe ((wipe σ vs).set j (some x)) vs = wipe σ vs)
    (mono : ∀ i v H1 H2, Ex H1 H2 → Y i H1 v → Y i H2 v) (hup : ∀ i v H1 D ys o, H1 D = some (.lst ys) → v ≠ .ref D → Y i H1 v → Y i (upd H1 D o) v)
    (he : ∀ (i : Nat) H1, Ex H H1 → i < n → ∀ Q' : VK, (∀ v H2, Ex H1 H2 → Y i H2 v → (∀ D ys, H1 D = some (.lst ys) → v ≠ .ref D) → Q' v H2) → te ((wipe σ vs).set j (some (.int (i : Int)))) H1 Q')
    (k : ∀ D H1 us, H D = none → Ex H H1 → H1 D = some (.lst us) → us.length = n → (∀ i v, us[i]? = some v → Y i H1 v) → Q (.ref D) H1) :
    tLc (iRng1 (tCons ta tNil)) (gName j) tYes te vs σ H Q := ha H (Ex.refl _) _ fun H1 e1 => by
  refine ⟨(n : Int), rfl, by omega, by omega, fun D hD => ?_⟩
  refine lc_range (lo := 0) (n := (n : Int).toNat) (fun i H' => ∃ us, Ex H1 H' ∧ H' D = some (.lst us) ∧ us.length = i ∧ ∀ r v, us[r]? = some v → v ≠ .ref D ∧ Y r H' v) ⟨[], Ex.new hD, upd_same, rfl, fun r v h => by cases h⟩ (fun i H' hi hh => ?_) (fun H' p => ?_)
  · obtain ⟨us, e2, h1, h2, h3⟩ := hh
    have e0 : (0 : Int) + (i : Int) = (i : Int) := Int.zero_add _
    show wipe ((wipe σ vs).set j (some (.int ((0 : Int) + (i : Int))))) vs = wipe σ vs ∧ te ((wipe σ vs).set j (some (.int ((0 : Int) + (i : Int))))) H' fun y H4 => ∃ acc, H4 D = some (.lst acc) ∧ acc.length < sizeLine ∧ ∃ us, Ex H1 (upd H4 D (.lst (acc ++ [y]))) ∧ (upd H4 D (.lst (acc ++ [y]))) D = some (.lst us) ∧ us.length = i + 1 ∧ ∀ (r : Nat) v, us[r]? = some v → v ≠ .ref D ∧ Y r (upd H4 D (.lst (acc ++ [y]))) v
    rw [e0]
    refine ⟨hw _, he i H' (e1.trans e2) (by omega) _ fun y H4 e4 hy hne => ?_⟩
    have hD4 := e4 _ _ h1
    refine ⟨us, hD4, sz_lt (by omega), us ++ [y], Ex.mut (e2.trans e4) hD, upd_same, by simp [h2], fun r v hr => ?_⟩
    by_cases c : r < us.length
    · rw [List.getElem?_append_left c] at hr
      obtain ⟨g1, g2⟩ := h3 r v hr
      exact ⟨g1, hup _ _ _ _ _ _ hD4 g1 (mono _ _ _ _ e4 g2)⟩
    · rw [List.getElem?_append_right (by omega)] at hr
      have hr0 : r - us.length = 0 := by
        cases hz : r - us.length with
        | zero => rfl
        | succ q => rw [hz] at hr; cases hr
      rw [hr0] at hr
      cases hr
      have g1 := hne D _ h1
      rw [show r = i by omega]
      exact ⟨g1, hup _ _ _ _ _ _ hD4 g1 hy⟩
  · obtain ⟨us, e2, h1, h2, h3⟩ := p
    exact k D H' us (fresh_back e1 hD) (e1.trans e2) h1 (by omega) fun r v hr => (h3 r v hr).2
end Wk

set_option Elab.async false
set_option linter.all false
set_option maxRecDepth 100000
set_option maxHeartbeats 4000000
namespace Wk
open PySem PySem.Spec PyProof.Rows L2 Evl
theorem ret_c1 {sp : Sp} {dvs : List V} {E : XK} {te : TE} {D : Ends} {σ : L2.St} {H : Hp} (h : te σ H fun x H1 => sp (x :: dvs) H1 D.rt E) : tRet (tCall sp dvs E (tCons te tNil)) D σ H := h
theorem FtV.updL {H : Hp} {v : V} {ft : Ft} {D : Addr} {xs : List V} {o : HO} (hD : H D = some (.lst xs)) (h : FtV H v ft) : FtV (upd H D o) v ft := by
  have key : ∀ {t : Addr} {ys : List V}, H t = some (.tup ys) → (upd H D o) t = some (.tup ys) := fun {t ys} ht => by
    rw [upd_ne (fun z => by rw [z, hD] at ht; cases ht)]
    exact ht
  cases ft with
  | out s a k =>
    obtain ⟨t, h1, h2⟩ := h
    exact ⟨t, h1, key h2⟩
  | ring r =>
    obtain ⟨t, u, h1, h2, h3⟩ := h
    exact ⟨t, u, h1, key h2, key h3⟩
theorem FtV.tup {H : Hp} {v : V} {ft : Ft} (h : FtV H v ft) : ∃ t ys, v = .ref t ∧ H t = some (.tup ys) := by
  cases ft with
  | out s a k =>
    obtain ⟨t, h1, h2⟩ := h
    exact ⟨t, _, h1, h2⟩
  | ring r =>
    obtain ⟨t, u, h1, h2, h3⟩ := h
    exact ⟨t, _, h1, h2⟩
theorem FtV.off {H H' : Hp} {v : V} {ft : Ft} {D : Addr} {ys : List V} (e : Ex H H') (h : FtV H' v ft) (hD : H D = some (.lst ys)) : v ≠ .ref D := fun z => by
  obtain ⟨t, zs, h1, h2⟩ := h.tup
  rw [h1] at z
  injection z with z
  rw [z, e _ _ hD] at h2
  cases h2
section
variable {P : Program} {w : World} {K : PySem.W.Frag} {mg : Str → Option Value} {base : Heap} {f : Addr} {fd : FuncData} {CT CF : Addr}
/-! all_fates -/
def spAF (CF CT : Addr) : Sp := fun vs H Q _ => ∃ (x : Addr) (start m : Nat) (ess : List (List Row)) (h : EssOk ess m), vs = [.ref x, .int (start : Int)] ∧ Fl CF CT H x ess ∧ start < ess.length ∧
  ∀ H' D us, H D = none → Ex H H' → H' D = some (.lst us) → us.length = 1024 → (∀ (i : Nat) (v : V), us[i]? = some v → FtV H' v (phi h start i).1) → Q (.ref D) H'
abbrev sAF : Stmt := top 41
abbrev nAF : List Str := ["field", "start", "address"]
theorem scAF : FnScope nAF ["field", "start"] (defScope sAF) := ⟨rfl, rfl, rfl, by decide +kernel, rfl, by decide +kernel, by decide +kernel⟩
theorem ok_af (CA : Cal P w K mg base "addresses" [] 1 spAds) (CFt : Cal P w K mg base "fate" ["field", "start", "address"] 6 (spFate CF CT)) (F : FnP K "all_fates" sAF f fd) : FnOk P w K mg base CX0 7 f fd ["field", "start"] (spAF CF CT) := by
  refine F.ok scAF (fun vs H Q E h => ?_) (fun cdv A outer s H vs Q E hr h => ?_)
  · obtain ⟨x, start, m, ess, h, rfl, _⟩ := h
    rfl
  · obtain ⟨x, start, m, ess, h, rfl, hF, hst, k⟩ := h
    refine ⟨_, pss_one (ps_ret (pe_lc (own := [("address", 2)]) (g := gName 2) (tt := tYes) rfl scAF.nd (pi_listK (K := K) rfl (pe_ads CA hr (by rfl))) (blkOk_by (N := nAF) (sc := defScope sAF) (by decide +kernel))
        (fun _ _ _ _ _ => pg_name (i := 2) scAF.nd rfl (.inl rfl)) (fun _ _ _ _ _ => pts_nil) (fun _ _ _ _ _ => pe_cal CFt hr (by rfl) (pa_cons (pv 0) (pa_cons (pv 1) (pa_cons (pv 2) pa_nil)))))), ?_⟩
    refine lc_made (K := K) (xs := adV 10) (Y := fun i H v => FtV H v (phi h start i).1) (fun Q' q' => ⟨rfl, fun H3 D3 hD3 e3 h3 => q' D3 H3 e3 h3⟩) (by rw [adV_len]; decide) (fun x => rfl) (fun i v H1 H2 e h => h.mono e) (fun i v H1 D ys o hD _ h => h.updL hD)
      (fun i y H1 e1 hy Q' q' => ?_) (fun D H1 us nD e1 hD hl hus => k H1 D us nD e1 hD (by rw [hl, adV_len]) hus)
    have hi : i < 1024 := by have := (List.getElem?_eq_some_iff.mp hy).1; rw [adV_len] at this; exact this
    have ey : y = .str (T (bN 10 i)) := by
      unfold adV at hy
      rw [List.getElem?_map, AD_at 10 i hi] at hy
      exact (Option.some.inj hy).symm
    subst ey
    refine ⟨.ref x, rfl, .int (start : Int), rfl, .str (T (bN 10 i)), rfl, x, start, bN 10 i, ess, nvF ess i, rfl, hF.mono e1, h.eight, nvF_rk h hi, by rw [bN_len]; decide, adr_yes (bN_isB 10 i) (bN_len 10 i), hst, fun H2 v e2 hv => q' v H2 e2 hv fun D ys hD => hv.off e2 hD⟩
/-! fates -/
def phis {ess : List (List Row)} {m : Nat} (h : EssOk ess m) (start : Nat) : List FtS := (List.range 1024).map (phi h start)
theorem phis_at {ess : List (List Row)} {m : Nat} (h : EssOk ess m) (start : Nat) {i : Nat} (hi : i < 1024) : (phis h start)[i]? = some (phi h start i) := by
  unfold phis
  rw [List.getElem?_map, List.getElem?_range hi]
  rfl
theorem ra_of {α : Type} {R : V → α → Prop} : ∀ {us : List V} {as : List α}, us.length = as.length → (∀ (i : Nat) (v : V) (a : α), us[i]? = some v → as[i]? = some a → R v a) → RA R us as
  | [], [], _, _ => .nil
  | [], _ :: _, h, _ => by cases h
  | _ :: _, [], h, _ => by cases h
  | u :: us, a :: as, h, k => .cons (k 0 u a rfl rfl) (ra_of (by simpa using h) fun i v b h1 h2 => k (i + 1) v b h1 h2)
theorem ra_phi {ess : List (List Row)} {m start : Nat} {h : EssOk ess m} {H : Hp} {us : List V} (hl : us.length = 1024) (hus : ∀ i v, us[i]? = some v → FtV H v (phi h start i).1) : RA ((WFt K).R H) us (phis h start) :=
  ra_of (by rw [hl]; unfold phis; rw [List.length_map, List.length_range]) fun i v a h1 h2 => by
    have hi : i < 1024 := by have := (List.getElem?_eq_some_iff.mp h1).1; omega
    rw [phis_at h start hi] at h2
    rw [← Option.some.inj h2]
    exact hus i v h1
def spFts (K : PySem.W.Frag) (CF CT : Addr) : Sp := fun vs H Q _ => ∃ (x : Addr) (start m : Nat) (ess : List (List Row)) (h : EssOk ess m), vs = [.ref x, .int (start : Int)] ∧ Fl CF CT H x ess ∧ start < ess.length ∧
  ∀ H' D rs, H D = none → Ex H H' → H' D = some (.lst rs) → RA (MR1 (WFt K) H') rs (mrg 10 (phis h start) []) → Q (.ref D) H'
abbrev sFts : Stmt := top 42
abbrev nFts : List Str := ["field", "start"]
theorem scFts : FnScope nFts ["field", "start"] (defScope sFts) := ⟨rfl, rfl, rfl, by decide +kernel, rfl, by decide +kernel, by decide +kernel⟩
theorem ok_fts (CM : CalD P w K mg base "merged" ["worths", "ahead"] [V.str ""] 12 (spM (WFt K) 10)) (CA : Cal P w K mg base "all_fates" ["field", "start"] 7 (spAF CF CT)) (F : FnP K "fates" sFts f fd) : FnOk P w K mg base CX0 13 f fd ["field", "start"] (spFts K CF CT) := by
  refine F.ok scFts (fun vs H Q E h => ?_) (fun cdv A outer s H vs Q E hr h => ?_)
  · obtain ⟨x, start, m, ess, h, rfl, _⟩ := h
    rfl
  · obtain ⟨x, start, m, ess, h, rfl, hF, hst, k⟩ := h
    refine ⟨_, pss_one (ps_ret (pe_calD CM hr (by rfl) (pa_cons (pe_cal CA hr (by rfl) (pa_cons (pv 0) (pa_cons (pv 1) pa_nil))) pa_nil))), ?_⟩
    have lit : Str.ofString "" = T [] := by decide +kernel
    refine ret_c1 ?_
    refine ⟨.ref x, rfl, .int (start : Int), rfl, x, start, m, ess, h, rfl, hF, hst, fun H1 D us nD e1 hD hl hus => ?_⟩
    refine ⟨D, us, phis h start, [], by rw [← lit], hD, ra_phi hl hus, by unfold phis; simp, by decide, fun H2 D2 rs n2 e2 h2 hrs => ?_⟩
    exact k H2 D2 rs (fresh_back e1 n2) (e1.trans e2) h2 hrs
end
end Wk

set_option Elab.async false
set_option linter.all false
set_option maxRecDepth 100000
set_option maxHeartbeats 4000000
namespace Wk
open PySem PySem.Spec PyProof.Rows L2 Evl
/-! a comprehension whose first element raises -/
/-- noted in another frame's name: this frame notes it -/
theorem looks_other {M : Model} {A : Around} {E : Value → Shared → Prop} {s : Shared} {Z : Obj → Prop} {base : Heap} {env : Env} {outer : List Env} {L C a : Addr} {Q : Unit → Shared → Prop} (hZ : HandSPX.Steady Z) (hfr : A.frames = some (env :: outer)) (hf : env.frame = some L) (hC : C ≠ L) (x : HandSPX.HeldZ base (env :: outer) a Z C s.heap)
    (hQ : ∀ h', HandSPX.HeldZ base (env :: outer) a Z L h' → s.heap.UpToSlots h' → Q () { s with heap := h' }) : wpAny M A (noteFrame (.ref a) env) Q E s := by
  obtain ⟨x1, x2, x3, ob, vs, T, oT, ts, y1, y2, y3, y4, y5, y6, y7, y8, y9⟩ := x
  unfold noteFrame
  simp only [hf]
  refine wpAny_bind (wpAny_field y1 y3 y4 ?_)
  rw [if_pos (show (Value.ref T != Value.none) = true from by simp)]; refine wpAny_bind (wpAny_field y7 y8 y9 ?_)
  rw [if_neg (show ¬ ((rawInt C == rawInt L) = true) from fun z => hC (Int.ofNat.inj (by simpa [rawInt] using z)))]
  refine wpAny_bind (wpAny_setField y7 y8 (Array.getElem?_eq_some_iff.mp y9).1 ?_)
  have off : ∀ b, b ≠ T → (s.heap.update T (Obj.mapFields (·.setIfInBounds 3 Value.none))).get? b = s.heap.get? b := fun b hb => Heap.get?_update_other _ _ (Ne.symm hb)
  have noT : ∀ b o, s.heap.get? b = some o → (∀ vs, o.data ≠ .fields vs) → b ≠ T := fun b o hb hnf q => hnf ts (by
    rw [q, y7] at hb
    injection hb with hb
    rw [← hb]
    exact y8)
  refine HandSPX.wpAny_entryZ hZ hfr (x3.of_keeps fun b o hb hnf => ⟨o, (off b (noT b o hb hnf)).trans hb, rfl⟩) hf ((off a (Ne.symm y6)).trans y1) (fun b o hbo => (off b fun q => by rw [q, y5] at hbo; cases hbo).trans (x1 b o hbo)) x2 y3 (Array.getElem?_eq_some_iff.mp y4).1 y2 fun h' hN => ?_
  exact hQ h' ⟨hN.1, x2, hN.2.1, hN.2.2.1⟩ fun b o hb hnf => hN.2.2.2 b o ((off b (noT b o hb hnf)).trans hb) hnf
theorem sky_held {M : Model} {A : Around} {E : Value → Shared → Prop} {s : Shared} {Z : Obj → Prop} {base : Heap} {env : Env} {outer : List Env} {L C a : Addr} {Q : Unit → Shared → Prop} (hZ : HandSPX.Steady Z) (hfr : A.frames = some (env :: outer)) (hf : env.frame = some L) (hC : C ≠ L) (x : Sky base (env :: outer) a Z C s.heap)
    (hQ : ∀ h', HandSPX.HeldZ base (env :: outer) a Z L h' → s.heap.UpToSlots h' → Q () { s with heap := h' }) : wpAny M A (noteFrame (.ref a) env) Q E s := by
  rcases x with ⟨i1, i2, i3, ob, vs, i4, i5, i6, i7⟩ | fl | hh
  · exact HandSPX.look_newZ hZ hfr i3 hf i4 i1 i2 i6 i7 i5 hQ
  · exact HandSPX.looks_onZ hZ hfr hf fl hQ
  · exact looks_other hZ hfr hf hC hh hQ
/-- a ground without C -/
theorem held_less {B B' h h2 : Heap} {l : List Env} {a C L : Addr} {Z : Obj → Prop} {m m2 : Str → Option Value} (x : HandSPX.HeldZ B l a Z L h) (hn : h.Ns C m) (hn2 : h2.Ns C m2) (hs : Heap.SameBut C h h2) (g1 : ∀ b, b ≠ C → B'.get? b = B.get? b) (g2 : B'.get? C = none) : HandSPX.HeldZ B' l a Z L h2 := by
  obtain ⟨x1, x2, x3, ob, vs, T, oT, ts, y1, y2, y3, y4, y5, y6, y7, y8, y9⟩ := x
  have sub : ∀ b o, B'.get? b = some o → B.get? b = some o ∧ b ≠ C := fun b o e => by
    by_cases c : b = C
    · rw [c, g2] at e; cases e
    · rw [g1 b c] at e; exact ⟨e, c⟩
  have non : ∀ b, B.get? b = none → B'.get? b = none := fun b e => by
    by_cases c : b = C
    · rw [c]; exact g2
    · rw [g1 b c]; exact e
  have flds : ∀ {b : Addr} {o : Obj} {ws : Array Value}, h.get? b = some o → o.data = .fields ws → b ≠ C := fun {b o ws} e d z => by
    obtain ⟨o', es, ep, h1, h2, _⟩ := hn
    rw [z, h1] at e
    injection e with e
    rw [← e, h2] at d
    cases d
  have a1 := (hs.2 a (flds y1 y3)).trans y1
  have a2 := (hs.2 T (flds y7 y8)).trans y7
  have hfr : h2.FunFrames B l := Heap.FunFrames.sameBut hs hn2 x3
  refine ⟨fun b o e => (hs.2 b (sub b o e).2).trans (x1 b o (sub b o e).1), non a x2, funFrames_none hfr fun b hb => ?_, ob, vs, T, oT, ts, a1, y2, y3, y4, non T y5, y6, a2, y8, y9⟩
  exact non b (x3.mem hb).1
/-- held in the frame of X: in the air of X -/
theorem XE.of_held {X : Cx} {pins : List (Addr × Obj)} {σ : L2.St} {H H' : Hp} {s s' : Shared} {W : WX} {a : Addr} {B : Heap} {cls : Value} {d : Option Addr} {ch : List Addr} (I : Inv X pins σ H s) (hch : ∀ b ∈ ch, FpOk X pins H b) (hd : HandSPX.HeldZ B X.stack a (Zc cls d) X.env.locals s'.heap) (hok : HOk X.prog X.w H' B)
    (keep : ∀ b o, s.heap.get? b = some o → H b = none → b ∉ frs X.stack → b ∉ ch → B.get? b = some o) (slot : ∀ b o, s.heap.get? b = some o → H b = none → b ∈ frs X.stack → b ∉ ch → ∃ sl, s'.heap.get? b = some { o with slots := sl }) (free : ∀ b o, s.heap.get? b = some o → H b = none → b ∉ ch → H' b = none)
    (there : ∀ b o, s.heap.get? b = some o → b ∉ frs X.stack → b ∉ ch → ∃ oo, B.get? b = some oo) (tups : ∀ b xs, H b = some (.tup xs) → H' b = some (.tup xs)) (frzs : ∀ b o xs, H b = some (.frz o xs) → H' b = some (.frz o xs)) (tbls : ∀ b ps, H b = some (.tbl ps) → ∃ more, H' b = some (.tbl (ps ++ more)))
    (na : H' a = none) (os : s'.os = s.os) (ag : AllBare s'.gens) (w : W cls d σ H') : XE X W (.ref a) s' := by
  obtain ⟨Gr, w1, w2⟩ := restrict s'.heap fun b => (B.get? b).isSome || decide (b ∈ frs X.stack)
  have st : B.StaysIn s'.heap := hd.1
  have wB : ∀ b o, B.get? b = some o → Gr.get? b = some o := fun b o e => (w1 b (by simp [e])).trans (st b o e)
  have wF : ∀ b, b ∈ frs X.stack → Gr.get? b = s'.heap.get? b := fun b hbb => w1 b (by simp [hbb])
  have wO : ∀ b o, Gr.get? b = some o → s'.heap.get? b = some o ∧ ((B.get? b).isSome = true ∨ b ∈ frs X.stack) := fun b o e => by
    by_cases qe : ((B.get? b).isSome || decide (b ∈ frs X.stack)) = true
    · rw [w1 b qe] at e; exact ⟨e, by simpa [Bool.or_eq_true] using qe⟩
    · rw [w2 b (by simpa using qe)] at e; cases e
  have J := I.call' (s' := { s with heap := Gr, gens := s'.gens, drawn := s'.drawn, toks := s'.toks }) (H' := H') (ch := ch) rfl ⟨fun b o e n hbb hx => wB b o (keep b o e n hbb hx), fun b o e n hbb hx => by
      obtain ⟨sl, qe⟩ := slot b o e n hbb hx
      exact ⟨sl, by rw [wF b hbb]; exact qe⟩, free, fun b o e hx => by
      by_cases hbb : b ∈ frs X.stack
      · obtain ⟨sl, qe⟩ := slot b o e (I.stkFree b hbb) hbb hx
        exact ⟨_, by rw [wF b hbb]; exact qe⟩
      · obtain ⟨oo, qe⟩ := there b o e hbb hx
        exact ⟨oo, wB b oo qe⟩, tups, frzs, tbls⟩ (hok.kept wB) ag (fun b hbb => ⟨(hch b hbb).2.2.2.1, (hch b hbb).2.1, (hch b hbb).2.2.2.2.1, (hch b hbb).2.2.2.2.2⟩)
  refine ⟨a, B, _, pins, σ, H', cls, d, rfl, J, fun b o e hbb => ?_, Heap.UpToSlots.of_keeps fun b o e => (wO b o e).1, .inr (.inr hd), na, os, ag, w⟩
  obtain ⟨e', h⟩ := wO b o e
  rcases h with h | h
  · obtain ⟨oo, qe⟩ := Option.isSome_iff_exists.mp h
    have z := st b oo qe
    rw [e'] at z
    rw [qe, z]
  · exact absurd h hbb
/-- [e for t in it]: the first element raises -/
def tLcF (wi : TI) (g : TG) (te : TE) (vs : List Nat) : TE := fun σ H _ => wi σ H fun J H1 => ∀ D, H1 D = none → J.go 0 (upd H1 D (.lst [])) ∧ ∀ x H', J.yld 0 (upd H1 D (.lst [])) x H' → g x (wipe σ vs) H' fun σ2 H2 => te σ2 H2 fun _ _ => False

theorem lcf_core {X : Cx} {pins : List (Addr × Obj)} {s : Shared} {σ : L2.St} {H : Hp} {Q : VK} {elt tg iter : Expr} {scope : Scope} {own : List (Str × Nat)} {pos pos' : Pos} {wi : TI} {g : TG} {te : TE} {use : Option (Value → Sem Unit)} {Qf : Value → Shared → Prop} {W : WX}
    (hc : X.calm = true) (hN : X.N.Nodup) (hst : X.stack = X.env :: X.outer) (hfe : X.env.frame = some X.env.locals) (tk : Takes X W) (hW : ∀ cls d σ' H', W cls d σ' H' → W cls d σ H') (I : Inv X pins σ H s) (hi : PI X tg iter wi) (ok : BlkOk X.N X.env.scope scope own)
    (hg : ∀ (s : Shared) (H : Hp) (C : Addr) (cl : List (Str × Addr)) (fq : List Addr), PG (X.blk s H scope (compEnvC scope cl C X.env) fq) tg g)
    (he : ∀ (s : Shared) (H : Hp) (C : Addr) (cl : List (Str × Addr)) (fq : List Addr) (pn : List (Addr × Obj)) (xe : Value → Shared → Prop), Takes ((X.blk s H scope (compEnvC scope cl C X.env) fq).tr pn xe) W → PE ((X.blk s H scope (compEnvC scope cl C X.env) fq).tr pn xe) elt te)
    (hs : ∀ x, foldedSetIterable iter X.env x = pure x) (h : tLcF wi g te (own.map (·.2)) σ H Q) :
    wpAny (model X.prog X.w) X.A (comprehension (.ListComp elt [⟨tg, iter, [], 0⟩] scope pos) scope X.env pos' (newList []) false (eval iter X.env) use) Qf X.xe s := by
  have free1 : ∀ y ∈ scope.names, y.2 = .free → ∃ c, X.env.cells.lookup y.1 = some c := fun y hy e => (ok.free y hy e).elim (fun k => I.ok.has _ (.inl k)) fun k => I.ok.has _ (.inr k)
  have hfr : X.A.frames = some (X.env :: X.outer) := by rw [I.ok.frames, hst]
  refine comprehension_at (use := use) rfl hs (closure_ok free1) ok.kind (fun y hy e => (ok.uniq y hy).trans (by rw [e])) (thn (hi.run pins s σ H _ I h) fun xv s1 hx => thn hx fun itv r2 h2 => ?_)
  obtain ⟨it, fq, tq, J, G2, e, U2, Tu, sq2, fk2, q⟩ := h2; subst e
  refine wpAny_newObj_type (newEnv_comp ?_) (show 0 ≤ sizeLine by decide)
  obtain ⟨Lz, hLz⟩ : ∃ Lz, r2.heap.objs.size = Lz := ⟨_, rfl⟩
  rw [hLz]
  have hLn : G2 Lz = none := U2.hok.fresh (Nat.le_of_eq hLz)
  obtain ⟨go, step⟩ := q Lz hLn
  obtain ⟨r3, hs3⟩ : ∃ r3 : Shared, r3 = { r2 with heap := r2.heap.push { cls := .type "list", data := .seq ([] : List Value).toArray } } := ⟨_, rfl⟩
  have hr3 : r3.heap = r2.heap.push { cls := .type "list", data := .seq ([] : List Value).toArray } := by rw [hs3]
  have U3 : Inv X pins σ (upd G2 Lz (.lst [])) r3 := by
    rw [hs3]
    refine U2.laid (t' := r2.toks) (fun b o e => Heap.get?_push_of_some _ e) (Nat.le_of_eq hLz) ⟨Nat.zero_le _, [], 0, .nil, ?_⟩
    rw [← hLz]; exact Heap.get?_push_size _ rfl
  have fk3 : ∀ b ∈ fq, FpOk X pins (upd G2 Lz (.lst [])) b ∧ b < r3.heap.objs.size := fun b hb => by
    obtain ⟨o, e, _⟩ := Tu.obj _ _ sq2 b hb
    have hlt := Heap.lt_size e
    refine ⟨⟨?_, (fk2 b hb).2⟩, by rw [hr3, Heap.size_push]; exact Nat.lt_succ_of_lt hlt⟩
    rw [upd_ne (by rw [← hLz]; exact Nat.ne_of_lt hlt)]; exact (fk2 b hb).1
  have sq3 : tq 0 r3.heap := Tu.keep _ _ _ sq2 fun b _ o e => by rw [hr3]; exact Heap.get?_push_of_some _ e
  have U4 := block_start U3 ok hN fk3
  have pgo := hg r3 (upd G2 Lz (.lst [])) r3.heap.objs.size (cellsFrom (r3.heap.objs.size + 1) scope.names (cloFrom X.env.cells scope.names [])) fq
  have pel := he r3 (upd G2 Lz (.lst [])) r3.heap.objs.size (cellsFrom (r3.heap.objs.size + 1) scope.names (cloFrom X.env.cells scope.names [])) fq
  rw [← hs3]
  show codeAny _ _ (.compStart (.ListComp elt [⟨tg, iter, [], 0⟩] scope pos) 0 (.ref it) (.ref Lz) (compEnvC scope (cellsFrom (r3.heap.objs.size + 1) scope.names (cloFrom X.env.cells scope.names [])) r3.heap.objs.size X.env)) (compEnds (model X.prog X.w) X.A X.xe use Qf (.ref Lz) (compEnvC scope (cellsFrom (r3.heap.objs.size + 1) scope.names (cloFrom X.env.cells scope.names [])) r3.heap.objs.size X.env)) { r3 with heap := pushCells (r3.heap.push { cls := .type "dict", data := .dict #[] }) scope.names }
  have nfq : ∀ b ∈ fq, (upd G2 Lz (.lst [])) b = none := fun b hb => (fk3 b hb).1.1
  generalize hen : compEnvC scope (cellsFrom (r3.heap.objs.size + 1) scope.names (cloFrom X.env.cells scope.names [])) r3.heap.objs.size X.env = en at U4 pgo pel ⊢
  have cLo : en.locals = r3.heap.objs.size := by subst hen; rfl
  have cF : en.frame = X.env.frame := by subst hen; rfl
  generalize hH3 : upd G2 Lz (.lst []) = G3 at U3 U4 pgo pel nfq fk3 go step
  obtain ⟨r4, hs4⟩ : ∃ r4 : Shared, r4 = { r3 with heap := pushCells (r3.heap.push { cls := .type "dict", data := .dict #[] }) scope.names } := ⟨_, rfl⟩
  rw [← hs4] at U4 ⊢
  have sq4 : tq 0 r4.heap := Tu.keep _ _ _ sq3 fun b _ o e => by rw [hs4]; exact pushCells_keeps _ _ _ _ (Heap.get?_push_of_some _ e)
  have stq : ∀ {σ' : L2.St} {H' : Hp} {s' : Shared}, Inv (X.blk r3 G3 scope en fq) [] σ' H' s' → (∀ b ∈ fq, H' b = none) → ∀ b ∈ fq, FpOk (X.blk r3 G3 scope en fq) [] H' b := fun {σ' H' s'} I' hn b hb =>
    ⟨hn b hb, (I'.ok.exf b hb).1, I'.ok.exfs b hb, .inl hb, (fun x c e => (I'.ok.exf b hb).2 x c e), fun p hp => absurd (show p ∈ ([] : List (Addr × Obj)) ++ [] from hp) (by simp)⟩
  have hCL : en.locals ≠ X.env.locals := by
    rw [cLo]
    exact Ne.symm (Nat.ne_of_lt U3.lt)
  -- what leaves the element
  have out : ∀ pn', Takes ((X.blk r3 G3 scope en fq).tr pn' (notedBy (model X.prog X.w) X.A en fun e s' => compEnds (model X.prog X.w) X.A X.xe use Qf (.ref Lz) en (.error e) s')) W := by
    rintro pn' u s' ⟨a, B, sI, pins', σ', H', cls, d, rfl, J', nb, up, sky, na, os, ag, w⟩
    show wpAny (model X.prog X.w) X.A (noteFrame (.ref a) en) _ _ s'
    have sky' : Sky B (X.env :: X.outer) a (Zc cls d) en.locals s'.heap := by rw [← hst]; exact sky
    rw [noteFrame_env (env := X.env) _ cF]
    refine sky_held Zc.steady hfr hfe hCL sky' fun h1 hh1 up1 => ?_
    obtain ⟨m0, ⟨oC, es, ep, hoC, hdC⟩, _⟩ := J'.loc
    have Cfs : en.locals ∉ frs X.stack := fun z => by
      obtain ⟨_, o, ho, _⟩ := U3.stack.mem z
      have := Heap.lt_size ho
      rw [cLo] at this
      exact Nat.lt_irrefl _ this
    have hn1 : h1.Ns en.locals m0 := ⟨oC, es, ep, hh1.1 _ _ (nb _ _ hoC Cfs), hdC⟩
    refine ⟨m0, hn1, fun h2 m2 hn2 hsb => ?_⟩
    obtain ⟨B', g1, g2⟩ := restrict B fun b => decide (b ≠ en.locals)
    have hh2 : HandSPX.HeldZ B' (X.env :: X.outer) a (Zc cls d) X.env.locals h2 := held_less hh1 hn1 hn2 hsb (fun b hb => g1 b (by simpa using hb)) (g2 _ (by simp))
    have fino : wpAny (model X.prog X.w) X.A (setFlight (.ref a) en.frame) (fun _ r4 => wpAny (model X.prog X.w) X.A (throw (.ref a) : Sem Value) (fun _ _ => False) X.xe r4) X.xe { s' with heap := h2 } := by
      rw [cF, hfe]
      refine HandSPX.setFlight_onZ hh2 fun h4 hh4 up4 => wpAny_throw (tk _ _ ?_)
      have b0 : ∀ b o, r3.heap.get? b = some o → b ≠ en.locals := fun b o e z => by
        have := Heap.lt_size e
        rw [z, cLo] at this
        exact Nat.lt_irrefl _ this
      have hokB : HOk X.prog X.w H' B' := fun b o e => (J'.inGround nb b o e).stay (fun c u hc' r => (g1 c (by
          rw [decide_eq_true_iff]
          intro z
          have nC := J'.free
          rw [show ((X.blk r3 G3 scope en fq).tr pn' _).env.locals = en.locals from rfl, ← z] at nC
          rcases hc' with z2 | z2
          · rw [z2, e] at nC; cases nC
          · rw [nC] at z2; cases z2)).trans r) (fun _ r => r) fun _ _ r => r
      refine XE.of_held (s := r3) (H := G3) (ch := fq) U3 (fun b hb => (fk3 b hb).1) (by rw [hst]; exact hh4) hokB (fun b o e n hb hx => ?_) (fun b o e n hb hx => ?_) (fun b o e n hx => J'.base.free b o e n hx) (fun b o e hb hx => ?_) J'.base.tups J'.base.frzs J'.base.tbls na (os.trans J'.os) ag (hW _ _ _ _ w)
      · rw [g1 b (by simpa using b0 b o e)]
        exact nb b o (J'.base.keep b o e n hb hx) hb
      · obtain ⟨_, o', e', hnfl⟩ := U3.stack.mem hb
        rw [e] at e'; cases e'
        obtain ⟨sl, e1⟩ := J'.base.slot b o e n hb hx
        obtain ⟨sl_2, e2⟩ := up b _ e1 hnfl
        obtain ⟨sl3, e3⟩ := up1 b _ e2 hnfl
        have e3' : h2.get? b = some { o with slots := sl3 } := (hsb.2 b (b0 b o e)).trans e3
        obtain ⟨sl4, e4⟩ := up4 b _ e3' hnfl
        exact ⟨sl4, e4⟩
      · obtain ⟨o', e1⟩ := J'.base.there b o e hx
        exact ⟨o', (g1 b (by simpa using b0 b o e)).trans (nb b o' e1 hb)⟩
    obtain ⟨k1, k2, k3, oe, vs, Tv, oT, ts', z1, z2, z3, z4, z5⟩ := id hh2
    unfold PySem.passOn
    refine wpAny_bind (wpAny_field z1 z3 z4 ?_)
    rw [if_neg (show ¬ ((Value.ref Tv == Value.none) = true) from by simp)]
    first
      | exact wpAny_bind (wpAny_pure (wpAny_bind fino)) | exact wpAny_bind fino
  have lpo : codeAny (model X.prog X.w) X.A (.compLoop (.ListComp elt [⟨tg, iter, [], 0⟩] scope pos) 0 (.ref it) (.ref Lz) en) (compEnds (model X.prog X.w) X.A X.xe use Qf (.ref Lz) en) r4 := by
    refine compLoop_any (fun n s' => s' = r4) ?_ 0 rfl
    rintro n s5 rfl
    have ti := Tu.item (X.blk r3 G3 scope en fq) rfl rfl rfl hc 0 [] _ _ G3 (fun _ _ => False) U4 (stq U4 nfq) sq4 go
    refine thnF ti fun r r6 ⟨u, hr, k6⟩ => ?_; subst hr
    refine thnF k6 fun _ r7 ⟨x, G7, U7, q7, yd7, sq7, nq7⟩ => ?_
    have U7b := U7.pinned (stq U7 nq7) (Tu.obj _ _ sq7)
    refine thnF (pgo.run _ r7 _ G7 x u _ U7b q7 (step x G7 yd7)) fun _ s8 ⟨σ8, H8, I8, q8⟩ => ?_
    refine wpAny_tests_nil ?_
    rw [if_pos rfl]
    exact wpAny_mono ((pel _ _ (out _)).run [] s8 σ8 H8 _ (I8.toTry _) q8) (fun z s10 ⟨yv, H10, I10, r10, hF⟩ => False.elim hF) fun _ _ z => z
  exact codeAny_compStart_list lpo (Tu.self X.A 0 _ _ _ sq4 lpo)
theorem pe_lcF {X : Cx} {elt tg iter : Expr} {scope : Scope} {own : List (Str × Nat)} {pos : Pos} {wi : TI} {g : TG} {te : TE} {Eo : XK} (hc : X.calm = true) (hN : X.N.Nodup) (hst : X.stack = X.env :: X.outer) (hfe : X.env.frame = some X.env.locals) (tk : Takes X fun cls d _ H => Eo cls d H) (hi : PI X tg iter wi) (ok : BlkOk X.N X.env.scope scope own)
    (hg : ∀ (s : Shared) (H : Hp) (C : Addr) (cl : List (Str × Addr)) (fp : List Addr), PG (X.blk s H scope (compEnvC scope cl C X.env) fp) tg g)
    (he : ∀ (s : Shared) (H : Hp) (C : Addr) (cl : List (Str × Addr)) (fp : List Addr) (pn : List (Addr × Obj)) (xe : Value → Shared → Prop), Takes ((X.blk s H scope (compEnvC scope cl C X.env) fp).tr pn xe) (fun cls d _ H => Eo cls d H) → PE ((X.blk s H scope (compEnvC scope cl C X.env) fp).tr pn xe) elt te)
    (hs : ∀ x, foldedSetIterable iter X.env x = pure x := by intro _; rfl) : PE X (.ListComp elt [⟨tg, iter, [], 0⟩] scope pos) (tLcF wi g te (own.map (·.2))) := by
  constructor; intro pins s σ H Q I h; rw [eval_ListComp]
  exact lcf_core (W := fun cls d _ H => Eo cls d H) hc hN hst hfe tk (fun _ _ _ _ h => h) I hi ok hg he hs h
end Wk

set_option Elab.async false
set_option linter.all false
set_option maxRecDepth 100000
set_option maxHeartbeats 4000000
namespace Wk
open PySem PySem.Spec PyProof.Rows L2 Evl
/-! a promise that holds in either way; a promise without a raise -/
theorem fnOk_or {P : Program} {w : World} {K : PySem.W.Frag} {mg : Str → Option Value} {base : Heap} {CX : CXT} {k : Nat} {f : Addr} {fd : FuncData} {ps : List Str} {s1 s2 : Sp} (F1 : FnOk P w K mg base CX k f fd ps s1) (F2 : FnOk P w K mg base CX k f fd ps s2) :
    FnOk P w K mg base CX k f fd ps (fun vs H Q E => s1 vs H Q E ∨ s2 vs H Q E) :=
  ⟨fun vs H Q E h => h.elim (F1.len vs H Q E) (F2.len vs H Q E), fun A outer s H args us vs Q E hr he hb hv h => h.elim (F1.run A outer s H args us vs Q E hr he hb hv) (F2.run A outer s H args us vs Q E hr he hb hv)⟩
theorem fnOk_up {P : Program} {w : World} {K : PySem.W.Frag} {mg : Str → Option Value} {base : Heap} {CX : CXT} {k : Nat} {f : Addr} {fd : FuncData} {ps : List Str} {sp : Sp} (F : FnOk P w K mg base CX0 k f fd ps sp) : FnOk P w K mg base CX k f fd ps sp :=
  ⟨F.len, fun A outer s H args us vs Q E hr he hb hv h => codeAny_mono (F.run A outer s H args us vs Q E hr he hb hv h) fun r s' z => by
    cases r with
    | ok v => cases v with
      | ret u => exact z
      | next => exact z.elim
      | brk => exact z.elim
      | cont => exact z.elim
    | error e => exact z.elim⟩
/-- a NoRouter with this very thing leaves -/
def XRt (E : XK) (CN : Addr) (v : V) (H : Hp) : Prop := ∀ dx H', H dx = none → Ex H H' → H' dx = some (.xd [("router", v)]) → E (.ref CN) (some dx) H'
theorem XRt.mono {E : XK} {CN : Addr} {v : V} {H H' : Hp} (e : Ex H H') (h : XRt E CN v H) : XRt E CN v H' := fun dx H2 h0 e2 hx => h dx H2 (fresh_back e h0) (e.trans e2) hx
section
variable {P : Program} {w : World} {K : PySem.W.Frag} {mg : Str → Option Value} {base : Heap} {f : Addr} {fd : FuncData} {CT CF CN CA : Addr}
/-! refuse_no_router of any datum -/
def spRNRx (CN : Addr) : Sp := fun vs H Q E => ∃ (n : Nat) (v : V) (d : PyData), vs = [.int (n : Int), v] ∧ Dq H v d ∧ (isR (n : Int) d = true → ∀ H', Ex H H' → Q .non H') ∧ (isR (n : Int) d = false → XRt E CN v H)
theorem ok_rnrx (T : ErrF P w K mg base "NoRouter" CN "router") (CR : Cal P w K mg base "is_router" ["size", "thing"] 3 spRouter) (F : FnP K "refuse_no_router" sRNR f fd) : FnOk P w K mg base (L2.CX P w) 4 f fd ["size", "thing"] (spRNRx CN) := by
  refine F.ok scRNR (fun vs H Q E h => ?_) (fun cdv A outer s H vs Q E hr h => ?_)
  · obtain ⟨n, v, d, rfl, _⟩ := h
    rfl
  · obtain ⟨n, v, d, rfl, hd, kQ, kE⟩ := h
    refine ⟨_, pss_one (ps_if (pt_not (pt_val (pe_cal CR hr (by rfl) (pa_cons (pv 0) (pa_cons (pv 1) pa_nil))))) (pss_one (ps_raise rfl (takes_of rfl rfl rfl rfl) (pmk_errF T (hr.mono (by decide)) (by rfl) (pa_cons (pv 1) pa_nil)))) pss_nil), ?_⟩
    have c2 : Ev (tCall spRouter [] E0 (tCons (tVar 0) (tCons (tVar 1) tNil))) (start ["size", "thing"] [.int (n : Int), v]) H (.bl (isR (n : Int) d)) := ev_call (ea_cons (ev_var rfl) (ea_cons (ev_var rfl) ea_nil)) (spP_v fun H1 e => ⟨(n : Int), v, d, rfl, hd.mono e, rfl⟩)
    refine s_when (b := !isR (n : Int) d) (et_not (et_B c2)) (fun hb H1 e1 => ?_) fun hb H1 e1 => kQ (by simpa using hb) H1 e1
    exact mk_errF (ev_var rfl) fun dx H' h0 e' hx => kE (by simpa using hb) dx H' (fresh_back e1 h0) (e1.trans e') hx
/-! Field.table of any datum -/
def spTabx (CF CT CN : Addr) : Sp := fun vs H Q E => ∃ (x : Addr) (v : V) (d : PyData) (ess : List (List Row)), vs = [.ref x, v] ∧ Fl CF CT H x ess ∧ Dq H v d ∧
  ((∃ (r : Nat) (es : List Row), v = .int (r : Int) ∧ d = .int (r : Int) ∧ ess[r]? = some es ∧ ∀ H' t, Ex H H' → Tb CT H' t es → Q (.ref t) H') ∨ (isR (ess.length : Int) d = false ∧ XRt E CN v H))
theorem ok_tabx (X : FXc K CF) (CR : CalX P w K mg base "refuse_no_router" ["size", "thing"] 4 (spRNRx CN)) (F : FnM K "table" "Field.table" sTab f fd) : FnOk P w K mg base (L2.CX P w) 5 f fd ["self", "router"] (spTabx CF CT CN) := by
  obtain ⟨fR, fdR, FR, gR, kR, bR⟩ := CR.ex
  refine F.ok scTab (fun vs H Q E h => ?_) (fun cdv A outer s H vs Q E hr h => ?_)
  · obtain ⟨x, v, d, ess, rfl, _⟩ := h
    rfl
  · obtain ⟨x, v, d, ess, rfl, hF, hd, hv⟩ := h
    refine ⟨_, pss_cons (ps_expr (pe_call FR (hr.mono (by decide)) (by rfl) gR kR bR .nil (passes_call (takes_of rfl rfl rfl rfl) (fun _ _ _ _ h => h)) (pa_cons (pe_fld (pv 0) rfl) (pa_cons (pv 1) pa_nil))))
      (pss_one (ps_ret (pe_ix ix_tup (pe_fld (pv 0) rfl) (pv 1) (fun _ _ => rfl)))), ?_⟩
    obtain ⟨dx, fs, t, ts, h1, h2, h3, h4, h5, h6⟩ := hF
    have hul := h6.length
    refine ⟨.ref x, rfl, x, CF, dx, fs, _, rfl, h1, X.cl, X.nS, h2, v, rfl, ess.length, v, d, rfl, hd, fun hR H1 e1 => ?_, fun hR => ?_⟩
    · rcases hv with ⟨r, es, rfl, rfl, hes, k⟩ | ⟨hno, _⟩
      · have hrt : r < ts.length := by have := (List.getElem?_eq_some_iff.mp hes).1; omega
        obtain ⟨a, es2, ha, hes2, hT⟩ := h6.at_ (List.getElem?_eq_getElem hrt)
        rw [hes] at hes2
        cases hes2
        refine ⟨.ref x, rfl, x, CF, dx, fs, _, rfl, e1 _ _ h1, X.cl, X.nT, h3, .int (r : Int), rfl, t, ts, (r : Int), ts[r], rfl, rfl, st_of (e1 _ _ h5), atI_nat (List.getElem?_eq_getElem hrt), ?_⟩
        rw [ha]
        exact k H1 a e1 (hT.mono e1)
      · rw [hR] at hno; cases hno
    · rcases hv with ⟨r, es, rfl, rfl, hes, k⟩ | ⟨_, k⟩
      · rw [isR_yes (List.getElem?_eq_some_iff.mp hes).1] at hR; cases hR
      · exact k
/-! fate that refuses -/
def OdA (K : PySem.W.Frag) (H : Hp) (v : V) : Prop := (∃ l, v = .str (T l) ∧ l.length ≤ 100 ∧ adrB l = false) ∨ NSt K H v
theorem OdA.mono {H H' : Hp} {v : V} (e : Ex H H') (h : OdA K H v) : OdA K H' v := h.imp id (NSt.mono e)
def spFatex (K : PySem.W.Frag) (CF CT CN CA : Addr) : Sp := fun vs H Q E => ∃ (x : Addr) (v u : V) (d : PyData) (ess : List (List Row)), vs = [.ref x, v, u] ∧ Fl CF CT H x ess ∧ Dq H v d ∧
  ((isR (ess.length : Int) d = false ∧ XRt E CN v H) ∨ (∃ r : Nat, v = .int (r : Int) ∧ d = .int (r : Int) ∧ r < ess.length ∧ OdA K H u ∧ ∀ H', Ex H H' → E (.ref CA) none H'))
theorem ok_fatex (XT : TX K CT) (XF : FXc K CF) (MT : MskX P w K mg base CF "table" ["self", "router"] 5 (spTabx CF CT CN)) (MO : MskX P w K mg base CT "onward" ["self", "address"] 3 (spOnw K CT CA)) (F : FnP K "fate" sFate f fd) : FnOk P w K mg base (L2.CX P w) 6 f fd ["field", "start", "address"] (spFatex K CF CT CN CA) := by
  obtain ⟨f1, fd1, me1, F1, b1⟩ := MT.ex
  obtain ⟨f2, fd2, me2, F2, b2⟩ := MO.ex
  refine F.ok scFate (fun vs H Q E h => ?_) (fun cdv A outer s H vs Q E hr h => ?_)
  · obtain ⟨x, v, u, d, ess, rfl, _⟩ := h
    rfl
  · obtain ⟨x, v, u, d, ess, rfl, hF, hd, hv⟩ := h
    refine ⟨_, pss_cons (ps_set (i := 3) scFate.nd rfl (Or.inl rfl) (pe_meth (pe_meth (pv 0) XF.cl me1 F1 (hr.mono (by decide)) b1 .nil (passes_call (takes_of rfl rfl rfl rfl) (fun _ _ _ _ h => h)) (pa_cons (pv 1) pa_nil)) XT.ic.cl me2 F2 (hr.mono (by decide)) b2 .nil (passes_call (takes_of rfl rfl rfl rfl) (fun _ _ _ _ h => h)) (pa_cons (pv 2) pa_nil)))
      (pss_cons ps_never (pss_cons ps_never (pss_one ps_never))), ?_⟩
    obtain ⟨dx, fs, t, ts, h1, h2, h3, h4, h5, h6⟩ := id hF
    refine ⟨.ref x, rfl, x, dx, fs, rfl, h1, h4, v, rfl, x, v, d, ess, rfl, hF, hd, ?_⟩
    rcases hv with ⟨hR, k⟩ | ⟨r, rfl, rfl, hr, hu, k⟩
    · exact .inr ⟨hR, k⟩
    · refine .inl ⟨r, ess[r], rfl, rfl, List.getElem?_eq_getElem hr, fun H1 t1 e1 hT => ?_⟩
      obtain ⟨dy, gs, te, nd, us', es', j1, j2, j3, j4, j5⟩ := id hT
      exact ⟨t1, dy, gs, rfl, j1, j4, u, rfl, t1, u, _, rfl, hT, .inr ⟨hu.mono e1, fun H2 e2 => k H2 (e1.trans e2)⟩⟩
/-! all_fates and fates that refuse -/
def spAFx (CF CT CN : Addr) : Sp := fun vs H Q E => ∃ (x : Addr) (v : V) (d : PyData) (ess : List (List Row)), vs = [.ref x, v] ∧ Fl CF CT H x ess ∧ Dq H v d ∧ isR (ess.length : Int) d = false ∧ XRt E CN v H
theorem ok_afx (CA' : Cal P w K mg base "addresses" [] 1 spAds) (CFt : CalX P w K mg base "fate" ["field", "start", "address"] 6 (spFatex K CF CT CN CA)) (F : FnP K "all_fates" sAF f fd) : FnOk P w K mg base (L2.CX P w) 7 f fd ["field", "start"] (spAFx CF CT CN) := by
  obtain ⟨fR, fdR, FR, gR, kR, bR⟩ := CFt.ex
  refine F.ok scAF (fun vs H Q E h => ?_) (fun cdv A outer s H vs Q E hr h => ?_)
  · obtain ⟨x, v, d, ess, rfl, _⟩ := h
    rfl
  · obtain ⟨x, v, d, ess, rfl, hF, hd, hR, k⟩ := h
    refine ⟨_, pss_one (ps_ret (pe_lcF (Eo := E) (own := [("address", 2)]) (g := gName 2) rfl scAF.nd rfl rfl (takes_of rfl rfl rfl rfl) (pi_listK (K := K) rfl (pe_ads CA' hr (by rfl))) (blkOk_by (N := nAF) (sc := defScope sAF) (by decide +kernel))
        (fun _ _ _ _ _ => pg_name (i := 2) scAF.nd rfl (.inl rfl)) (fun _ _ _ _ _ _ _ tk => pe_call FR (hr.mono (by decide)) (by rfl) gR kR bR .nil (passes_call tk (fun _ _ _ _ h => h)) (pa_cons (pv 0) (pa_cons (pv 1) (pa_cons (pv 2) pa_nil)))))), ?_⟩
    refine ⟨rfl, fun H1 a n1 e1 h1 => ?_⟩
    refine ⟨a, rfl, ⟨adV 10, sq_of h1⟩, fun D hD => ?_⟩
    have e2 := Ex.new (o := .lst []) hD
    have h2 := e2 _ _ h1
    have hl : 0 < (adV 10).length := by rw [adV_len]; decide
    refine ⟨⟨_, (adV 10)[0], sq_of h2, List.getElem?_eq_getElem hl⟩, fun y H3 hy => ?_⟩
    obtain ⟨rfl, _⟩ := hy
    refine ⟨.ref x, rfl, v, rfl, y, rfl, x, v, y, d, ess, rfl, hF.mono (e1.trans e2), hd.mono (e1.trans e2), .inl ⟨hR, k.mono (e1.trans e2)⟩⟩
def spFtsx (CF CT CN : Addr) : Sp := spAFx CF CT CN
theorem ok_ftsx (CM : CalD P w K mg base "merged" ["worths", "ahead"] [V.str ""] 12 (spM (WFt K) 10)) (CR : CalX P w K mg base "all_fates" ["field", "start"] 7 (spAFx CF CT CN)) (F : FnP K "fates" sFts f fd) : FnOk P w K mg base (L2.CX P w) 13 f fd ["field", "start"] (spFtsx CF CT CN) := by
  obtain ⟨fR, fdR, FR, gR, kR, bR⟩ := CR.ex
  refine F.ok scFts (fun vs H Q E h => ?_) (fun cdv A outer s H vs Q E hr h => ?_)
  · obtain ⟨x, v, d, ess, rfl, _⟩ := h
    rfl
  · obtain ⟨x, v, d, ess, rfl, hF, hd, hR, k⟩ := h
    refine ⟨_, pss_one (ps_ret (pe_calD CM hr (by rfl) (pa_cons (pe_call FR (hr.mono (by decide)) (by rfl) gR kR bR .nil (passes_call (takes_of rfl rfl rfl rfl) (fun _ _ _ _ h => h)) (pa_cons (pv 0) (pa_cons (pv 1) pa_nil))) pa_nil))), ?_⟩
    exact ret_c1 ⟨.ref x, rfl, v, rfl, x, v, d, ess, rfl, hF, hd, hR, k⟩
end
end Wk

set_option Elab.async false
set_option linter.all false
set_option maxRecDepth 100000
set_option maxHeartbeats 4000000
namespace Wk
open PySem PySem.Spec PyProof.Rows L2 Evl
/-! isinstance of an own class, whatever is laid -/
def IsC (K : PySem.W.Frag) (H : Hp) (v : V) (C : Addr) (b : Bool) : Prop := ∀ H', Ex H H' → ∃ t, TyX K H' v t ∧ PySem.W.kitOne K t (.ref C) = some b
theorem IsC.mono {K : PySem.W.Frag} {H H' : Hp} {v : V} {C : Addr} {b : Bool} (e : Ex H H') (h : IsC K H v C b) : IsC K H' v C b := fun H2 e2 => h H2 (e.trans e2)
theorem ev_isc {K : PySem.W.Frag} {σ : L2.St} {H : Hp} {ta : TE} {v : V} {C : Addr} {b : Bool} (h : Ev ta σ H v) (hk : IsC K H v C b) : Ev (tCB (rIsi K) (tCons ta (tCons (tC (.ref C)) tNil))) σ H (.bl b) := fun H1 e Q q =>
  h H1 e _ fun H2 e2 => by
    obtain ⟨t, ht, hb⟩ := hk H2 (e.trans e2)
    exact ⟨v, .ref C, t, .ref C, b, rfl, .own C, ht, hb, q H2 e2⟩
theorem isc_ins {K : PySem.W.Frag} {CT : Addr} {H : Hp} {a dx : Addr} {fs : List (Str × V)} (X : TX K CT) (hTT : PySem.W.kitOne K (.ref CT) (.ref CT) = some true) (h : H a = some (.ins CT dx fs)) : IsC K H (.ref a) CT true := fun H' e => ⟨_, .base (.ins (e _ _ h) X.ic.cl X.ic.ha X.ic.hn X.ic.htk X.ic.hm), hTT⟩
/-! items of a row of tables -/
def onB (n : Nat) : V → Bool
  | .str _ => true
  | .int i => isR (n : Int) (.int i)
  | _ => false
def TbI (K : PySem.W.Frag) (CT : Addr) (H : Hp) (v : V) : Option (List Row) → Prop
  | some es => ∃ x, v = .ref x ∧ Tb CT H x es ∧ (∀ e ∈ es, NxV e.2) ∧ es.length ≤ 100
  | none => IsC K H v CT false
theorem TbI.mono {K : PySem.W.Frag} {CT : Addr} {H H' : Hp} {v : V} (e : Ex H H') : ∀ {o : Option (List Row)}, TbI K CT H v o → TbI K CT H' v o
  | some _, ⟨x, h1, h2, h3⟩ => ⟨x, h1, h2.mono e, h3⟩
  | none, h => IsC.mono e h
def okTb (n : Nat) : Option (List Row) → Bool
  | some es => es.all fun e => onB n e.2
  | none => false
def fT (n : Nat) : Nat → List (Option (List Row)) → Option Nat
  | _, [] => none
  | i, o :: r => if okTb n o = true then fT n (i + 1) r else some i
theorem on_way {n : Nat} {v : V} (h : NxV v) : onB n v = true ↔ WayN n v := by
  rcases h with rfl | rfl | ⟨i, _, rfl⟩
  · exact ⟨fun _ => .inl rfl, fun _ => rfl⟩
  · exact ⟨fun _ => .inr (.inl rfl), fun _ => rfl⟩
  · constructor
    · intro h
      have h : isR (n : Int) (.int (i : Int)) = true := h
      unfold isR at h
      have h2 := of_decide_eq_true (Bool.and_eq_true_iff.mp (Bool.and_eq_true_iff.mp h).2).2
      have h3 : (i : Int) ≤ (n : Int) - 1 := h2
      exact .inr (.inr ⟨i, by omega, rfl⟩)
    · rintro (h | h | ⟨j, hj, h⟩)
      · cases h
      · cases h
      · injection h with h
        have : i = j := by omega
        subst this
        exact isR_yes hj
theorem fT_none {K : PySem.W.Frag} {CT : Addr} {H : Hp} {n : Nat} : ∀ {us : List V} {os : List (Option (List Row))} {i : Nat}, RA (TbI K CT H) us os → fT n i os = none → ∃ ess, TsT CT H us ess ∧ (∀ es ∈ ess, ∀ e ∈ es, WayN n e.2) ∧ ∀ es ∈ ess, es.length ≤ 100
  | _, _, _, .nil, _ => ⟨[], .nil, (fun _ h => by cases h), fun _ h => by cases h⟩
  | _, _, i, .cons (a := o) h t, hf => by
    unfold fT at hf
    by_cases c : okTb n o = true
    · rw [if_pos c] at hf
      obtain ⟨ess, h1, h2, h3⟩ := fT_none t hf
      cases o with
      | none => cases c
      | some es =>
        obtain ⟨x, rfl, hT, hn, hl⟩ := h
        refine ⟨es :: ess, .cons hT h1, fun z hz => ?_, fun z hz => (List.mem_cons.mp hz).elim (fun q => by rw [q]; exact hl) (h3 z)⟩
        rcases List.mem_cons.mp hz with rfl | hz
        · exact fun e he => (on_way (hn e he)).mp (List.all_eq_true.mp c e he)
        · exact h2 z hz
    · rw [if_neg c] at hf; cases hf
/-- a thing that is asked to be the tables of a field, and its fault -/
def TbF (K : PySem.W.Frag) (CT : Addr) (H : Hp) (v : V) (fo : Option Int) : Prop := (∃ t ts os, v = .ref t ∧ H t = some (.tup ts) ∧ RA (TbI K CT H) ts os ∧ 1 ≤ ts.length ∧ ts.length ≤ 8 ∧ fo = (fT ts.length 0 os).map fun i => (i : Int)) ∨
  (∃ t ts, v = .ref t ∧ H t = some (.tup ts) ∧ ts.length ≤ 100 ∧ ¬ (1 ≤ ts.length ∧ ts.length ≤ 8) ∧ fo = some (-1)) ∨ (IsK K H v "tuple" false ∧ fo = some (-1))
theorem RA.imp {α : Type} {R S : V → α → Prop} (h : ∀ v a, R v a → S v a) : ∀ {us : List V} {as : List α}, RA R us as → RA S us as
  | _, _, .nil => .nil
  | _, _, .cons a t => .cons (h _ _ a) (t.imp h)
theorem TbF.mono {K : PySem.W.Frag} {CT : Addr} {H H' : Hp} {v : V} {fo : Option Int} (e : Ex H H') (h : TbF K CT H v fo) : TbF K CT H' v fo := by
  rcases h with ⟨t, ts, os, h1, h2, h3, h4⟩ | ⟨t, ts, h1, h2, h3⟩ | ⟨h1, h2⟩
  · exact .inl ⟨t, ts, os, h1, e _ _ h2, h3.imp fun _ _ z => z.mono e, h4⟩
  · exact .inr (.inl ⟨t, ts, h1, e _ _ h2, h3⟩)
  · exact .inr (.inr ⟨h1.mono e, h2⟩)
section
variable {P : Program} {w : World} {K : PySem.W.Frag} {mg : Str → Option Value} {base : Heap} {f : Addr} {fd : FuncData} {CT CF CB : Addr}
/-! is_onto of any way -/
abbrev spOnto2 : Sp := spP fun H vs z => ∃ (n : Nat) (v : V), vs = [.int (n : Int), v] ∧ n ≤ 8 ∧ NxV v ∧ z = .bl (onB n v)
theorem ok_onto2 (CE : Cal P w K mg base "is_end" ["thing"] 1 spEndW) (CO : Cal P w K mg base "is_router" ["size", "thing"] 3 spRouter) (F : FnP K "is_onto" sOnto f fd) : FnOk P w K mg base CX0 4 f fd ["size", "onto"] spOnto2 := by
  refine F.ok scOnto (fun vs H Q E h => ?_) (fun cdv A outer s H vs Q E hr h => ?_)
  · obtain ⟨z, ⟨n, v, rfl, _⟩, _⟩ := h
    rfl
  · obtain ⟨z, ⟨n, v, rfl, hn8, hn, rfl⟩, k⟩ := h
    refine ⟨_, pss_one (ps_ret (pe_or (pe_cal CE hr (by rfl) (pa_cons (pv 1) pa_nil)) (pe_one (pe_cal CO hr (by rfl) (pa_cons (pv 0) (pa_cons (pv 1) pa_nil)))))), ?_⟩
    have v1 : ∀ {H1 : Hp}, Ev (tVar 1) (start ["size", "onto"] [.int (n : Int), v]) H1 v := ev_var rfl
    have c1 : Ev (tCall spEndW [] E0 (tCons (tVar 1) tNil)) (start ["size", "onto"] [.int (n : Int), v]) H (.bl (isFin v)) := ev_call (ea_cons v1 ea_nil) (spP_v fun H1 e1 => ⟨v, rfl, hn, rfl⟩)
    have key : (isFin v || onB n v) = onB n v ∧ (isFin v = false → Ev (tCall spRouter [] E0 (tCons (tVar 0) (tCons (tVar 1) tNil))) (start ["size", "onto"] [.int (n : Int), v]) H (.bl (onB n v))) := by
      rcases hn with rfl | rfl | ⟨i, hi, rfl⟩
      · exact ⟨rfl, fun hf => by cases hf⟩
      · exact ⟨rfl, fun hf => by cases hf⟩
      · exact ⟨rfl, fun _ => ev_call (ea_cons (ev_var rfl) (ea_cons v1 ea_nil)) (spP_v fun H1 e => ⟨(n : Int), _, .int (i : Int), rfl, .int _, rfl⟩)⟩
    refine s_ret (v := .bl (isFin v || onB n v)) (ev_orV c1 key.2) fun H2 e2 => ?_
    rw [key.1]
    exact k H2 e2
/-! refuse_wrong_tables of any thing -/
def spRWTx (K : PySem.W.Frag) (CT CB : Addr) : Sp := fun vs H Q E => ∃ (v : V) (fo : Option Int), vs = [v] ∧ TbF K CT H v fo ∧ (fo = none → ∀ H', Ex H H' → Q .non H') ∧
  ∀ i, fo = some i → ∀ dx H', H dx = none → Ex H H' → H' dx = some (.xd [("router", .int i)]) → E (.ref CB) (some dx) H'
theorem ok_rwtx (B : Bl mg) {t1 : Tok} (hM : mg "MOST_ROUTERS" = some (.int 8 t1)) (X : TX K CT) (hTT : PySem.W.kitOne K (.ref CT) (.ref CT) = some true) (g : mg "Table" = some (.ref CT)) (TEr : ErrF P w K mg base "BadField" CB "router") (CO : Cal P w K mg base "is_onto" ["size", "onto"] 4 spOnto2) (F : FnP K "refuse_wrong_tables" sRWT f fd) : FnOk P w K mg base (L2.CX P w) 5 f fd ["tables"] (spRWTx K CT CB) := by
  refine F.ok scRWT (fun vs H Q E h => ?_) (fun cdv A outer s H vs Q E hr h => ?_)
  · obtain ⟨v, fo, rfl, _⟩ := h
    rfl
  · obtain ⟨v, fo, rfl, hv, kQ, kE⟩ := h
    have hr2 : Room 2 _ := hr.mono (by decide)
    refine ⟨_, pss_cons (ps_if (PW.pt (pw_or (pt_not (pt_val (pe_callB call_isi (by rfl) B.isi boot_isinstance (pa_cons (pv 0) (pa_cons (pe_bltn (v := .ty "tuple") (by rfl) B.tuple PyProof.Rows.boot_tuple rfl) pa_nil)))))
        (pw_or1 (pt_not (pt_chain op_le op_le pe_int (pe_callB call_len_seq (by rfl) B.len PySem.boot_len (pa_cons (pv 0) pa_nil)) (pe_glob (v := .int 8) (by rfl) hM ⟨_, rfl⟩)))))) (pss_one (ps_raise rfl (takes_of rfl rfl rfl rfl) (pmk_errF TEr hr2 (by rfl) (pa_cons (pe_un un_neg pe_int) pa_nil)))) pss_nil)
      (pss_one (ps_for (passes_of rfl) rfl (pi_enumK (K := K) rfl (by rfl) B.enum (pa_cons (pv 0) pa_nil)) (pg_tup rfl (pgs_cons (pg_name (i := 1) scRWT.nd rfl (.inl rfl)) (pgs_cons (pg_name (i := 2) scRWT.nd rfl (.inl rfl)) pgs_nil)))
        (pss_one (ps_if (PW.pt (pw_or (pt_not (pt_val (pe_callB call_isi (by rfl) B.isi boot_isinstance (pa_cons (pv 2) (pa_cons (pe_glob (v := .ref CT) (by rfl) g rfl) pa_nil)))))
          (pw_or1 (pt_not (pt_val (pe_callB (cr_all rfl) (by rfl) B.all boot_all (pa_cons
            (pe_lc (own := [("_", 3), ("onto", 4)]) (g := gTup K 2 (gCons (gName 3) (gCons (gName 4) gNil))) (tt := tYes) rfl scRWT.nd (pi_tup (pe_fld (pv 2) rfl)) (blkOk_by (N := nRWT) (sc := defScope sRWT) (by decide +kernel))
              (fun _ _ _ _ _ => pg_tup rfl (pgs_cons (pg_name (i := 3) scRWT.nd rfl (.inl rfl)) (pgs_cons (pg_name (i := 4) scRWT.nd rfl (.inl rfl)) pgs_nil))) (fun _ _ _ _ _ => pts_nil)
              (fun _ _ _ _ _ => pe_cal CO hr (by rfl) (pa_cons (pe_callB (call_lenK (K := K) rfl) (by rfl) B.len PySem.boot_len (pa_cons (pv 0) pa_nil)) (pa_cons (pv 4) pa_nil)))) pa_nil))))))) (pss_one (ps_raise rfl (takes_of rfl rfl rfl rfl) (pmk_errF TEr hr2 (by rfl) (pa_cons (pv 1) pa_nil)))) pss_nil)))), ?_⟩
    have v0 : ∀ {H1 : Hp}, Ev (tVar 0) (start nRWT [v]) H1 v := ev_var rfl
    have bad : fo = some (-1) → ∀ H1, Ex H H1 → tMkO CB (spXF CB "router") [] (tCons (tUn (rU fun i => .int (-i)) (tC (.int 1))) tNil) (start nRWT [v]) H1 E := fun hf H1 e1 => mk_errF (ev_un ev_c ru_neg) fun dx H' h0 e' hx => kE (-1) hf dx H' (fresh_back e1 h0) (e1.trans e') hx
    have tupc : ∀ t ts, v = .ref t → H t = some (.tup ts) → Ev (tCB (rIsi K) (tCons (tVar 0) (tCons (tC (.ty "tuple")) tNil))) (start nRWT [v]) H (.bl true) ∧ Ev (tCB (rLenS K) (tCons (tVar 0) tNil)) (start nRWT [v]) H (.int (ts.length : Int)) := fun t ts hvt ht => by
      subst hvt
      exact ⟨ev_isk v0 (isk_tup ht (show kitB "tuple" "tuple" = some true by decide +kernel)), ev_lenT (K := K) v0 (st_of ht)⟩
    have chn : ∀ {ts : List V}, Ev (tCB (rLenS K) (tCons (tVar 0) tNil)) (start nRWT [v]) H (.int (ts.length : Int)) → _ := fun {ts} h => ev_chain (σ := start nRWT [v]) (H := H) (r := rI0 fun i j => .bl (decide (i ≤ j))) (r' := rI0 fun i j => .bl (decide (i ≤ j))) (i := 1) (j := (ts.length : Int)) (k := 8) ev_c h ev_c rv_I0 rv_I0
    rcases hv with ⟨t, ts, os, rfl, ht, hts, h1, h8, hfo⟩ | ⟨t, ts, rfl, ht, hl, hno, hfo⟩ | ⟨hn, hfo⟩
    rotate_left
    · obtain ⟨c1, c2⟩ := tupc t ts rfl ht
      refine q_when (b := !true || !(decide ((1 : Int) ≤ (ts.length : Int)) && decide ((ts.length : Int) ≤ 8))) (et_or (et_not (et_B c1)) fun _ => et_not (et_test (chn c2))) (fun _ H1 e1 => bad hfo H1 e1) fun hb _ _ => absurd hb ?_
      intro z
      by_cases a1 : 1 ≤ ts.length
      · have a2 : ¬ ts.length ≤ 8 := fun y => hno ⟨a1, y⟩
        rw [decide_eq_false (show ¬ (ts.length : Int) ≤ 8 by omega), Bool.and_false] at z
        cases z
      · rw [decide_eq_false (show ¬ (1 : Int) ≤ (ts.length : Int) by omega)] at z
        cases z
    · have c1 : Ev (tCB (rIsi K) (tCons (tVar 0) (tCons (tC (.ty "tuple")) tNil))) (start nRWT [v]) H (.bl false) := ev_isk v0 hn
      exact q_when (b := !false || false) (et_or (et_not (et_B c1)) fun z => (by cases z)) (fun _ H1 e1 => bad hfo H1 e1) (fun z => by cases z)
    obtain ⟨c1, c2⟩ := tupc t ts rfl ht
    have hol := hts.length
    refine q_when (b := !true || !(decide ((1 : Int) ≤ (ts.length : Int)) && decide ((ts.length : Int) ≤ 8))) (et_or (et_not (et_B c1)) fun _ => et_not (et_test (chn c2))) (fun hb H1 e1 => ?_) fun _ H1 e1 => ?_
    · rw [decide_eq_true (by omega), decide_eq_true (by omega)] at hb
      cases hb
    refine s_forEnR (K := K) (H := H1) (xs := ts) (ev_var rfl) (.inr (e1 _ _ ht)) (fun i σ' H' => ∃ o1 o2, σ' = [some (.ref t), o1, o2, none, none] ∧ Ex H H' ∧ fT ts.length 0 os = fT ts.length i (os.drop i)) (fun H2 e2 => ⟨_, _, rfl, e1.trans e2, by rw [List.drop_zero]⟩) (fun i σ' H' _ hp hr o ho => ?_) (fun i y T0 σ' H' hy hp hT0 => ?_) (fun σ' H' hp => ?_)
    · obtain ⟨_, _, _, e3, _⟩ := hp
      rw [e1 _ _ ht] at ho
      rw [← ho]
      exact e3 _ _ ht
    · obtain ⟨o1, o2, rfl, e3, hf⟩ := hp
      have eT := Ex.new (o := .tup [.int (i : Nat), y]) hT0
      have hTT0 : (upd H' T0 (.tup [.int (i : Nat), y])) T0 = some (.tup [.int (i : Nat), y]) := upd_same
      generalize upd H' T0 (.tup [.int (i : Nat), y]) = H4 at *
      have e4 := e3.trans eT
      obtain ⟨o, ho, hyo⟩ := hts.at_ hy
      have hil : i < os.length := (List.getElem?_eq_some_iff.mp ho).1
      rw [List.drop_eq_getElem_cons hil, Option.some.inj ((List.getElem?_eq_getElem hil).symm.trans ho)] at hf
      refine ⟨T0, _, rfl, st_of hTT0, rfl, g_two ?_⟩
      change tIfS _ _ _ _ [some (.ref t), some (.int (i : Nat)), some y, none, none] H4
      have raise : okTb ts.length o = false → ∀ H5, Ex H4 H5 → tMkO CB (spXF CB "router") [] (tCons (tVar 1) tNil) [some (.ref t), some (.int (i : Nat)), some y, none, none] H5 E := fun hno H5 e5 => mk_errF (ev_var rfl) fun dx H' h0 e' hx => kE (i : Int) (by rw [hfo, hf]; unfold fT; rw [if_neg (by rw [hno]; decide)]; rfl) dx H' (fresh_back (e4.trans e5) h0) ((e4.trans e5).trans e') hx
      cases o with
      | none =>
        have i1 : Ev (tCB (rIsi K) (tCons (tVar 2) (tCons (tC (.ref CT)) tNil))) [some (.ref t), some (.int (i : Nat)), some y, none, none] H4 (.bl false) := ev_isc (ev_var rfl) (IsC.mono e4 hyo)
        exact s_when (b := !false || false) (et_or (et_not (et_B i1)) fun z => (by cases z)) (fun _ H5 e5 => raise rfl H5 e5) (fun z => by cases z)
      | some es =>
        obtain ⟨x, rfl, hT, hnx, hl100⟩ := hyo
        obtain ⟨dx, fs, te, nd, us', es', h1, h2, h3, h4, h5, h6, h7, h8⟩ := hT
        have i1 : Ev (tCB (rIsi K) (tCons (tVar 2) (tCons (tC (.ref CT)) tNil))) [some (.ref t), some (.int (i : Nat)), some (.ref x), none, none] H4 (.bl true) := ev_isc (ev_var rfl) (isc_ins X hTT (e4 _ _ h1))
        have i2 : Ev (tFld K (tVar 2) "entries") [some (.ref t), some (.int (i : Nat)), some (.ref x), none, none] H4 (.ref te) := fun H5 e5 Q5 q5 => ⟨.ref x, rfl, x, CT, dx, fs, _, rfl, e5 _ _ (e4 _ _ h1), X.ic.cl, X.nE, h2, q5 H5 (Ex.refl _)⟩
        have hul' := h6.length
        have hes2 := h7.2.perm.length_eq
        have hl := el_lcT2 (K := K) (σ := [some (.ref t), some (.int (i : Nat)), some (.ref x), none, none]) (H := H4) (te := tCall spOnto2 [] E0 (tCons (tCB (rLenS K) (tCons (tVar 0) tNil)) (tCons (tVar 4) tNil))) (tl := tFld K (tVar 2) "entries") (j1 := 3) (j2 := 4) (vs := [3, 4]) (fun j => V.bl (onB ts.length (es'.getD j ([], .non)).2)) i2 (e4 _ _ h5) (by omega)
          (fun i2 y2 hy2 => by
            obtain ⟨b, e, rfl, he, hb⟩ := h6.at_ hy2
            exact ⟨b, _, _, rfl, e4 _ _ hb⟩) (fun _ _ => rfl) (fun i2 b y z H5 e5 hy2 hb => by
            obtain ⟨b', e, hbb, he, hb'⟩ := h6.at_ hy2
            cases hbb
            rw [e4 _ _ hb'] at hb
            injection hb with hb
            injection hb with hb
            injection hb with hb0 hb
            injection hb with hb hb2
            subst hb
            rw [show es'.getD i2 ([], .non) = e by rw [List.getD_eq_getElem?_getD, he]; rfl]
            exact ev_call (ea_cons (ev_lenT (K := K) (ev_var rfl) (st_of (e5 _ _ (e4 _ _ ht)))) (ea_cons (ev_var rfl) ea_nil)) (spP_v fun H6 e6 => ⟨ts.length, e.2, rfl, by omega, hnx e (h7.2.perm.mem_iff.mp (List.mem_of_getElem? he)), rfl⟩))
        have i3 := ev_allL (K := K) (bs := (List.range us'.length).map fun j => onB ts.length (es'.getD j ([], .non)).2) (by rw [given_yesAll] at hl; rw [List.map_map]; exact hl)
        have hall : ((List.range us'.length).map fun j => onB ts.length (es'.getD j ([], .non)).2).all id = okTb ts.length (some es) := by
          have e1 : ((List.range us'.length).map fun j => onB ts.length (es'.getD j ([], .non)).2) = es'.map fun e => onB ts.length e.2 := by
            rw [hul']
            apply List.ext_getElem
            · simp
            · intro j h1 h2
              have h3 : j < es'.length := by simpa using h1
              simp [List.getD_eq_getElem?_getD, List.getElem?_eq_getElem h3]
          rw [e1, List.all_map]
          show es'.all (fun e => onB ts.length e.2) = es.all fun e => onB ts.length e.2
          cases ha : es.all fun e => onB ts.length e.2 with
          | true => exact List.all_eq_true.mpr fun e he => List.all_eq_true.mp ha e (h7.2.perm.mem_iff.mp he)
          | false =>
            cases hb : es'.all fun e => onB ts.length e.2 with
            | false => rfl
            | true =>
              have : es.all (fun e => onB ts.length e.2) = true := List.all_eq_true.mpr fun e he => List.all_eq_true.mp hb e (h7.2.perm.mem_iff.mpr he)
              rw [this] at ha; cases ha
        rw [hall] at i3
        refine s_when (b := !true || !okTb ts.length (some es)) (et_or (et_not (et_B i1)) fun _ => et_not (et_B i3)) (fun hz H5 e5 => raise (by simpa using hz) H5 e5) fun hz H5 e5 => ⟨_, _, rfl, e4.trans e5, ?_⟩
        rw [hf]
        conv => lhs; unfold fT
        rw [if_pos (by simpa using hz)]
    · obtain ⟨_, _, rfl, e3, hf⟩ := hp
      rw [List.drop_of_length_le (by omega)] at hf
      exact kQ (by rw [hfo, hf]; rfl) H' e3
/-! Field of any thing -/
def spFInx (K : PySem.W.Frag) (CF CT CB : Addr) : Sp := fun vs H Q E => ∃ (x dx : Addr) (v : V) (fo : Option Int), vs = [.ref x, v] ∧ H x = some (.ins CF dx []) ∧ TbF K CT H v fo ∧
  (fo = none → ∀ t ts ess, v = .ref t → H t = some (.tup ts) → TsT CT H ts ess → FOk ess → ∀ H', Of1 x H H' → Fl CF CT H' x ess → Q .non H') ∧
  ∀ i, fo = some i → ∀ dy H', H dy = none → Ex H H' → H' dy = some (.xd [("router", .int i)]) → E (.ref CB) (some dy) H'
theorem ok_fInx (B : Bl mg) (hne : CF ≠ CT) (X : FXc K CF) (CR : CalX P w K mg base "refuse_wrong_tables" ["tables"] 5 (spRWTx K CT CB)) (F : FnM K "__init__" "Field.__init__" sFIn f fd) : FnOk P w K mg base (L2.CX P w) 6 f fd ["self", "tables"] (spFInx K CF CT CB) := by
  obtain ⟨fR, fdR, FR, gR, kR, bR⟩ := CR.ex
  refine F.ok scFIn (fun vs H Q E h => ?_) (fun cdv A outer s H vs Q E hr h => ?_)
  · obtain ⟨x, dx, v, fo, rfl, _⟩ := h
    rfl
  · obtain ⟨x, dx, v, fo, rfl, hx, hv, kQ, kE⟩ := h
    refine ⟨_, pss_cons (ps_expr (pe_call FR (hr.mono (by decide)) (by rfl) gR kR bR .nil (passes_call (takes_of rfl rfl rfl rfl) (fun _ _ _ _ h => h)) (pa_cons (pv 1) pa_nil)))
      (pss_cons (ps_fld (pv 0) (pe_callB call_len_seq (by rfl) B.len PySem.boot_len (pa_cons (pv 1) pa_nil)) rfl)
      (pss_one (ps_fld (pv 0) (pv 1) rfl))), ?_⟩
    refine ⟨v, rfl, v, fo, rfl, hv, fun hfo H1 e1 => ?_, kE⟩
    rcases hv with ⟨t, ts, os, rfl, ht, hts, hl1, hl8, hf⟩ | ⟨_, _, _, _, _, _, hf⟩ | ⟨_, hf⟩
    rotate_left
    · rw [hfo] at hf; cases hf
    · rw [hfo] at hf; cases hf
    have hfn : fT ts.length 0 os = none := by
      rw [hfo] at hf
      cases hz : fT ts.length 0 os with
      | none => rfl
      | some i => rw [hz] at hf; cases hf
    obtain ⟨ess, hT, hw, hle⟩ := fT_none hts hfn
    have hul := hT.length
    have hok : FOk ess := ⟨by omega, by omega, fun es hes e he => by rw [← hul]; exact hw es hes e he⟩
    have k := kQ hfo t ts ess rfl ht hT hok
    have hx1 := e1 _ _ hx
    refine ⟨.ref t, rfl, t, ts, rfl, Or.inr (st_of (e1 _ _ ht)), ?_⟩
    refine ⟨.ref x, rfl, x, CF, dx, [], rfl, hx1, X.cl, X.nS, by decide, ?_⟩
    have ln1 : (putF "size" (.int (ts.length : Int)) ([] : List (Str × V))).length ≤ 1 := len_putF _ _ _
    have lkE : (putF "size" (.int (ts.length : Int)) ([] : List (Str × V))).lookup ("size" : Str) = some (.int (ts.length : Int)) := lk_putS
    have lkO : (putF "size" (.int (ts.length : Int)) ([] : List (Str × V))).lookup ("table" : Str) = none := by rw [lk_putF (by decide +kernel)]; rfl
    generalize putF "size" (.int (ts.length : Int)) ([] : List (Str × V)) = fs1 at *
    have o2 := Of1.upd x H1 (.ins CF dx fs1)
    have hx2 : (upd H1 x (.ins CF dx fs1)) x = some (.ins CF dx fs1) := upd_same
    have ht1 := e1 _ _ ht
    have ht2 := o2 t _ (fun z => by rw [z, hx1] at ht1; cases ht1) ht1
    have hts2 := (hT.mono e1).of1 hne o2 hx1
    have o02 : Of1 x H (upd H1 x (.ins CF dx fs1)) := (Of1.ex e1).trans o2
    generalize upd H1 x (.ins CF dx fs1) = H2 at *
    refine ⟨.ref t, rfl, .ref x, rfl, x, CF, dx, fs1, rfl, hx2, X.cl, X.nT, Nat.lt_of_le_of_lt ln1 (by decide), ?_⟩
    have o3 := Of1.upd x H2 (.ins CF dx (putF "_tables" (.ref t) fs1))
    refine k _ (o02.trans o3) ⟨dx, _, t, ts, upd_same, ?_, lk_putS, ?_, ?_, hts2.of1 hne o3 hx2⟩
    · rw [lk_putF (by decide +kernel), ← hul]; exact lkE
    · rw [lk_putF (by decide +kernel)]; exact lkO
    · exact o3 t _ (fun z => by rw [z, hx2] at ht2; cases ht2) ht2
end
end Wk

set_option Elab.async false
set_option linter.all false
set_option maxRecDepth 100000
set_option maxHeartbeats 4000000
namespace Wk
open PySem PySem.Spec PyProof.Rows L2 Evl
theorem ix_tupK {X : Cx} {K : PySem.W.Frag} (hK : X.K = K) : IxR X (rIxT K) := by
  subst hK
  exact ix_tup
theorem op_notInK {X : Cx} {K : PySem.W.Frag} (hK : X.K = K) : OpR X (compareOp .NotIn) (rIn K true) := by
  subst hK
  exact op_notIn_seq
def wordB (z : Str) : Bool := inV (.str z) [.str "here", .str "drop", .str "round"]
def OdW (K : PySem.W.Frag) (H : Hp) (v : V) : Prop := (∃ z, v = .str z ∧ wordB z = false) ∨ NSt K H v
theorem OdW.mono {K : PySem.W.Frag} {H H' : Hp} {v : V} (e : Ex H H') (h : OdW K H v) : OdW K H' v := h.imp id (NSt.mono e)
/-- the word of a fate -/
def fwd : Ft → Str
  | .out s _ _ => s
  | .ring _ => "round"
theorem FtV.word {H : Hp} {v : V} {ft : Ft} (h : FtV H v ft) : ∃ t ys, v = .ref t ∧ H t = some (.tup (.str (fwd ft) :: ys)) := by
  cases ft with
  | out s a k =>
    obtain ⟨t, h1, h2⟩ := h
    exact ⟨t, _, h1, h2⟩
  | ring r =>
    obtain ⟨t, u, h1, h2, h3⟩ := h
    exact ⟨t, _, h1, h2⟩
theorem ev_word {K : PySem.W.Frag} {σ : L2.St} {H : Hp} {te : TE} {v : V} {ft : Ft} (h : Ev te σ H v) (hv : FtV H v ft) : Ev (tOp (rIxT K) te (tC (.int 0))) σ H (.str (fwd ft)) := by
  obtain ⟨t, ys, rfl, ht⟩ := hv.word
  exact ev_op h ev_c (rv_ixT (st_of ht) (show atI (V.str (fwd ft) :: ys) ((0 : Nat) : Int) = _ from atI_nat rfl))
theorem rv_eqS {x y : Str} {H : Hp} : RV rEq (.str x) (.str y) H (.bl (decide (V.str x = V.str y))) := rv_eq rfl
section
variable {P : Program} {w : World} {K : PySem.W.Frag} {mg : Str → Option Value} {base : Heap} {f : Addr} {fd : FuncData} {CT CF CN CW CB : Addr}
theorem RwF.mono {H H' : Hp} {v : V} {ok : Bool} (e : Ex H H') (h : RwF K H v ok) : RwF K H' v ok := by
  rcases h with ⟨a, us, bs, h1, h2, h3, h4, h5⟩ | ⟨h1, h2⟩
  · exact .inl ⟨a, us, bs, h1, h2.mono e, h3, h4.imp fun _ _ z => z.mono e, h5⟩
  · exact .inr ⟨h1.mono e, h2⟩
/-! least_address -/
def spLA (K : PySem.W.Frag) (CF CT CN CW : Addr) : Sp := fun vs H Q E => ∃ (x : Addr) (v u : V) (d : PyData) (ess : List (List Row)), vs = [.ref x, v, u] ∧ Fl CF CT H x ess ∧ Dq H v d ∧
  ((isR (ess.length : Int) d = false ∧ XRt E CN v H) ∨
   ∃ r : Nat, v = .int (r : Int) ∧ d = .int (r : Int) ∧ r < ess.length ∧ ((OdW K H u ∧ ∀ H', Ex H H' → E (.ref CW) none H') ∨ (∃ (m : Nat) (h : EssOk ess m) (z : Str), u = .str z ∧ wordB z = true ∧ ∀ H' y, Ex H H' → Q y H')))
abbrev sLA : Stmt := top 43
abbrev nLA : List Str := ["field", "start", "word", "address", "end"]
theorem scLA : FnScope nLA ["field", "start", "word"] (defScope sLA) := ⟨rfl, rfl, rfl, by decide +kernel, rfl, by decide +kernel, by decide +kernel⟩
theorem ok_la (B : Bl mg) (hzip : mg "zip" = none) {t1 t2 t3 : Tok} (hM1 : mg "HERE" = some (.str "here" t1)) (hM2 : mg "DROP" = some (.str "drop" t2)) (hM3 : mg "ROUND" = some (.str "round" t3)) (XF : FXc K CF) (TB : ErrN K mg "BadWord" CW) (CR : CalX P w K mg base "refuse_no_router" ["size", "thing"] 4 (spRNRx CN)) (CA : Cal P w K mg base "addresses" [] 1 spAds) (CAF : Cal P w K mg base "all_fates" ["field", "start"] 7 (spAF CF CT))
    (F : FnP K "least_address" sLA f fd) : FnOk P w K mg base (L2.CX P w) 8 f fd ["field", "start", "word"] (spLA K CF CT CN CW) := by
  obtain ⟨fR, fdR, FR, gR, kR, bR⟩ := CR.ex
  refine F.ok scLA (fun vs H Q E h => ?_) (fun cdv A outer s H vs Q E hr h => ?_)
  · obtain ⟨x, v, u, d, ess, rfl, _⟩ := h
    rfl
  · obtain ⟨x, v, u, d, ess, rfl, hF, hd, hv⟩ := h
    refine ⟨_, pss_cons (ps_expr (pe_call FR (hr.mono (by decide)) (by rfl) gR kR bR .nil (passes_call (takes_of rfl rfl rfl rfl) (fun _ _ _ _ h => h)) (pa_cons (pe_fld (pv 0) rfl) (pa_cons (pv 1) pa_nil))))
      (pss_cons (ps_if (PW.pt (pw_or (pt_not (pt_val (pe_callB call_isi (by rfl) B.isi boot_isinstance (pa_cons (pv 2) (pa_cons (pe_bltn (v := .ty "str") (by rfl) B.str PyProof.Rows.boot_str rfl) pa_nil)))))
          (pw_or1 (pt_cmpR (op_notInK (K := K) rfl) (pv 2) (pe_tup (pa_cons (pe_glob (v := .str "here") (by rfl) hM1 ⟨_, rfl⟩) (pa_cons (pe_glob (v := .str "drop") (by rfl) hM2 ⟨_, rfl⟩) (pa_cons (pe_glob (v := .str "round") (by rfl) hM3 ⟨_, rfl⟩) pa_nil)))) rfl))))
          (pss_one (ps_raise rfl (takes_of rfl rfl rfl rfl) (pmk_errN rfl rfl TB (by rfl)))) pss_nil)
      (pss_cons (ps_for (passes_of rfl) rfl (pi_zip (by rfl) hzip (pa_cons (pe_ads CA hr (by rfl)) (pa_cons (pe_cal CAF hr (by rfl) (pa_cons (pv 0) (pa_cons (pv 1) pa_nil))) pa_nil))) (pg_tup rfl (pgs_cons (pg_name (i := 3) scLA.nd rfl (.inl rfl)) (pgs_cons (pg_name (i := 4) scLA.nd rfl (.inl rfl)) pgs_nil)))
          (pss_one (ps_if (pt_cmpR op_eq (pe_ix ix_tup (pv 4) pe_int (fun _ _ => rfl)) (pv 2) (nomark _)) (pss_one (ps_ret (pv 3))) pss_nil)))
      (pss_one (ps_ret pe_non)))), ?_⟩
    obtain ⟨dx, fs, t, ts, h1, h2, h3, h4, h5, h6⟩ := id hF
    refine ⟨.ref x, rfl, x, CF, dx, fs, _, rfl, h1, XF.cl, XF.nS, h2, v, rfl, ess.length, v, d, rfl, hd, fun hR H1 e1 => ?_, fun hR => ?_⟩
    rotate_left
    · rcases hv with ⟨_, k⟩ | ⟨r, rfl, rfl, hr, _⟩
      · exact k
      · rw [isR_yes hr] at hR; cases hR
    rcases hv with ⟨hno, _⟩ | ⟨r, rfl, rfl, hrl, hv⟩
    · rw [hR] at hno; cases hno
    dsimp only
    have v2 : ∀ {H1 : Hp}, Ev (tVar 2) (start nLA [V.ref x, .int (r : Int), u]) H1 u := ev_var rfl
    have tp : ∀ {H1 : Hp}, EvU (tTup (tCons (tC (.str "here")) (tCons (tC (.str "drop")) (tCons (tC (.str "round")) tNil)))) (start nLA [V.ref x, .int (r : Int), u]) H1 [.str "here", .str "drop", .str "round"] := eu_tup (ea_cons ev_c (ea_cons ev_c (ea_cons ev_c ea_nil))) (by show 3 ≤ 100000; decide)
    rcases hv with ⟨hu, k⟩ | ⟨m, hE, z, rfl, hz, k⟩
    · rcases hu with ⟨z, rfl, hz⟩ | hn
      · refine q_when (b := !true || !inV (.str z) [.str "here", .str "drop", .str "round"]) (et_or (et_not (et_B (ev_isiS (K := K) v2))) fun _ => et_test (ev_niU (K := K) v2 tp rfl rfl)) (fun _ H2 e2 => k H2 (e1.trans e2)) (fun hb _ _ => ?_)
        have hz : inV (.str z) [.str "here", .str "drop", .str "round"] = false := hz
        rw [hz] at hb
        cases hb
      · exact q_when (b := !false || false) (et_or (et_not (et_B (ev_isiN (K := K) v2 (hn.mono e1)))) fun z => (by cases z)) (fun _ H2 e2 => k H2 (e1.trans e2)) (fun z => by cases z)
    refine q_when (b := !true || !inV (.str z) [.str "here", .str "drop", .str "round"]) (et_or (et_not (et_B (ev_isiS (K := K) v2))) fun _ => et_test (ev_niU (K := K) v2 tp rfl rfl)) (fun hb _ _ => ?_) (fun _ H2 e2 => ?_)
    · have hz : inV (.str z) [.str "here", .str "drop", .str "round"] = true := hz
      rw [hz] at hb
      cases hb
    refine ⟨rfl, fun H3 D1 n1 e3 h31 => ?_⟩
    refine ⟨.ref x, rfl, .int (r : Int), rfl, x, r, m, ess, hE, rfl, hF.mono ((e1.trans e2).trans e3), hrl, fun H4 D2 us n2 e4 h42 hul hus => ?_⟩
    have h41 := e4 _ _ h31
    refine ⟨D1, D2, adV 10, us, rfl, sq_of h41, sq_of h42, ?_⟩
    have e04 := ((e1.trans e2).trans e3).trans e4
    refine RZ.for_zipL (K := K) (xs := adV 10) (ys := us) (by rw [adV_len, hul]) (fun i σ' H' => ∃ o3 o4, σ' = [some (.ref x), some (.int (r : Int)), some (.str z), o3, o4] ∧ Ex H4 H') ⟨_, _, rfl, Ex.refl _⟩ (fun i σ' H' hp => ?_) (fun i a b T0 σ' H' ha hb hp hT => ?_) (fun σ' H' hp => ?_)
    · obtain ⟨_, _, _, e5⟩ := hp
      exact ⟨sq_of (e5 _ _ h41), sq_of (e5 _ _ h42)⟩
    · obtain ⟨o3, o4, rfl, e5⟩ := hp
      have eT := Ex.new (o := .tup [a, b]) hT
      have hTT0 : (upd H' T0 (.tup [a, b])) T0 = some (.tup [a, b]) := upd_same
      generalize upd H' T0 (.tup [a, b]) = H5 at *
      refine ⟨T0, _, rfl, st_of hTT0, rfl, g_two ?_⟩
      change tIfS _ _ _ _ [some (.ref x), some (.int (r : Int)), some (.str z), some a, some b] H5
      have hft := (hus i b hb).mono (e5.trans eT)
      have w0 : Ev (tOp (rIxT K) (tVar 4) (tC (.int 0))) [some (.ref x), some (.int (r : Int)), some (.str z), some a, some b] H5 (.str (fwd (phi hE r i).1)) := ev_word (ev_var rfl) hft
      exact s_when (b := decide (V.str (fwd (phi hE r i).1) = V.str z)) (et_test (ev_op (r := rEq) w0 (ev_var rfl) rv_eqS)) (fun _ H6 e6 => s_ret (v := a) (ev_var rfl) fun H7 e7 => k H7 a (((e04.trans (e5.trans eT)).trans e6).trans e7)) fun _ H6 e6 => ⟨_, _, rfl, (e5.trans eT).trans e6⟩
    · obtain ⟨_, _, rfl, e5⟩ := hp
      exact k H' .non (e04.trans e5)
/-! holes -/
def spHo (K : PySem.W.Frag) (CF CT CN CB : Addr) : Sp := fun vs H Q E => ∃ (x : Addr) (v u : V) (d : PyData) (ess : List (List Row)), vs = [.ref x, v, u] ∧ Fl CF CT H x ess ∧ Dq H v d ∧
  ((isR (ess.length : Int) d = false ∧ XRt E CN v H) ∨
   ∃ r : Nat, v = .int (r : Int) ∧ d = .int (r : Int) ∧ r < ess.length ∧ ((RwF K H u false ∧ ∀ H', Ex H H' → E (.ref CB) none H') ∨ (∃ (m : Nat) (h : EssOk ess m) (a : Addr) (rs : List (List Nat)), u = .ref a ∧ RowA H a (txV rs) ∧ rs.length ≤ 1100 ∧ (∀ r ∈ rs, IsB r ∧ r.length ≤ 10) ∧ ∀ H' y, Ex H H' → Q y H')))
abbrev sHo : Stmt := top 44
abbrev nHo : List Str := ["field", "start", "ranges", "flag", "end"]
theorem scHo : FnScope nHo ["field", "start", "ranges"] (defScope sHo) := ⟨rfl, rfl, rfl, by decide +kernel, rfl, by decide +kernel, by decide +kernel⟩
theorem ok_ho (B : Bl mg) (hzip : mg "zip" = none) {t1 : Tok} (hM1 : mg "HERE" = some (.str "here" t1)) (XF : FXc K CF) (CR : CalX P w K mg base "refuse_no_router" ["size", "thing"] 4 (spRNRx CN)) (CRR : CalX P w K mg base "refuse_no_ranges" ["thing"] 3 (spRNG K CB)) (CC : Cal P w K mg base "covered" ["ranges"] 2 spCov) (CFw : Cal P w K mg base "fewest_ranges" ["flags"] 13 spFew) (CAF : Cal P w K mg base "all_fates" ["field", "start"] 7 (spAF CF CT))
    (F : FnP K "holes" sHo f fd) : FnOk P w K mg base (L2.CX P w) 14 f fd ["field", "start", "ranges"] (spHo K CF CT CN CB) := by
  obtain ⟨fR, fdR, FR, gR, kR, bR⟩ := CR.ex
  obtain ⟨fG, fdG, FG, gG, kG, bG⟩ := CRR.ex
  refine F.ok scHo (fun vs H Q E h => ?_) (fun cdv A outer s H vs Q E hr h => ?_)
  · obtain ⟨x, v, u, d, ess, rfl, _⟩ := h
    rfl
  · obtain ⟨x, v, u, d, ess, rfl, hF, hd, hv⟩ := h
    refine ⟨_, pss_cons (ps_expr (pe_call FR (hr.mono (by decide)) (by rfl) gR kR bR .nil (passes_call (takes_of rfl rfl rfl rfl) (fun _ _ _ _ h => h)) (pa_cons (pe_fld (pv 0) rfl) (pa_cons (pv 1) pa_nil))))
      (pss_cons (ps_expr (pe_call FG (hr.mono (by decide)) (by rfl) gG kG bG .nil (passes_call (takes_of rfl rfl rfl rfl) (fun _ _ _ _ h => h)) (pa_cons (pv 2) pa_nil)))
      (pss_one (ps_ret (pe_cal CFw hr (by rfl) (pa_cons (pe_lc (own := [("flag", 3), ("end", 4)]) (g := gTup K 2 (gCons (gName 3) (gCons (gName 4) gNil))) (tt := tYes) rfl scHo.nd (pi_zip (by rfl) hzip (pa_cons (pe_cal CC hr (by rfl) (pa_cons (pv 2) pa_nil)) (pa_cons (pe_cal CAF hr (by rfl) (pa_cons (pv 0) (pa_cons (pv 1) pa_nil))) pa_nil))) (blkOk_by (N := nHo) (sc := defScope sHo) (by decide +kernel))
          (fun _ _ _ _ _ => pg_tup rfl (pgs_cons (pg_name (i := 3) scHo.nd rfl (.inl rfl)) (pgs_cons (pg_name (i := 4) scHo.nd rfl (.inl rfl)) pgs_nil))) (fun _ _ _ _ _ => pts_nil)
          (fun _ _ _ _ _ => pe_and (pv 3) (pe_one (pe_cmpR op_ne (pe_ix (ix_tupK (K := K) rfl) (pv 4) pe_int (fun _ _ => rfl)) (pe_glob (v := .str "here") (by rfl) hM1 ⟨_, rfl⟩) (nomark _))))) pa_nil))))), ?_⟩
    obtain ⟨dx, fs, t, ts, h1, h2, h3, h4, h5, h6⟩ := id hF
    refine ⟨.ref x, rfl, x, CF, dx, fs, _, rfl, h1, XF.cl, XF.nS, h2, v, rfl, ess.length, v, d, rfl, hd, fun hR H1 e1 => ?_, fun hR => ?_⟩
    rotate_left
    · rcases hv with ⟨_, k⟩ | ⟨r, rfl, rfl, hr, _⟩
      · exact k
      · rw [isR_yes hr] at hR; cases hR
    rcases hv with ⟨hno, _⟩ | ⟨r, rfl, rfl, hrl, hv⟩
    · rw [hR] at hno; cases hno
    rcases hv with ⟨hu, k⟩ | ⟨m, hE, a, rs, rfl, hrow, hn, hrs, k⟩
    · exact ⟨u, rfl, u, false, rfl, RwF.mono e1 hu, fun z => (by cases z), fun _ H2 e2 => k H2 (e1.trans e2)⟩
    refine ⟨.ref a, rfl, .ref a, true, rfl, .inl ⟨a, _, _, rfl, hrow.mono e1, by unfold txV; rw [List.length_map]; exact hn, ra_tx hrs, by rw [List.all_map]; exact (List.all_eq_true.mpr fun _ _ => rfl).symm⟩, fun _ H2 e2 => ?_, fun z => by cases z⟩
    dsimp only
    refine ret_c1 ?_
    refine ⟨.ref a, rfl, a, rs, rfl, hrow.mono (e1.trans e2), hn, hrs, fun H3 D1 n1 e3 h31 => ?_⟩
    refine ⟨.ref x, rfl, .int (r : Int), rfl, x, r, m, ess, hE, rfl, hF.mono ((e1.trans e2).trans e3), hrl, fun H4 D2 us n2 e4 h42 hul hus => ?_⟩
    have h41 := e4 _ _ h31
    have e04 := ((e1.trans e2).trans e3).trans e4
    have hcl : (cvV rs).length = 1024 := by unfold cvV; rw [List.length_map, List.length_range]
    refine ⟨D1, D2, cvV rs, us, rfl, sq_of h41, sq_of h42, fun D hD => ?_⟩
    refine lc_it (walk_zip (K := K) (a := D1) (b := D2) (xs := cvV rs) (ys := us) (n := 1024) (by omega)) (Cw H4 (fun _ => true) (fun i => V.bl (covB rs i && !decide (V.str (fwd (phi hE r i).1) = V.str "here"))) D) ⟨hD, Ex.new hD, upd_same⟩ (fun i H' _ p => ⟨sq_of (p.2.1 _ _ h41), sq_of (p.2.1 _ _ h42)⟩) (fun i y H' H5 hi p hy => ?_) (fun H' p => ?_)
    · obtain ⟨T0, y1, y2, rfl, hT, rfl, hy1, hy2⟩ := hy
      have eT := Ex.new (o := .tup [y1, y2]) hT
      have hTT0 : (upd H' T0 (.tup [y1, y2])) T0 = some (.tup [y1, y2]) := upd_same
      generalize upd H' T0 (.tup [y1, y2]) = H5 at *
      have p5 : Cw H4 (fun _ => true) (fun i => V.bl (covB rs i && !decide (V.str (fwd (phi hE r i).1) = V.str "here"))) D i H5 := ⟨p.1, p.2.1.trans eT, eT _ _ p.2.2⟩
      have ey1 : y1 = .bl (covB rs i) := by
        unfold cvV at hy1
        dsimp only at hy1
        rw [List.getElem?_map, List.getElem?_range hi] at hy1
        exact (Option.some.inj hy1).symm
      subst ey1
      refine ⟨T0, _, rfl, st_of hTT0, rfl, g_two ⟨rfl, ?_⟩⟩
      refine cw_turn p5 (by omega) et_yes fun _ => ?_
      refine ev_andV (ev_var rfl) fun _ => ?_
      exact ev_op (r := rNe) (ev_word (ev_var rfl) (hus i y2 hy2)) ev_c (rv_ne rfl)
    · have h7 := p.2.2
      rw [given_yesAll] at h7
      refine ⟨D, fun i => covB rs i && !decide (V.str (fwd (phi hE r i).1) = V.str "here"), rfl, h7, fun H6 D3 n3 e6 h63 => k H6 _ ((e04.trans p.2.1).trans e6)⟩
end
end Wk

set_option Elab.async false
set_option linter.all false
set_option maxRecDepth 100000
set_option maxHeartbeats 4000000
namespace Wk
open PySem PySem.Spec PyProof.Rows L2 Evl
/-! isinstance of a caught error of any own class -/
def rIsG (K : PySem.W.Frag) (a : Addr) (cls : Value) (d : Option Addr) : List V → Hp → VK → Prop := fun xs H Q => ∃ (D : Addr) (c : V) (cv : Value) (b : Bool), cls = .ref D ∧ ExcC K D ∧ xs = [.ref a, c] ∧ ClsV c cv ∧ PySem.W.kitOne K (.ref D) cv = some b ∧ ((∃ dx fs, d = some dx ∧ H dx = some (.xd fs)) ∨ d = none) ∧ Q (.bl b) H
theorem call_isG {X : Cx} {K : PySem.W.Frag} {a : Addr} {cls : Value} {d : Option Addr} {oe : Obj} {pn : List (Addr × Obj)} (hK : X.K = K) (hz : Zc cls d oe) (hf : ∃ vs, oe.data = .fields vs) : CallR (X.suite a ((a, oe) :: pn)) (.builtin "isinstance") (rIsG K a cls d) := by
  intro pins s σ H xs us Q I r h
  obtain ⟨D, c, cv, b, rfl, C, hxs, hcv, e, hd, q⟩ := h
  rcases hd with ⟨dx, fs, rfl, hx⟩ | rfl
  · exact call_isF hK C hz hf pins s σ H xs us Q I r ⟨c, cv, b, fs, hxs, hcv, e, hx, q⟩
  · exact call_isEK hK C hz hf pins s σ H xs us Q I r ⟨c, cv, b, hxs, fun u hu => hcv.eq hu, e, q⟩
/-- what isinstance tells of an error -/
structure EK4 (K : PySem.W.Frag) (C CWi CN CA CB CW : Addr) (n a b w : Bool) : Prop where
  ex : ExcC K C
  x : PySem.W.exmOne K (.ref C) (.ref CWi) = some true
  kV : PySem.W.kitOne K (.ref C) (.type "ValueError") = some true
  kN : PySem.W.kitOne K (.ref C) (.ref CN) = some n
  kA : PySem.W.kitOne K (.ref C) (.ref CA) = some a
  kB : PySem.W.kitOne K (.ref C) (.ref CB) = some b
  kW : PySem.W.kitOne K (.ref C) (.ref CW) = some w
section
variable {K : PySem.W.Frag} {CT : Addr}
/-- right arguments of one of the five calls -/
def GoodC (H : Hp) (ess : List (List Row)) (w : Nat) (v u : V) (d : PyData) : Prop := ∃ (r m : Nat), EssOk ess m ∧ v = .int (r : Int) ∧ d = .int (r : Int) ∧ r < ess.length ∧ (w = 1 → ∃ l, u = .str (T l) ∧ IsB l ∧ l.length = 10) ∧ (w = 3 → ∃ z, u = .str z ∧ wordB z = true) ∧ (w = 4 → ∃ a rs, u = .ref a ∧ RowA H a (txV rs) ∧ rs.length ≤ 1100 ∧ ∀ r ∈ rs, IsB r ∧ r.length ≤ 10)
/-- a right router, a wrong thing: which error is due -/
def ThingC (K : PySem.W.Frag) (H : Hp) (ess : List (List Row)) (w : Nat) (v u : V) (d : PyData) (k : Nat) : Prop := ∃ r : Nat, v = .int (r : Int) ∧ d = .int (r : Int) ∧ r < ess.length ∧ ((w = 1 ∧ OdA K H u ∧ k = 0) ∨ (w = 4 ∧ RwF K H u false ∧ k = 1) ∨ (w = 3 ∧ OdW K H u ∧ k = 2))
theorem GoodC.mono {H H' : Hp} {ess : List (List Row)} {w : Nat} {v u : V} {d : PyData} (e : Ex H H') (h : GoodC H ess w v u d) : GoodC H' ess w v u d := by
  obtain ⟨r, m, h1, h2, h3, h4, h5, h6, h7⟩ := h
  exact ⟨r, m, h1, h2, h3, h4, h5, h6, fun z => by
    obtain ⟨a, rs, i1, i2, i3⟩ := h7 z
    exact ⟨a, rs, i1, i2.mono e, i3⟩⟩
theorem ThingC.mono {H H' : Hp} {ess : List (List Row)} {w k : Nat} {v u : V} {d : PyData} (e : Ex H H') (h : ThingC K H ess w v u d k) : ThingC K H' ess w v u d k := by
  obtain ⟨r, h1, h2, h3, h4⟩ := h
  exact ⟨r, h1, h2, h3, h4.imp (fun ⟨a, b, c⟩ => ⟨a, b.mono e, c⟩) (Or.imp (fun ⟨a, b, c⟩ => ⟨a, RwF.mono e b, c⟩) fun ⟨a, b, c⟩ => ⟨a, b.mono e, c⟩)⟩
theorem rk_any {ess : List (List Row)} {m : Nat} {l : List Nat} (h : EssOk ess m) (hl : l.length = 10) : ∃ nv, Rk ess l nv := by
  obtain ⟨nv, h1, h2, h3⟩ := nv_ex (n := ess.length) (l := l) ess h.way
  exact ⟨nv, rk_of hl h1 h2 h3 h.ok rfl fun r e2 hr => ⟨e2, hr, List.Perm.refl _⟩⟩
end
section
variable {P : Program} {w : World} {K : PySem.W.Frag} {mg : Str → Option Value} {base : Heap} {f : Addr} {fd : FuncData} {CT CF CN CA CB CW CWi : Addr}
/-! _law_call -/
def spLC (K : PySem.W.Frag) (CF CT CN CA CB CW : Addr) : Sp := fun vs H Q E => ∃ (x : Addr) (w : Nat) (v u : V) (d : PyData) (ess : List (List Row)), vs = [.ref x, .int (w : Int), v, u] ∧ w ≤ 4 ∧ Fl CF CT H x ess ∧ Dq H v d ∧
  ((isR (ess.length : Int) d = false ∧ XRt E CN v H) ∨ (∃ k, ThingC K H ess w v u d k ∧ ∀ H', Ex H H' → E (.ref (if k = 0 then CA else if k = 1 then CB else CW)) none H') ∨ (GoodC H ess w v u d ∧ ∀ H' y, Ex H H' → Q y H'))
abbrev sLC : Stmt := top 53
abbrev nLC : List Str := ["_law_field", "_law_which", "_law_start", "_law_thing"]
theorem scLC : FnScope nLC nLC (defScope sLC) := ⟨rfl, rfl, rfl, by decide +kernel, rfl, by decide +kernel, by decide +kernel⟩
theorem ok_lc (XF : FXc K CF) (MT : MskX P w K mg base CF "table" ["self", "router"] 5 (spTabx CF CT CN)) (C1 : CalX P w K mg base "fate" ["field", "start", "address"] 6 (fun vs H Q E => spFate CF CT vs H Q E ∨ spFatex K CF CT CN CA vs H Q E)) (C2 : CalX P w K mg base "fates" ["field", "start"] 13 (fun vs H Q E => spFts K CF CT vs H Q E ∨ spFtsx CF CT CN vs H Q E))
    (C3 : CalX P w K mg base "least_address" ["field", "start", "word"] 8 (spLA K CF CT CN CW)) (C4 : CalX P w K mg base "holes" ["field", "start", "ranges"] 14 (spHo K CF CT CN CB)) (F : FnP K "_law_call" sLC f fd) : FnOk P w K mg base (L2.CX P w) 15 f fd nLC (spLC K CF CT CN CA CB CW) := by
  obtain ⟨f0, fd0, me0, F0, b0⟩ := MT.ex
  obtain ⟨f1, fd1, F1, g1, k1, b1⟩ := C1.ex
  obtain ⟨f2, fd2, F2, g2, k2, b2⟩ := C2.ex
  obtain ⟨f3, fd3, F3, g3, k3, b3⟩ := C3.ex
  obtain ⟨f4, fd4, F4, g4, k4, b4⟩ := C4.ex
  refine F.ok scLC (fun vs H Q E h => ?_) (fun cdv A outer s H vs Q E hr h => ?_)
  · obtain ⟨x, w, v, u, d, ess, rfl, _⟩ := h
    rfl
  · obtain ⟨x, w, v, u, d, ess, rfl, hw4, hF, hd, hv⟩ := h
    refine ⟨_, pss_cons (ps_if (pt_cmpR op_eq (pv 1) pe_int (nomark _)) (pss_one (ps_ret (pe_meth (pv 0) XF.cl me0 F0 (hr.mono (by decide)) b0 .nil (passes_call (takes_of rfl rfl rfl rfl) (fun _ _ _ _ h => h)) (pa_cons (pv 2) pa_nil)))) pss_nil)
      (pss_cons (ps_if (pt_cmpR op_eq (pv 1) pe_int (nomark _)) (pss_one (ps_ret (pe_call F1 (hr.mono (by decide)) (by rfl) g1 k1 b1 .nil (passes_call (takes_of rfl rfl rfl rfl) (fun _ _ _ _ h => h)) (pa_cons (pv 0) (pa_cons (pv 2) (pa_cons (pv 3) pa_nil)))))) pss_nil)
      (pss_cons (ps_if (pt_cmpR op_eq (pv 1) pe_int (nomark _)) (pss_one (ps_ret (pe_call F2 (hr.mono (by decide)) (by rfl) g2 k2 b2 .nil (passes_call (takes_of rfl rfl rfl rfl) (fun _ _ _ _ h => h)) (pa_cons (pv 0) (pa_cons (pv 2) pa_nil))))) pss_nil)
      (pss_cons (ps_if (pt_cmpR op_eq (pv 1) pe_int (nomark _)) (pss_one (ps_ret (pe_call F3 (hr.mono (by decide)) (by rfl) g3 k3 b3 .nil (passes_call (takes_of rfl rfl rfl rfl) (fun _ _ _ _ h => h)) (pa_cons (pv 0) (pa_cons (pv 2) (pa_cons (pv 3) pa_nil)))))) pss_nil)
      (pss_one (ps_ret (pe_call F4 (hr.mono (by decide)) (by rfl) g4 k4 b4 .nil (passes_call (takes_of rfl rfl rfl rfl) (fun _ _ _ _ h => h)) (pa_cons (pv 0) (pa_cons (pv 2) (pa_cons (pv 3) pa_nil))))))))), ?_⟩
    have tst : ∀ {n : Nat} {H1 : Hp}, EvT (tTest (tOp rEq (tVar 1) (tC (.int (n : Int))))) (start nLC [V.ref x, .int (w : Int), v, u]) H1 (decide (V.int (w : Int) = V.int (n : Int))) := fun {n H1} => et_test (ev_op (r := rEq) (ev_var rfl) ev_c (rv_eq rfl))
    have yes : ∀ {n : Nat}, decide (V.int (w : Int) = V.int (n : Int)) = true → w = n := fun {n} h => by
      have h := of_decide_eq_true h
      injection h with h
      omega
    have nop : ∀ {n : Nat}, decide (V.int (w : Int) = V.int (n : Int)) = false → w ≠ n := fun {n} h z => by
      rw [z] at h
      exact absurd rfl (of_decide_eq_false h)
    refine q_when (b := decide (V.int (w : Int) = V.int ((0 : Nat) : Int))) (tst (n := 0)) (fun hb H1 e1 => ?_) fun hb0 H1 e1 => ?_
    · have hw := yes hb
      obtain ⟨dx, fs, t, ts, h1, h2, h3, h4, h5, h6⟩ := id (hF.mono e1)
      refine ⟨.ref x, rfl, x, dx, fs, rfl, h1, h4, v, rfl, x, v, d, ess, rfl, hF.mono e1, hd.mono e1, ?_⟩
      rcases hv with ⟨hR, k⟩ | ⟨k, ⟨r, _, _, _, hk⟩, _⟩ | ⟨⟨r, m, hE, rfl, rfl, hr, _⟩, k⟩
      · exact .inr ⟨hR, k.mono e1⟩
      · exfalso; omega
      · exact .inl ⟨r, ess[r], rfl, rfl, List.getElem?_eq_getElem hr, fun H2 t e2 _ => k H2 _ (e1.trans e2)⟩
    refine q_when (b := decide (V.int (w : Int) = V.int ((1 : Nat) : Int))) (tst (n := 1)) (fun hb H2 e2 => ?_) fun hb1 H2 e2 => ?_
    · have hw := yes hb
      have e02 := e1.trans e2
      refine ⟨.ref x, rfl, v, rfl, u, rfl, ?_⟩
      rcases hv with ⟨hR, k⟩ | ⟨k, ⟨r, rfl, rfl, hr, hk⟩, kE⟩ | ⟨⟨r, m, hE, rfl, rfl, hr, hg, _⟩, k⟩
      · exact .inr ⟨x, v, u, d, ess, rfl, hF.mono e02, hd.mono e02, .inl ⟨hR, k.mono e02⟩⟩
      · rcases hk with ⟨_, ho, rfl⟩ | ⟨z, _⟩ | ⟨z, _⟩
        · exact .inr ⟨x, _, u, _, ess, rfl, hF.mono e02, hd.mono e02, .inr ⟨r, rfl, rfl, hr, ho.mono e02, fun H3 e3 => kE H3 (e02.trans e3)⟩⟩
        · exfalso; omega
        · exfalso; omega
      · obtain ⟨l, rfl, hB, hl⟩ := hg hw
        obtain ⟨nv, hnv⟩ := rk_any hE hl
        exact .inl ⟨x, r, l, ess, nv, rfl, hF.mono e02, hE.eight, hnv, by omega, adr_yes hB hl, hr, fun H3 y e3 _ => k H3 y (e02.trans e3)⟩
    refine q_when (b := decide (V.int (w : Int) = V.int ((2 : Nat) : Int))) (tst (n := 2)) (fun hb H3 e3 => ?_) fun hb2 H3 e3 => ?_
    · have hw := yes hb
      have e03 := (e1.trans e2).trans e3
      refine ⟨.ref x, rfl, v, rfl, ?_⟩
      rcases hv with ⟨hR, k⟩ | ⟨k, ⟨r, _, _, _, hk⟩, _⟩ | ⟨⟨r, m, hE, rfl, rfl, hr, _⟩, k⟩
      · exact .inr ⟨x, v, d, ess, rfl, hF.mono e03, hd.mono e03, hR, k.mono e03⟩
      · exfalso; omega
      · exact .inl ⟨x, r, m, ess, hE, rfl, hF.mono e03, hr, fun H4 D rs _ e4 _ _ => k H4 _ (e03.trans e4)⟩
    refine q_when (b := decide (V.int (w : Int) = V.int ((3 : Nat) : Int))) (tst (n := 3)) (fun hb H4 e4 => ?_) fun hb3 H4 e4 => ?_
    · have hw := yes hb
      have e04 := ((e1.trans e2).trans e3).trans e4
      refine ⟨.ref x, rfl, v, rfl, u, rfl, x, v, u, d, ess, rfl, hF.mono e04, hd.mono e04, ?_⟩
      rcases hv with ⟨hR, k⟩ | ⟨k, ⟨r, rfl, rfl, hr, hk⟩, kE⟩ | ⟨⟨r, m, hE, rfl, rfl, hr, _, hg, _⟩, k⟩
      · exact .inl ⟨hR, k.mono e04⟩
      · rcases hk with ⟨z, _⟩ | ⟨z, _⟩ | ⟨_, ho, rfl⟩
        · exfalso; omega
        · exfalso; omega
        · exact .inr ⟨r, rfl, rfl, hr, .inl ⟨ho.mono e04, fun H5 e5 => kE H5 (e04.trans e5)⟩⟩
      · obtain ⟨z, rfl, hz⟩ := hg hw
        exact .inr ⟨r, rfl, rfl, hr, .inr ⟨m, hE, z, rfl, hz, fun H5 y e5 => k H5 y (e04.trans e5)⟩⟩
    have hw : w = 4 := by
      have := nop (n := 0) hb0
      have := nop (n := 1) hb1
      have := nop (n := 2) hb2
      have := nop (n := 3) hb3
      omega
    have e04 := ((e1.trans e2).trans e3).trans e4
    refine ⟨.ref x, rfl, v, rfl, u, rfl, x, v, u, d, ess, rfl, hF.mono e04, hd.mono e04, ?_⟩
    rcases hv with ⟨hR, k⟩ | ⟨k, ⟨r, rfl, rfl, hr, hk⟩, kE⟩ | ⟨⟨r, m, hE, rfl, rfl, hr, _, _, hg⟩, k⟩
    · exact .inl ⟨hR, k.mono e04⟩
    · rcases hk with ⟨z, _⟩ | ⟨_, ho, rfl⟩ | ⟨z, _⟩
      · exfalso; omega
      · exact .inr ⟨r, rfl, rfl, hr, .inl ⟨RwF.mono e04 ho, fun H5 e5 => kE H5 (e04.trans e5)⟩⟩
      · exfalso; omega
    · obtain ⟨a, rs, rfl, h1, h2, h3⟩ := hg hw
      exact .inr ⟨r, rfl, rfl, hr, .inr ⟨m, hE, a, rs, rfl, h1.mono e04, h2, h3, fun H5 y e5 => k H5 y (e04.trans e5)⟩⟩
/-! _law_error -/
def spLE (K : PySem.W.Frag) (CF CT : Addr) : Sp := fun vs H Q _ => ∃ (x : Addr) (w : Nat) (v u : V) (d : PyData) (ess : List (List Row)), vs = [.ref x, .int (w : Int), v, u] ∧ w ≤ 4 ∧ Fl CF CT H x ess ∧ Dq H v d ∧
  ((isR (ess.length : Int) d = false ∧ ∀ H' t, Ex H H' → H' t = some (.tup [.str "router", v]) → Q (.ref t) H') ∨
   (∃ k, ThingC K H ess w v u d k ∧ ∀ H' t l, Ex H H' → H' t = some (.tup [.str "thing", .ref l]) → H' l = some (.lst [.bl (decide (k = 0)), .bl (decide (k = 1)), .bl (decide (k = 2))]) → Q (.ref t) H') ∨
   (GoodC H ess w v u d ∧ ∀ H' t, Ex H H' → H' t = some (.tup [.str "none"]) → Q (.ref t) H'))
abbrev sLE : Stmt := top 54
abbrev nLE : List Str := ["_law_field", "_law_which", "_law_start", "_law_thing", "e", "_law_kinds"]
theorem scLE : FnScope nLE ["_law_field", "_law_which", "_law_start", "_law_thing"] (defScope sLE) := ⟨rfl, rfl, rfl, by decide +kernel, rfl, by decide +kernel, by decide +kernel⟩
theorem ok_le (B : Bl mg) (hVE : mg "ValueError" = none) (gWi : mg "WishError" = some (.ref CWi)) (TN : ErrF P w K mg base "NoRouter" CN "router") (gA : mg "BadAddress" = some (.ref CA)) (gB : mg "BadRanges" = some (.ref CB)) (gW : mg "BadWord" = some (.ref CW))
    (EN : EK4 K CN CWi CN CA CB CW true false false false) (EA : EK4 K CA CWi CN CA CB CW false true false false) (EB : EK4 K CB CWi CN CA CB CW false false true false) (EW : EK4 K CW CWi CN CA CB CW false false false true)
    (C : CalX P w K mg base "_law_call" nLC 15 (spLC K CF CT CN CA CB CW)) (F : FnP K "_law_error" sLE f fd) : FnOk P w K mg base CX0 16 f fd ["_law_field", "_law_which", "_law_start", "_law_thing"] (spLE K CF CT) := by
  obtain ⟨f1, fd1, F1, g1, k1, b1⟩ := C.ex
  refine F.ok scLE (fun vs H Q E h => ?_) (fun cdv A outer s H vs Q E hr h => ?_)
  · obtain ⟨x, w, v, u, d, ess, rfl, _⟩ := h
    rfl
  · obtain ⟨x, w, v, u, d, ess, rfl, hw4, hF, hd, hv⟩ := h
    refine ⟨_, pss_cons (ps_try_as (i := 4) rfl rfl scLE.nd rfl rfl ⟨rfl, by decide, .inl gWi⟩ takes0
          (fun W pn xe tk _ => pss_one (ps_expr (pe_callS F1 (hr.mono (by decide)) (by rfl) g1 k1 b1 (fun σ => passAt tk σ) (pa_cons (pv 0) (pa_cons (pv 1) (pa_cons (pv 2) (pa_cons (pv 3) pa_nil)))))))
          (fun a oe cls d pn hz hf => pss_cons (ps_if (pt_not (pt_val (pe_callB (call_isG (K := K) rfl hz hf) (by rfl) B.isi boot_isinstance (pa_cons (pv 4) (pa_cons (pe_bltn (v := .ty "ValueError") (by rfl) hVE boot_ValueError rfl) pa_nil))))) (pss_one (ps_ret (pe_tup (pa_cons pe_str pa_nil)))) pss_nil)
            (pss_cons (ps_if (pt_val (pe_callB (call_isG (K := K) rfl hz hf) (by rfl) B.isi boot_isinstance (pa_cons (pv 4) (pa_cons (pe_glob (v := .ref CN) (by rfl) TN.g rfl) pa_nil)))) (pss_one (ps_ret (pe_tup (pa_cons pe_str (pa_cons (pe_xf TN.xf TN.no hz hf (pv 4)) pa_nil))))) pss_nil)
            (pss_cons (ps_set (i := 5) scLE.nd rfl (Or.inl rfl) (pe_lst (pa_cons (pe_callB (call_isG (K := K) rfl hz hf) (by rfl) B.isi boot_isinstance (pa_cons (pv 4) (pa_cons (pe_glob (v := .ref CA) (by rfl) gA rfl) pa_nil))) (pa_cons (pe_callB (call_isG (K := K) rfl hz hf) (by rfl) B.isi boot_isinstance (pa_cons (pv 4) (pa_cons (pe_glob (v := .ref CB) (by rfl) gB rfl) pa_nil)))
                (pa_cons (pe_callB (call_isG (K := K) rfl hz hf) (by rfl) B.isi boot_isinstance (pa_cons (pv 4) (pa_cons (pe_glob (v := .ref CW) (by rfl) gW rfl) pa_nil))) pa_nil)))))
            (pss_one (ps_ret (pe_tup (pa_cons pe_str (pa_cons (pv 5) pa_nil)))))))))
      (pss_one (ps_ret (pe_tup (pa_cons pe_str pa_nil)))), ?_⟩
    -- isinstance of the caught one
    have isg : ∀ {a : Addr} {D : Addr} {dd : Option Addr} {c : V} {cv : Value} {b : Bool} {σ : L2.St} {H1 : Hp}, σ[4]? = some (some (.ref a)) → ExcC K D → ClsV c cv → PySem.W.kitOne K (.ref D) cv = some b → ((∃ dx fs, dd = some dx ∧ H1 dx = some (.xd fs)) ∨ dd = none) → Ev (tCB (rIsG K a (.ref D) dd) (tCons (tVar 4) (tCons (tC c) tNil))) σ H1 (.bl b) := fun {a D dd c cv b σ H1} hσ hC hc hk hdd H2 e2 Q2 q2 => ⟨.ref a, hσ, D, c, cv, b, rfl, hC, rfl, hc, hk, hdd.imp (fun ⟨dx, fs, z1, z2⟩ => ⟨dx, fs, z1, e2 _ _ z2⟩) id, q2 H2 (Ex.refl _)⟩
    refine ⟨.ref x, rfl, .int (w : Int), rfl, v, rfl, u, rfl, x, w, v, u, d, ess, rfl, hw4, hF, hd, ?_⟩
    rcases hv with ⟨hR, k⟩ | ⟨kk, hT, k⟩ | ⟨hG, k⟩
    · refine .inl ⟨hR, fun dy H2 h0 e2 hy => ?_⟩
      refine ⟨true, EN.x, fun _ a ha => ?_, fun z => Bool.noConfusion z⟩
      refine q_when (b := !true) (et_not (et_B (isg rfl EN.ex (.ty "ValueError") EN.kV (.inl ⟨dy, _, rfl, hy⟩)))) (fun z => by cases z) fun _ H3 e3 => ?_
      have hy3 := e3 _ _ hy
      refine q_when (b := true) (et_B (isg rfl EN.ex (.own CN) EN.kN (.inl ⟨dy, _, rfl, hy3⟩))) (fun _ H4 e4 => ?_) (fun z => by cases z)
      refine ⟨.ref a, rfl, rfl, rfl, dy, _, v, rfl, e4 _ _ hy3, rfl, by show 2 ≤ sizeLine; decide, fun t ht => ?_⟩
      exact k _ t (((e2.trans e3).trans e4).trans (Ex.new ht)) upd_same
    · obtain ⟨D, n0, n1, n2, ED, hD, h0, h1, h2⟩ : ∃ D n0 n1 n2, EK4 K D CWi CN CA CB CW false n0 n1 n2 ∧ (if kk = 0 then CA else if kk = 1 then CB else CW) = D ∧ n0 = decide (kk = 0) ∧ n1 = decide (kk = 1) ∧ n2 = decide (kk = 2) := by
        obtain ⟨r, _, _, _, hk⟩ := id hT
        rcases hk with ⟨_, _, rfl⟩ | ⟨_, _, rfl⟩ | ⟨_, _, rfl⟩
        · exact ⟨CA, true, false, false, EA, rfl, rfl, rfl, rfl⟩
        · exact ⟨CB, false, true, false, EB, rfl, rfl, rfl, rfl⟩
        · exact ⟨CW, false, false, true, EW, rfl, rfl, rfl, rfl⟩
      refine .inr (.inl ⟨kk, hT, fun H2 e2 => ?_⟩)
      rw [hD]
      refine ⟨true, ED.x, fun _ a ha => ?_, fun z => Bool.noConfusion z⟩
      refine q_when (b := !true) (et_not (et_B (isg rfl ED.ex (.ty "ValueError") ED.kV (.inr rfl)))) (fun z => by cases z) fun _ H3 e3 => ?_
      refine q_when (b := false) (et_B (isg rfl ED.ex (.own CN) ED.kN (.inr rfl))) (fun z => by cases z) fun _ H4 e4 => ?_
      refine q_asgL (el_lst (vs := [.bl n0, .bl n1, .bl n2]) (ea_cons (isg rfl ED.ex (.own CA) ED.kA (.inr rfl)) (ea_cons (isg rfl ED.ex (.own CB) ED.kB (.inr rfl)) (ea_cons (isg rfl ED.ex (.own CW) ED.kW (.inr rfl)) ea_nil))) (by show 3 ≤ 100000; decide)) fun l H5 n5 e5 h5 => ?_
      refine ⟨.ref l, rfl, by show 2 ≤ sizeLine; decide, fun t ht => ?_⟩
      refine k _ t l ((((e2.trans e3).trans e4).trans e5).trans (Ex.new ht)) upd_same ?_
      rw [← h0, ← h1, ← h2]
      exact (Ex.new ht) _ _ h5
    · refine .inr (.inr ⟨hG, fun H2 y e2 => ?_⟩)
      refine ⟨by show 1 ≤ sizeLine; decide, fun t ht => ?_⟩
      exact k _ t (e2.trans (Ex.new ht)) upd_same
end
end Wk

set_option Elab.async false
set_option linter.all false
set_option maxRecDepth 100000
set_option maxHeartbeats 4000000
namespace Wk
open PySem PySem.Spec PyProof.Rows L2 Evl
def isBo : PyData → Bool
  | .bool _ => true
  | _ => false
theorem kit_boo (d : PyData) : kitB (tyN d) "bool" = some (isBo d) := by
  cases d with
  | none => exact show kitB "NoneType" "bool" = some false by decide +kernel
  | bool b => exact show kitB "bool" "bool" = some true by decide +kernel
  | int i => exact show kitB "int" "bool" = some false by decide +kernel
  | str z => exact show kitB "str" "bool" = some false by decide +kernel
  | list ds => exact show kitB "list" "bool" = some false by decide +kernel
  | tuple ds => exact show kitB "tuple" "bool" = some false by decide +kernel
  | dict ds => exact show kitB "dict" "bool" = some false by decide +kernel
/-- data that can be compared -/
def CmD (d : PyData) : Prop := d.canLay0 = true ∧ SeqAt.shaped d = true
theorem rv_neC {K : PySem.W.Frag} {H : Hp} {u v : V} {d e : PyData} (hu : Dq H u d) (hv : Dq H v e) (hd : CmD d) (he : CmD e) : RV (rNeD K) u v H (.bl (!PyData.eqv d e)) := fun H1 e1 Q q =>
  ⟨d, e, Dq.dp hd.1 (hu.mono e1), Dq.dp he.1 (hv.mono e1), hd.2, he.2, q H1 (Ex.refl _)⟩
theorem rv_eqC {K : PySem.W.Frag} {H : Hp} {u v : V} {d e : PyData} (hu : Dq H u d) (hv : Dq H v e) (hd : CmD d) (he : CmD e) : RV (rEqD K) u v H (.bl (PyData.eqv d e)) := fun H1 e1 Q q =>
  ⟨d, e, Dq.dp hd.1 (hu.mono e1), Dq.dp he.1 (hv.mono e1), hd.2, he.2, q H1 (Ex.refl _)⟩
section
variable {P : Program} {w : World} {K : PySem.W.Frag} {mg : Str → Option Value} {base : Heap} {f : Addr} {fd : FuncData} {CT CF : Addr}
/-! _law_no_routers -/
def spNRs (CF CT : Addr) : Sp := fun vs H Q _ => ∃ (x : Addr) (v u : V) (d : PyData) (ess : List (List Row)), vs = [.ref x, v, u] ∧ Fl CF CT H x ess ∧ Dq H v d ∧ CmD d ∧ isR (ess.length : Int) d = false ∧ ∀ H', Ex H H' → Q (.bl true) H'
abbrev sNRs : Stmt := top 55
abbrev nNRs : List Str := ["_law_field", "_law_start", "_law_thing", "_law_which", "_law_told"]
theorem scNRs : FnScope nNRs ["_law_field", "_law_start", "_law_thing"] (defScope sNRs) := ⟨rfl, rfl, rfl, by decide +kernel, rfl, by decide +kernel, by decide +kernel⟩
theorem ok_nrs (B : Bl mg) (C : Cal P w K mg base "_law_error" ["_law_field", "_law_which", "_law_start", "_law_thing"] 16 (spLE K CF CT)) (F : FnP K "_law_no_routers" sNRs f fd) : FnOk P w K mg base CX0 17 f fd ["_law_field", "_law_start", "_law_thing"] (spNRs CF CT) := by
  refine F.ok scNRs (fun vs H Q E h => ?_) (fun cdv A outer s H vs Q E hr h => ?_)
  · obtain ⟨x, v, u, d, ess, rfl, _⟩ := h
    rfl
  · obtain ⟨x, v, u, d, ess, rfl, hF, hd, hc, hR, k⟩ := h
    have hu : (A.deeper (envOfC "_law_no_routers" (defScope sNRs) s.heap.objs.size f cdv)).units + 64 < cLine := by have := hr.un; omega
    refine ⟨_, pss_cons (ps_for (passes_of rfl) rfl (pi_range1 (by rfl) B.range (pa_cons pe_int pa_nil)) (pg_name (i := 3) scNRs.nd rfl (Or.inl rfl))
        (pss_cons (ps_set (i := 4) scNRs.nd rfl (Or.inl rfl) (pe_cal C hr (by rfl) (pa_cons (pv 0) (pa_cons (pv 3) (pa_cons (pv 1) (pa_cons (pv 2) pa_nil))))))
        (pss_cons (ps_if (PW.pt (pw_or (pt_cmpR op_ne (pe_callB call_len_seq (by rfl) B.len PySem.boot_len (pa_cons (pv 4) pa_nil)) pe_int (nomark _)) (pw_or1 (pt_cmpR op_ne (pe_ix ix_tup (pv 4) pe_int (fun _ _ => rfl)) pe_str (nomark _))))) (pss_one (ps_ret pe_bl)) pss_nil)
        (pss_one (ps_if (PW.pt (pw_or (pt_cmpR op_ne (pe_callB call_isi (by rfl) B.isi boot_isinstance (pa_cons (pe_ix ix_tup (pv 4) pe_int (fun _ _ => rfl)) (pa_cons (pe_bltn (v := .ty "bool") (by rfl) B.bool PyProof.Rows.boot_bool rfl) pa_nil)))
            (pe_callB call_isi (by rfl) B.isi boot_isinstance (pa_cons (pv 1) (pa_cons (pe_bltn (v := .ty "bool") (by rfl) B.bool PyProof.Rows.boot_bool rfl) pa_nil))) (nomark _)) (pw_or1 (pt_cmpR (op_neD hu) (pe_ix ix_tup (pv 4) pe_int (fun _ _ => rfl)) (pv 1) (nomark _))))) (pss_one (ps_ret pe_bl)) pss_nil)))))
      (pss_one (ps_ret pe_bl)), ?_⟩
    refine q_forR1 (n := 5) (ea_cons ev_c ea_nil) (by decide) (fun i σ' H' => ∃ o3 o4, σ' = [some (.ref x), some v, some u, o3, o4] ∧ Ex H H') (fun H1 e1 => ⟨_, _, rfl, e1⟩) (fun i σ' H' hi hp => ?_) (fun σ' H' hp => ?_)
    · obtain ⟨o3, o4, rfl, e1⟩ := hp
      change tSeq _ _ _ [some (.ref x), some v, some u, some (.int (i : Int)), o4] H'
      have hi5 : i ≤ 4 := by omega
      refine ⟨.ref x, rfl, .int (i : Int), rfl, v, rfl, u, rfl, x, i, v, u, d, ess, rfl, hi5, hF.mono e1, hd.mono e1, .inl ⟨hR, fun H2 t e2 ht => ?_⟩⟩
      refine g_name ?_
      dsimp only
      change tSeq _ _ _ [some (.ref x), some v, some u, some (.int (i : Int)), some (.ref t)] H2
      have e12 := e1.trans e2
      have ix : ∀ {H1 : Hp} {n : Nat} {z : V}, [V.str "router", v][n]? = some z → Ex H2 H1 → Ev (tOp (rIxT K) (tVar 4) (tC (.int (n : Int)))) [some (.ref x), some v, some u, some (.int (i : Int)), some (.ref t)] H1 z := fun {H1 n z} hz e => ev_op (ev_var rfl) ev_c (rv_ixT (st_of (e _ _ ht)) (atI_nat hz))
      have c1 : Ev (tOp rNe (tCB (rLenS K) (tCons (tVar 4) tNil)) (tC (.int 2))) [some (.ref x), some v, some u, some (.int (i : Int)), some (.ref t)] H2 (.bl (!decide (V.int (([V.str "router", v].length : Nat) : Int) = V.int 2))) := ev_op (ev_lenT (K := K) (ev_var rfl) (st_of ht)) ev_c (rv_ne rfl)
      have c2 : Ev (tOp rNe (tOp (rIxT K) (tVar 4) (tC (.int 0))) (tC (.str "router"))) [some (.ref x), some v, some u, some (.int (i : Int)), some (.ref t)] H2 (.bl (!decide (V.str "router" = V.str "router"))) := ev_op (ix (n := 0) rfl (Ex.refl _)) ev_c (rv_ne rfl)
      refine q_when (b := (!decide (V.int (([V.str "router", v].length : Nat) : Int) = V.int 2)) || (!decide (V.str "router" = V.str "router"))) (et_or (et_test c1) fun _ => et_test c2) (fun hz _ _ => ?_) fun _ H3 e3 => ?_
      · rw [decide_eq_true (show V.int (([V.str "router", v].length : Nat) : Int) = V.int 2 from rfl), decide_eq_true rfl] at hz
        cases hz
      have c3 : Ev (tOp rNe (tCB (rIsi K) (tCons (tOp (rIxT K) (tVar 4) (tC (.int 1))) (tCons (tC (.ty "bool")) tNil))) (tCB (rIsi K) (tCons (tVar 1) (tCons (tC (.ty "bool")) tNil)))) [some (.ref x), some v, some u, some (.int (i : Int)), some (.ref t)] H3 (.bl (!decide (V.bl (isBo d) = V.bl (isBo d)))) :=
        ev_op (ev_isk (K := K) (ix (n := 1) rfl e3) (isk_dq ((hd.mono e12).mono e3) (kit_boo d))) (ev_isk (K := K) (ev_var rfl) (isk_dq ((hd.mono e12).mono e3) (kit_boo d))) (rv_ne rfl)
      have c4 : Ev (tOp (rNeD K) (tOp (rIxT K) (tVar 4) (tC (.int 1))) (tVar 1)) [some (.ref x), some v, some u, some (.int (i : Int)), some (.ref t)] H3 (.bl (!PyData.eqv d d)) := ev_op (ix (n := 1) rfl e3) (ev_var rfl) (rv_neC ((hd.mono e12).mono e3) ((hd.mono e12).mono e3) hc hc)
      refine s_when (b := (!decide (V.bl (isBo d) = V.bl (isBo d))) || (!PyData.eqv d d)) (et_or (et_test c3) fun _ => et_test c4) (fun hz _ _ => ?_) fun _ H4 e4 => ⟨_, _, rfl, (e12.trans e3).trans e4⟩
      rw [decide_eq_true rfl, SeqAt.eqv_refl _ hc.1] at hz
      cases hz
    · obtain ⟨o3, o4, rfl, e1⟩ := hp
      exact k H' e1
end
end Wk

set_option Elab.async false
set_option linter.all false
set_option maxRecDepth 100000
set_option maxHeartbeats 4000000
namespace Wk
open PySem PySem.Spec PyProof.Rows L2 Evl
section
variable {K : PySem.W.Frag} {CT : Addr}
theorem tst_of {H : Hp} : ∀ {ts : List V} {ess : List (List Row)}, ts.length = ess.length → (∀ (r : Nat) (v : V), ts[r]? = some v → ∃ x es, ess[r]? = some es ∧ v = .ref x ∧ Tb CT H x es) → TsT CT H ts ess
  | [], [], _, _ => .nil
  | [], _ :: _, h, _ => by cases h
  | _ :: _, [], h, _ => by cases h
  | t :: ts, es :: ess, h, k => by
    obtain ⟨x, e, h1, h2, h3⟩ := k 0 t rfl
    cases h1
    subst h2
    exact .cons h3 (tst_of (by simpa using h) fun r v hv => k (r + 1) v hv)
/-- the tables of a list of rows -/
theorem lc_tb {σ : L2.St} {H : Hp} {te tl : TE} {j : Nat} {vs : List Nat} {Q : VK} {a : Addr} {us : List V} {ess : List (List Row)} (ha : Ev tl σ H (.ref a)) (hx : H a = some (.lst us)) (hlen : us.length = ess.length) (hl : us.length ≤ 100) (hw : ∀ x, wipe ((wipe σ vs).set j (some x)) vs = wipe σ vs)
    (he : ∀ (i : Nat) u es H', Ex H H' → us[i]? = some u → ess[i]? = some es → ∀ Q' : VK, (∀ x H'', Ex H' H'' → H' x = none → Tb CT H'' x es → Q' (.ref x) H'') → te ((wipe σ vs).set j (some u)) H' Q')
    (k : ∀ D H' ts, H D = none → Ex H H' → H' D = some (.lst ts) → TsT CT H' ts ess → Q (.ref D) H') : tLc (iList K tl) (gName j) tYes te vs σ H Q := by
  refine lc_made (K := K) (xs := us) (Y := fun r H v => ∃ x es, ess[r]? = some es ∧ v = .ref x ∧ Tb CT H x es) (fun Q' q' => ha H (Ex.refl _) _ fun H1 e1 => q' a H1 e1 (e1 _ _ hx)) (by omega) hw
    (fun i v H1 H2 e h => by
      obtain ⟨x, es, i1, i2, i3⟩ := h
      exact ⟨x, es, i1, i2, i3.mono e⟩)
    (fun i v H1 D ys o hD _ h => by
      obtain ⟨x, es, i1, i2, i3⟩ := h
      exact ⟨x, es, i1, i2, i3.updL hD⟩)
    (fun i u H1 e1 hu Q' q' => ?_) (fun D H1 ts nD e1 hD hlt hts => k D H1 ts nD e1 hD (tst_of (by omega) hts))
  have hi : i < ess.length := by have := (List.getElem?_eq_some_iff.mp hu).1; omega
  refine he i u ess[i] H1 e1 hu (List.getElem?_eq_getElem hi) Q' fun x H2 e2 nx hT => q' _ H2 e2 ⟨x, ess[i], List.getElem?_eq_getElem hi, rfl, hT⟩ fun D ys hD z => ?_
  injection z with z
  rw [z, hD] at nx
  cases nx
end
/-! things put together of what stands and what is new -/
def Ag (H0 H G : Hp) : Prop := ∀ a o, H0 a = none → H a = some o → G a = some o
theorem Ag.mono {H0 H H' G : Hp} (e : Ex H H') (h : Ag H0 H' G) : Ag H0 H G := fun a o h0 h1 => h a o h0 (e _ _ h1)
theorem Ag.grow {H0 H G : Hp} : Ag H0 H (fun b => match H0 b with | none => H b | some _ => G b) := fun a o h1 h2 => by
  dsimp only
  rw [h1]
  exact h2
def EvYA (t : TA) (σ : L2.St) (H : Hp) (Y : Hp → V → Prop) (n : Nat) : Prop := ∀ H1, Ex H H1 → ∀ Q : List V → Hp → Prop, (∀ us H2, Ex H1 H2 → us.length = n → (∀ u ∈ us, Y H2 u) → Q us H2) → t σ H1 Q
def EvYo (te : TE) (σ : L2.St) (H : Hp) (Y : Hp → V → Prop) : Prop := ∀ H1, Ex H H1 → ∀ Q : VK, (∀ u H2, Ex H1 H2 → Y H2 u → Q u H2) → te σ H1 Q
section
variable {σ : L2.St} {H : Hp} {te tx ty : TE} {t : TA} {v : V} {n : Nat} {Y : Hp → V → Prop}
theorem eya_nil : EvYA tNil σ H Y 0 := fun H1 e Q q => q [] H1 (Ex.refl _) rfl (fun _ h => by cases h)
theorem eya_cons (hm : ∀ H H' v, Ex H H' → Y H v → Y H' v) (h : EvYo te σ H Y) (h2 : EvYA t σ H Y n) : EvYA (tCons te t) σ H Y (n + 1) := fun H1 e Q q =>
  h H1 e _ fun u H2 e2 hu => h2 H2 (e.trans e2) _ fun us H3 e3 hl hus => q (u :: us) H3 (e2.trans e3) (by simp [hl]) fun x hx => (List.mem_cons.mp hx).elim (fun z => by rw [z]; exact hm _ _ _ e3 hu) (hus x)
theorem eyo_ev (h : Ev te σ H v) (hy : ∀ H1, Ex H H1 → Y H1 v) : EvYo te σ H Y := fun H1 e Q q => h H1 e _ fun H2 e2 => q v H2 e2 (hy H2 (e.trans e2))
end
end Wk

set_option Elab.async false
set_option linter.all false
set_option maxRecDepth 100000
set_option maxHeartbeats 4000000
namespace Wk
open PySem PySem.Spec PyProof.Rows L2 Evl
/-! things that are no table, and tables, beside a pool at p -/
inductive OddT (p : Addr) (H : Hp) : V → Prop
  | non : OddT p H .non
  | int (i : Int) : OddT p H (.int i)
  | str (z : Str) : OddT p H (.str z)
  | bl (b : Bool) : OddT p H (.bl b)
  | tup {a : Addr} {xs : List V} : H a = some (.tup xs) → OddT p H (.ref a)
  | dic {a : Addr} {kvs : List (L2.Key × V)} : H a = some (.dK kvs) → a ≠ p → OddT p H (.ref a)
theorem OddT.mono {p : Addr} {H H' : Hp} {v : V} (e : Ex H H') (h : OddT p H v) : OddT p H' v := by
  cases h with
  | non => exact .non
  | int i => exact .int i
  | str z => exact .str z
  | bl b => exact .bl b
  | tup a => exact .tup (e _ _ a)
  | dic a b => exact .dic (e _ _ a) b
theorem OddT.updL {p D : Addr} {H : Hp} {v : V} {xs : List V} {o : HO} (hD : H D = some (.lst xs)) (h : OddT p H v) : OddT p (upd H D o) v := by
  cases h with
  | non => exact .non
  | int i => exact .int i
  | str z => exact .str z
  | bl b => exact .bl b
  | tup a => exact .tup (by rw [upd_ne (fun z => by rw [z, hD] at a; cases a)]; exact a)
  | dic a b => exact .dic (by rw [upd_ne (fun z => by rw [z, hD] at a; cases a)]; exact a) b
theorem OddT.hd {p g c : Addr} {G H : Hp} {v : V} (hP : Pq G H p g c) (h : OddT p H v) : OddT p (Hd2 H p g) v := by
  obtain ⟨cs, gs, k, s, m, i1, i2, i3, i4, i5, r⟩ := hP.at_
  cases h with
  | non => exact .non
  | int i => exact .int i
  | str z => exact .str z
  | bl b => exact .bl b
  | tup a => exact .tup (hP.tupH a)
  | dic a b => exact .dic (by rw [hd2_at b (fun z => by rw [z, i5] at a; cases a)]; exact a) b
/-- more of what isinstance tells -/
structure NT (K : PySem.W.Frag) (CT : Addr) : Prop where
  self : PySem.W.kitOne K (.ref CT) (.ref CT) = some true
  nn : PySem.W.kitOne K (.type "NoneType") (.ref CT) = some false
  ii : PySem.W.kitOne K (.type "int") (.ref CT) = some false
  ss : PySem.W.kitOne K (.type "str") (.ref CT) = some false
  bb : PySem.W.kitOne K (.type "bool") (.ref CT) = some false
  tt : PySem.W.kitOne K (.type "tuple") (.ref CT) = some false
  dd : PySem.W.kitOne K (.type "dict") (.ref CT) = some false
theorem OddT.isc {K : PySem.W.Frag} {CT p : Addr} {H : Hp} {v : V} (N : NT K CT) (h : OddT p H v) : IsC K H v CT false := by
  cases h with
  | non => exact fun H' e => ⟨_, ((Dq.non : Dq H .non .none).mono e).ty, N.nn⟩
  | int i => exact fun H' e => ⟨_, ((Dq.int i : Dq H (.int i) (.int i)).mono e).ty, N.ii⟩
  | str z => exact fun H' e => ⟨_, ((Dq.str z : Dq H (.str z) (.str z)).mono e).ty, N.ss⟩
  | bl b => exact fun H' e => ⟨_, ((Dq.bl b : Dq H (.bl b) (.bool b)).mono e).ty, N.bb⟩
  | tup a => exact fun H' e => ⟨_, .base (.tup (e _ _ a)), N.tt⟩
  | dic a _ => exact fun H' e => ⟨_, .base (.dK (e _ _ a)), N.dd⟩
def TbJ (CT p : Addr) (H : Hp) (v : V) : Option (List Row) → Prop
  | some es => ∃ x, v = .ref x ∧ Tb CT H x es ∧ EsOk es 24
  | none => OddT p H v
theorem TbJ.mono {CT p : Addr} {H H' : Hp} {v : V} (e : Ex H H') : ∀ {o : Option (List Row)}, TbJ CT p H v o → TbJ CT p H' v o
  | some _, ⟨x, h1, h2, h3⟩ => ⟨x, h1, h2.mono e, h3⟩
  | none, h => OddT.mono e h
theorem TbJ.updL {CT p D : Addr} {H : Hp} {v : V} {xs : List V} {o' : HO} (hD : H D = some (.lst xs)) : ∀ {o : Option (List Row)}, TbJ CT p H v o → TbJ CT p (upd H D o') v o
  | some _, ⟨x, h1, h2, h3⟩ => ⟨x, h1, h2.updL hD, h3⟩
  | none, h => OddT.updL hD h
theorem TbJ.hd {CT p g c : Addr} {G H : Hp} {v : V} (hP : Pq G H p g c) : ∀ {o : Option (List Row)}, TbJ CT p H v o → TbJ CT p (Hd2 H p g) v o
  | some _, ⟨x, h1, h2, h3⟩ => ⟨x, h1, h2.hd hP fun e he => (h3.it e he).1, h3⟩
  | none, h => OddT.hd hP h
theorem TbJ.toI {K : PySem.W.Frag} {CT p : Addr} {H : Hp} {v : V} (N : NT K CT) : ∀ {o : Option (List Row)}, TbJ CT p H v o → TbI K CT H v o
  | some _, ⟨x, h1, h2, h3⟩ => ⟨x, h1, h2, fun e he => (h3.it e he).2.2, Nat.le_trans h3.len (by decide)⟩
  | none, h => OddT.isc N h
theorem esT_take {H : Hp} : ∀ {us : List V} {es : List Row} (n : Nat), EsT H us es → EsT H (us.take n) (es.take n)
  | _, _, n, .nil => by rw [List.take_nil, List.take_nil]; exact .nil
  | _, _, 0, .cons h t => .nil
  | _, _, n + 1, .cons h t => .cons h (esT_take n t)
theorem esT_drop {H : Hp} : ∀ {us : List V} {es : List Row} (n : Nat), EsT H us es → EsT H (us.drop n) (es.drop n)
  | _, _, n, .nil => by rw [List.drop_nil, List.drop_nil]; exact .nil
  | _, _, 0, .cons h t => .cons h t
  | _, _, n + 1, .cons h t => esT_drop n t
theorem esT_app {H : Hp} : ∀ {us vs : List V} {es fs : List Row}, EsT H us es → EsT H vs fs → EsT H (us ++ vs) (es ++ fs)
  | _, _, _, _, .nil, k => k
  | _, _, _, _, .cons h t, k => .cons h (esT_app t k)
theorem map_rng (es : List Row) (f : Row → V) (d : Row) : (List.range es.length).map (fun i => f (es.getD i d)) = es.map f := by
  apply List.ext_getElem
  · simp
  · intro i h1 h2
    have h3 : i < es.length := by simpa using h1
    simp [List.getD_eq_getElem?_getD, List.getElem?_eq_getElem h3]
theorem inV_ks (l : List Nat) : ∀ es : List Row, inV (.str (T l)) (es.map fun e => V.str (T e.1)) = decide (l ∈ es.map (·.1))
  | [] => rfl
  | e :: es => by
    have ih := inV_ks l es
    show (eqV (.str (T e.1)) (.str (T l)) || inV (.str (T l)) (es.map fun e => V.str (T e.1))) = _
    rw [ih]
    show ((T e.1 == T l) || _) = _
    rw [List.map_cons]
    by_cases h : e.1 = l
    · rw [h]; simp
    · have h2 : (T e.1 == T l) = false := beq_eq_false_iff_ne.mpr fun z => h (T_inj z)
      rw [h2, Bool.false_or]
      exact decide_eq_decide.mpr ⟨fun z => List.mem_cons_of_mem _ z, fun z => (List.mem_cons.mp z).elim (fun y => absurd y.symm h) id⟩
/-- a row with one entry changed or one more -/
theorem put_ok {es : List Row} {m pl : Nat} {l : List Nat} {y : V} (h : EsOk es m) (hm : m < 24) (hB : IsB l) (hl : l.length ≤ 10) (hy : NxV y) (h1 : ∀ e, es[pl]? = some e → l = e.1) (h2 : es.length ≤ pl → l ∉ es.map (·.1)) : EsOk (es.take pl ++ [(l, y)] ++ es.drop (pl + 1)) 24 := by
  have hlen := h.len
  refine ⟨?_, ?_, fun e he => ?_⟩
  · by_cases c : pl < es.length
    · have e0 : (es.take pl ++ [(l, y)] ++ es.drop (pl + 1)).map (·.1) = es.map (·.1) := by
        have e1 := h1 _ (List.getElem?_eq_getElem c)
        have e2 : es = es.take pl ++ es[pl] :: es.drop (pl + 1) := by rw [← List.drop_eq_getElem_cons c, List.take_append_drop]
        have e3 := congrArg (List.map (·.1)) e2
        rw [List.map_append, List.map_cons] at e3
        rw [e3, List.map_append, List.map_append, List.map_cons, List.map_nil, e1, List.append_assoc]
        rfl
      rw [e0]
      exact h.nd
    · have c2 : es.length ≤ pl := by omega
      rw [List.take_of_length_le c2, List.drop_of_length_le (by omega), List.append_nil, List.map_append, List.nodup_append]
      refine ⟨h.nd, by simp, fun a ha b hb => ?_⟩
      simp only [List.map_cons, List.map_nil, List.mem_singleton] at hb
      rw [hb]
      exact fun z => h2 c2 (z ▸ ha)
  · rw [List.length_append, List.length_append, List.length_take, List.length_drop, List.length_singleton]
    omega
  · rcases List.mem_append.mp he with he | he
    · rcases List.mem_append.mp he with he | he
      · exact h.it e (List.mem_of_mem_take he)
      · rw [List.mem_singleton.mp he]
        exact ⟨hB, hl, hy⟩
    · exact h.it e (List.mem_of_mem_drop he)
section
variable {P : Program} {w : World} {K : PySem.W.Frag} {mg : Str → Option Value} {base : Heap} {f : Addr} {fd : FuncData} {CT CF : Addr}
abbrev WF : L2.St → XK := fun _ _ _ _ => False
/-! _law_bad_table -/
def spBT (CT : Addr) : Sp := fun vs H Q _ => ∃ (G : Hp) (p g c rl : Addr) (n r : Nat) (rs : List V), vs = [.ref p, .ref rl, .int (r : Int)] ∧ Pq G H p g c ∧ G rl = some (.lst rs) ∧ rs.length = n ∧ 1 ≤ n ∧ n ≤ 8 ∧ r < n ∧ (∀ u ∈ rs, RowG n 6 G u) ∧
  ∀ G' H' v o, Gq p g c G H G' H' → TbJ CT p H' v o → okTb n o = false → Q v H'
abbrev sBT : Stmt := top 51
abbrev nBT : List Str := ["_law_pool_here", "_law_rows_here", "_law_router", "_law_size", "_law_row", "_law_odd", "_law_there", "_law_place", "_law_known", "_law_item", "_law_bits_here"]
theorem scBT : FnScope nBT ["_law_pool_here", "_law_rows_here", "_law_router"] (defScope sBT) := ⟨rfl, rfl, rfl, by decide +kernel, rfl, by decide +kernel, by decide +kernel⟩
theorem ok_bt (B : Bl mg) (MT : MkT P w K mg base CT) (C : Cal P w K mg base "_law_draw" ["_law_pool_here", "_law_many"] 1 spDrw) (CB : Cal P w K mg base "_law_bits" ["_law_pool_here", "_law_most"] 2 spBits) (F : FnP K "_law_bad_table" sBT f fd) : FnOk P w K mg base CX0 8 f fd ["_law_pool_here", "_law_rows_here", "_law_router"] (spBT CT) := by
  obtain ⟨fI, fdI, mk, FI, bI⟩ := MT.ex
  refine F.ok scBT (fun vs H Q E h => ?_) (fun cdv A outer s H vs Q E hr h => ?_)
  · obtain ⟨G, p, g, c, rl, n, r, rs, rfl, _⟩ := h
    rfl
  · obtain ⟨G, p, g, c, rl, n, r, rs, rfl, hP, hrl, hrn, hn1, hn8, hrr, hrows, k⟩ := h
    have r7 : Room 7 _ := hr.mono (by decide)
    refine ⟨_, pss_cons (ps_set (i := 3) scBT.nd rfl (Or.inl rfl) (pe_callB call_len_seq (by rfl) B.len PySem.boot_len (pa_cons (pv 1) pa_nil)))
      (pss_cons (ps_set (i := 4) scBT.nd rfl (Or.inl rfl) (pe_callTy (call_listK2 (K := K) rfl) (by rfl) B.list PyProof.Rows.boot_list (pa_cons (pe_ix (ix_listK (K := K) rfl) (pv 1) (pv 2) (fun _ _ => rfl)) pa_nil)))
      (pss_cons (ps_set (i := 5) scBT.nd rfl (Or.inl rfl) (pe_lst (pa_cons pe_non (pa_cons (pe_callTy (call_tupleK (K := K) rfl) (by rfl) B.tuple PyProof.Rows.boot_tuple (pa_cons (pv 4) pa_nil)) (pa_cons pe_int (pa_cons pe_str (pa_cons pe_dnewK
          (pa_cons (pe_tup (pa_cons (pe_mkAt (CX := CX0) (W := WF) mk FI r7 (by rfl) MT.g bI (fun _ _ _ _ _ _ _ h => h.elim) (pa_cons (pv 4) pa_nil)) pa_nil)) (pa_cons pe_bl pa_nil)))))))))
      (pss_cons (ps_if (PW.pt (pw_or (pt_cmpR op_eq (pv 3) pe_int (nomark _)) (pw_or1 (pt_cmpR op_eq (pe_cal C hr (by rfl) (pa_cons (pv 0) (pa_cons pe_int pa_nil))) pe_int (nomark _))))) (pss_one (ps_ret (pe_ix (ix_listK (K := K) rfl) (pv 5) (pe_cal C hr (by rfl) (pa_cons (pv 0) (pa_cons pe_int pa_nil))) (fun _ _ => rfl)))) pss_nil)
      (pss_cons (ps_set (i := 6) scBT.nd rfl (Or.inl rfl) (pe_op op_add (pv 3) (pe_cal C hr (by rfl) (pa_cons (pv 0) (pa_cons (pe_op op_sub pe_int (pv 3)) pa_nil)))))
      (pss_cons (ps_set (i := 7) scBT.nd rfl (Or.inl rfl) (pe_cal C hr (by rfl) (pa_cons (pv 0) (pa_cons (pe_op op_add (pe_callB call_len_seq (by rfl) B.len PySem.boot_len (pa_cons (pv 4) pa_nil)) pe_int) pa_nil))))
      (pss_cons (ps_setLc (i := 8) (own := [("_law_item", 9)]) (g := gName 9) (tt := tYes) rfl scBT.nd rfl rfl (sw_true rfl rfl rfl (by decide +kernel)) (pi_rowK (K := K) rfl (pv 4)) (blkOk_by (N := nBT) (sc := defScope sBT) (by decide +kernel)) (fun _ _ _ _ _ => pg_name (i := 9) scBT.nd rfl (Or.inl rfl)) (fun _ _ _ _ _ => pts_nil)
          (fun _ _ _ _ _ => pe_ix (ix_tupK (K := K) rfl) (pv 9) pe_int (fun _ _ => rfl)))
      (pss_cons (ps_set (i := 10) scBT.nd rfl (Or.inl rfl) (pe_cal CB hr (by rfl) (pa_cons (pv 0) (pa_cons pe_int pa_nil))))
      (pss_cut (ps_if (pt_cmpR op_lt (pv 7) (pe_callB call_len_seq (by rfl) B.len PySem.boot_len (pa_cons (pv 4) pa_nil)) (nomark _)) (pss_one (ps_set (i := 10) scBT.nd rfl (Or.inl rfl) (pe_ix ix_tup (pe_ix (ix_listK (K := K) rfl) (pv 4) (pv 7) (fun _ _ => rfl)) pe_int (fun _ _ => rfl))))
          (pss_one (ps_if (pt_cmpR (op_in_seqK (K := K) rfl) (pv 10) (pv 8) rfl) (pss_one (ps_ret pe_non)) pss_nil)))
      (pss_one (ps_ret (pe_mkAt (CX := CX0) (W := WF) mk FI r7 (by rfl) MT.g bI (fun _ _ _ _ _ _ _ h => h.elim) (pa_cons (pe_op op_cat (pe_op op_cat (pe_slice sl_list (pv 4) po_none (po_some (pv 7))) (pe_lst (pa_cons (pe_tup (pa_cons (pv 10) (pa_cons (pv 6) pa_nil))) pa_nil)))
          (pe_slice sl_list (pv 4) (po_some (pe_op op_add (pv 7) pe_int)) po_none)) pa_nil)))))))))))), ?_⟩
    obtain ⟨l, us, es, hl0, hl, hus, hes, hway⟩ := hrows _ (List.getElem_mem (show r < rs.length by omega))
    have hrr2 : rs[r]? = some (.ref l) := by rw [List.getElem?_eq_getElem (show r < rs.length by omega), hl0]
    have hul := hus.length
    have hel := hes.len
    have eG := hP.ex
    refine q_asg (v := .int (n : Int)) (by rw [← hrn]; exact ev_len (K := K) (ev_var rfl) (sq_of (eG _ _ hrl))) fun H1 e1 => ?_
    refine q_asgW ?_
    refine (ev_ixR (K := K) (xs := rs) (i := r) (ev_var rfl) (ev_var rfl) ((eG.trans e1) _ _ hrl) hrr2) H1 (Ex.refl _) _ fun H2 e2 => ?_
    have hl2 := ((eG.trans e1).trans e2) _ _ hl
    refine ⟨l, us, rfl, .inl (sq_of hl2), fun rw hrw => ?_⟩
    have e3 := Ex.new (o := .lst us) hrw
    have hrw3 : (upd H2 rw (.lst us)) rw = some (.lst us) := upd_same
    generalize upd H2 rw (.lst us) = H3 at *
    dsimp only
    change tSeq (tAsg _ _) _ _ [some (.ref p), some (.ref rl), some (.int (r : Int)), some (.int (n : Int)), some (.ref rw), none, none, none, none, none, none] H3
    have e03 := (e1.trans e2).trans e3
    have hus3 := hus.mono (eG.trans e03)
    refine q_asgW ?_
    refine (show EvYA _ [some (.ref p), some (.ref rl), some (.int (r : Int)), some (.int (n : Int)), some (.ref rw), none, none, none, none, none, none] H3 (fun H' v => ∀ G', Ag H H' G' → G' p = none → OddT p G' v) 7 from ?A1) H3 (Ex.refl _) _ fun od H4 e4 hol hod => ⟨by rw [hol]; decide, fun OD hOD => ?_⟩
    case A1 =>
      have hm : ∀ (H1 H2 : Hp) (v : V), Ex H1 H2 → (∀ G', Ag H H1 G' → G' p = none → OddT p G' v) → ∀ G', Ag H H2 G' → G' p = none → OddT p G' v := fun H1 H2 v e h G' a => h G' (a.mono e)
      refine eya_cons hm (eyo_ev ev_c fun _ _ _ _ _ => .non) (eya_cons hm (fun H5 e5 Q5 q5 => ?_) (eya_cons hm (eyo_ev ev_c fun _ _ _ _ _ => .int 5) (eya_cons hm (eyo_ev ev_c fun _ _ _ _ _ => .str "here") (eya_cons hm (fun H5 e5 Q5 q5 => ?_) (eya_cons hm (fun H5 e5 Q5 q5 => ?_) (eya_cons hm (eyo_ev ev_c fun _ _ _ _ _ => .bl true) eya_nil))))))
      · refine ⟨.ref rw, rfl, rw, us, rfl, .inl ⟨sq_of (e5 _ _ hrw3), fun t ht => q5 _ _ (Ex.new ht) fun G' a _ => .tup (a _ _ (fresh_back (e03.trans e5) ht) upd_same)⟩⟩
      · exact fun t ht => q5 _ _ (Ex.new ht) fun G' a hGp => .dic (a _ _ (fresh_back (e03.trans e5) ht) upd_same) (fun z => by
          have z2 := a _ _ (fresh_back (e03.trans e5) ht) upd_same
          rw [z, hGp] at z2
          cases z2)
      · refine ⟨.ref rw, rfl, mk_tab (.inl (e5 _ _ hrw3)) (hus3.mono e5) (hes.le (by decide)) fun x H6 e6 _ _ => ⟨by show 1 ≤ sizeLine; decide, fun t ht => ?_⟩⟩
        exact q5 _ _ (e6.trans (Ex.new ht)) fun G' a _ => .tup (a _ _ (fresh_back ((e03.trans e5).trans e6) ht) upd_same)
    have e5 := Ex.new (o := .lst od) hOD
    have hOD5 : (upd H4 OD (.lst od)) OD = some (.lst od) := upd_same
    have hod5 : ∀ v ∈ od, ∀ G', Ag H (upd H4 OD (.lst od)) G' → G' p = none → OddT p G' v := fun v hv G' a => hod v hv G' (a.mono e5)
    have hOD0 := fresh_back (e03.trans e4) hOD
    have e35 := e4.trans e5
    generalize upd H4 OD (.lst od) = H5 at *
    dsimp only
    change tSeq (tIfS _ _ _) _ _ [some (.ref p), some (.ref rl), some (.int (r : Int)), some (.int (n : Int)), some (.ref rw), some (.ref OD), none, none, none, none, none] H5
    have gg := Gq.grow hP (e03.trans e35)
    have ag : Ag H H5 (fun b => match H b with | none => H5 b | some _ => G b) := Ag.grow
    have hrw0 := fresh_back (e1.trans e2) hrw
    have hG1 := ag _ _ hrw0 (e35 _ _ hrw3)
    have hG2 := ag _ _ hOD0 hOD5
    have hodG : ∀ v ∈ od, OddT p (fun b => match H b with | none => H5 b | some _ => G b) v := fun v hv => hod5 v hv _ ag gg.pl.gp
    have husG := hus.mono gg.ex
    generalize (fun b => match H b with | none => H5 b | some _ => G b) = G1 at *
    clear hod hod5
    -- an odd thing
    refine etp_or (p := p) (g := g) (c := c) (G := G1) (a := decide (V.int (n : Int) = V.int 8)) gg.pl (et_test (ev_op (r := rEq) (ev_var rfl) ev_c (rv_eq rfl))) (fun _ => etp_eq rfl ev_c (by decide) (by decide)) fun H6 b g6 hb => ?_
    have g06 := gg.trans g6
    cases b with
    | true =>
      rw [if_pos rfl]
      refine ⟨.ref OD, rfl, ep_drw (g := g) (c := c) (G := G1) (z := 7) rfl ev_c (by decide) (by decide) H6 g6.pl _ fun H7 v g7 hv => ?_⟩
      obtain ⟨j, rfl, hj0, hj1⟩ := hv
      obtain ⟨jn, rfl⟩ : ∃ jn : Nat, j = (jn : Int) := ⟨j.toNat, by omega⟩
      have hjl : jn < od.length := by omega
      refine ⟨OD, od, (jn : Int), od[jn], rfl, rfl, sq_of (g7.pl.ex _ _ hG2), atI_nat (List.getElem?_eq_getElem hjl), ?_⟩
      exact k G1 H7 _ none (g06.trans g7) ((hodG _ (List.getElem_mem hjl)).mono g7.pl.ex) rfl
    | false =>
    rw [if_neg (by decide)]
    have hn7 : n ≤ 7 := by
      have := of_decide_eq_false (hb rfl)
      have h8 : n ≠ 8 := fun z => this (by rw [z]; rfl)
      omega
    dsimp only [tNext]
    refine q_asgW ?_
    refine ⟨.int (n : Int), rfl, ep_drw (g := g) (c := c) (G := G1) (z := 8 - (n : Int)) rfl (ev_op ev_c (ev_var rfl) rv_I0) (by omega) (by omega) H6 g6.pl _ fun H7 v g7 hv => ?_⟩
    obtain ⟨j, rfl, hj0, hj1⟩ := hv
    obtain ⟨jn, rfl⟩ : ∃ jn : Nat, j = (jn : Int) := ⟨j.toNat, by omega⟩
    refine ⟨(n : Int), (jn : Int), rfl, rfl, ?_⟩
    dsimp only
    change tSeq (tAsg _ _) _ _ [some (.ref p), some (.ref rl), some (.int (r : Int)), some (.int (n : Int)), some (.ref rw), some (.ref OD), some (.int ((n : Int) + (jn : Int))), none, none, none, none] H7
    refine q_asgW ?_
    refine ep_drw (g := g) (c := c) (G := G1) (z := (us.length : Int) + 1) rfl (ev_op (ev_len (K := K) (ev_var rfl) (sq_of hG1)) ev_c rv_I0) (by omega) (by omega) H7 g7.pl _ fun H8 v g8 hv => ?_
    obtain ⟨j2, rfl, hj20, hj21⟩ := hv
    obtain ⟨pl, rfl⟩ : ∃ jn : Nat, j2 = (jn : Int) := ⟨j2.toNat, by omega⟩
    change tSeq (tAsg _ _) _ _ [some (.ref p), some (.ref rl), some (.int (r : Int)), some (.int (n : Int)), some (.ref rw), some (.ref OD), some (.int ((n : Int) + (jn : Int))), some (.int (pl : Int)), none, none, none] H8
    have hlc := el_lcA (K := K) (σ := [some (.ref p), some (.ref rl), some (.int (r : Int)), some (.int (n : Int)), some (.ref rw), some (.ref OD), some (.int ((n : Int) + (jn : Int))), some (.int (pl : Int)), none, none, none]) (H := H8) (tl := tVar 4) (te := tOp (rIxT K) (tVar 9) (tC (.int 0))) (t := tYes) (j := 9) (vs := [9]) (fun _ => true) (fun i => V.str (T (es.getD i ([], .non)).1)) (ev_var rfl) (.inl (g8.pl.ex _ _ hG1)) (by omega) (fun x => rfl) (fun _ _ _ _ _ => et_yes) (fun i x H9 e9 hx _ => by
      obtain ⟨b2, e, rfl, he, hb2⟩ := husG.at_ hx
      rw [show es.getD i ([], .non) = e by rw [List.getD_eq_getElem?_getD, he]; rfl]
      exact ev_op (ev_var rfl) ev_c (rv_ixT (st_of (e9 _ _ (g8.pl.ex _ _ hb2))) rfl))
    rw [given_yesAll, hul, map_rng es (fun e => V.str (T e.1))] at hlc
    refine q_asgL hlc fun KN H9 nKN e9 hKN => ?_
    change tSeq (tAsg _ _) _ _ [some (.ref p), some (.ref rl), some (.int (r : Int)), some (.int (n : Int)), some (.ref rw), some (.ref OD), some (.int ((n : Int) + (jn : Int))), some (.int (pl : Int)), some (.ref KN), none, none] H9
    have gk := Gq.grow g8.pl e9
    have hKNG : (fun b => match H8 b with | none => H9 b | some _ => G1 b) KN = some (.lst (es.map fun e => V.str (T e.1))) := Ag.grow _ _ nKN hKN
    have hG1k : (fun b => match H8 b with | none => H9 b | some _ => G1 b) rw = some (.lst us) := gk.ex _ _ hG1
    have husk := husG.mono gk.ex
    generalize (fun b => match H8 b with | none => H9 b | some _ => G1 b) = G2 at *
    have g09 := ((g06.trans g7).trans g8).trans gk
    refine q_asgW ?_
    refine ep_callBits (p := p) (g := g) (c := c) (G := G2) (m := 10) rfl ev_c (Nat.le_refl _) H9 gk.pl _ fun H10 v g10 hv => ?_
    obtain ⟨lb, rfl, hB, hlb⟩ := hv
    have g010 := g09.trans g10
    have hKN10 := g10.pl.ex _ _ hKNG
    have hrw10 := g10.pl.ex _ _ hG1k
    have hus10 := husk.mono g10.pl.ex
    change tCut _ _ _ [some (.ref p), some (.ref rl), some (.int (r : Int)), some (.int (n : Int)), some (.ref rw), some (.ref OD), some (.int ((n : Int) + (jn : Int))), some (.int (pl : Int)), some (.ref KN), none, some (.str (T lb))] H10
    have there7 : (n : Int) + (jn : Int) = ((n + jn : Nat) : Int) := by rw [Int.natCast_add]
    refine q_cut (M := fun σ2 H11 => ∃ l2, σ2 = [some (.ref p), some (.ref rl), some (.int (r : Int)), some (.int (n : Int)), some (.ref rw), some (.ref OD), some (.int ((n : Int) + (jn : Int))), some (.int (pl : Int)), some (.ref KN), none, some (.str (T l2))] ∧ Ex H10 H11 ∧ IsB l2 ∧ l2.length ≤ 10 ∧ (∀ e, es[pl]? = some e → l2 = e.1) ∧ (es.length ≤ pl → l2 ∉ es.map (·.1))) ?_ ?_
    · refine (et_test (ev_op (r := rI0 fun i j => .bl (decide (i < j))) (ev_var rfl) (ev_len (K := K) (ev_var rfl) (sq_of hrw10)) rv_I0)) H10 (Ex.refl _) _ fun H11 e11 => ?_
      by_cases c0 : pl < es.length
      · rw [if_pos (decide_eq_true (by omega))]
        have hup : pl < us.length := by omega
        obtain ⟨b, e, hub, hee, hbt⟩ := hus10.at_ (List.getElem?_eq_getElem hup)
        have hun : us[pl]? = some (.ref b) := by rw [List.getElem?_eq_getElem hup, hub]
        obtain ⟨heB, hel2, hen⟩ := hes.it e (List.mem_of_getElem? hee)
        refine s_asg (v := .str (T e.1)) (ev_op (ev_ixR (K := K) (xs := us) (i := pl) (ev_var rfl) (ev_var rfl) (e11 _ _ hrw10) hun) ev_c (rv_ixT (st_of (e11 _ _ hbt)) (atI_nat (j := 0) rfl))) fun H12 e12 => ⟨e.1, rfl, e11.trans e12, heB, hel2, fun e2 he2 => ?_, fun z => ?_⟩
        · rw [hee] at he2
          rw [Option.some.inj he2]
        · omega
      · rw [if_neg (by rw [decide_eq_false (by omega)]; decide)]
        have hin : Ev (tOp (rIn K false) (tVar 10) (tVar 8)) [some (.ref p), some (.ref rl), some (.int (r : Int)), some (.int (n : Int)), some (.ref rw), some (.ref OD), some (.int ((n : Int) + (jn : Int))), some (.int (pl : Int)), some (.ref KN), none, some (.str (T lb))] H11 (.bl (decide (lb ∈ es.map (·.1)))) := by
          rw [← inV_ks]
          exact ev_op (r := rIn K false) (ev_var rfl) (ev_var rfl) (rv_isL (sq_of (e11 _ _ hKN10)) rfl (by rw [List.all_map, List.all_eq_true]; intro x _; rfl))
        refine s_when (b := decide (lb ∈ es.map (·.1))) (et_test hin) (fun _ H12 e12 => s_ret (v := .non) ev_c fun H13 e13 => k G2 H13 .non none (g010.trans (Gq.ext g10.pl ((e11.trans e12).trans e13))) .non rfl) fun hz H12 e12 => ⟨lb, rfl, e11.trans e12, hB, hlb, fun e he => ?_, fun _ => of_decide_eq_false hz⟩
        exact absurd (List.getElem?_eq_some_iff.mp he).1 c0
    rintro σ2 H11 ⟨l2, rfl, e11, hB2, hl2, hk1, hk2⟩
    have hrw11 := e11 _ _ hrw10
    have hplb : pl ≤ us.length := by omega
    have sl1 : EvL (tSl (rSlL K) (tVar 4) tNoPart (tPart (tVar 7))) [some (.ref p), some (.ref rl), some (.int (r : Int)), some (.int (n : Int)), some (.ref rw), some (.ref OD), some (.int ((n : Int) + (jn : Int))), some (.int (pl : Int)), some (.ref KN), none, some (.str (T l2))] H11 (us.take pl) := by
      have q := el_sl (K := K) (te := tVar 4) (σ := [some (.ref p), some (.ref rl), some (.int (r : Int)), some (.int (n : Int)), some (.ref rw), some (.ref OD), some (.int ((n : Int) + (jn : Int))), some (.int (pl : Int)), some (.ref KN), none, some (.str (T l2))]) (H := H11) (ev_var rfl) eo_none (eo_some (te := tVar 7) (i := (pl : Int)) (ev_var rfl)) (sq_of hrw11)
      rw [cut_to _ _ hplb] at q
      exact q
    refine sl1 H11 (Ex.refl _) _ fun a1 H12 n1 e12 h1 => ?_
    refine ⟨.str (T l2), rfl, .int ((n : Int) + (jn : Int)), rfl, by show 2 ≤ sizeLine; decide, fun tt htt => ⟨by show 1 ≤ sizeLine; decide, fun a2 ha2 => ?_⟩⟩
    have e13 := Ex.new (o := .tup [V.str (T l2), .int ((n : Int) + (jn : Int))]) htt
    have htt1 : (upd H12 tt (.tup [V.str (T l2), .int ((n : Int) + (jn : Int))])) tt = some (.tup [V.str (T l2), .int ((n : Int) + (jn : Int))]) := upd_same
    generalize upd H12 tt (.tup [V.str (T l2), .int ((n : Int) + (jn : Int))]) = H13 at *
    have e14 := Ex.new (o := .lst [V.ref tt]) ha2
    have ha21 : (upd H13 a2 (.lst [V.ref tt])) a2 = some (.lst [V.ref tt]) := upd_same
    generalize upd H13 a2 (.lst [V.ref tt]) = H14 at *
    refine ⟨a1, a2, _, _, rfl, rfl, e14 _ _ (e13 _ _ h1), ha21, by rw [List.length_take]; exact sz_of (by simp; omega), fun a3 ha3 => ?_⟩
    have e15 := Ex.new (o := .lst (us.take pl ++ [V.ref tt])) ha3
    have ha31 : (upd H14 a3 (.lst (us.take pl ++ [V.ref tt]))) a3 = some (.lst (us.take pl ++ [V.ref tt])) := upd_same
    generalize upd H14 a3 (.lst (us.take pl ++ [V.ref tt])) = H15 at *
    have e1115 := ((e12.trans e13).trans e14).trans e15
    have cut2 : cutV us (some ((pl : Int) + 1)) none = us.drop (pl + 1) := by
      by_cases c0 : pl < us.length
      · rw [show ((pl : Int) + 1) = ((pl + 1 : Nat) : Int) by omega]
        exact cut_from _ _ (by omega)
      · rw [List.drop_of_length_le (by omega)]
        unfold cutV
        rw [show ((pl : Int) + 1) = ((pl + 1 : Nat) : Int) by omega, HT.sIx_nat, HT.sIx_none, Nat.min_eq_right (by omega)]
        simp
    refine el_sl (K := K) (te := tVar 4) (H := H15) (lo := some ((pl : Int) + 1)) (hi := none) (ev_var rfl) (eo_some (ev_op (r := rI0 fun i j => .int (i + j)) (ta := tVar 7) (tb := tC (.int 1)) (x := .int (pl : Int)) (ev_var rfl) ev_c rv_I0)) eo_none (sq_of (e1115 _ _ hrw11)) H15 (Ex.refl _) _ fun a4 H16 n4 e16 h4 => ?_
    rw [cut2] at h4
    refine ⟨a3, a4, _, _, rfl, rfl, e16 _ _ ha31, h4, by rw [List.length_append, List.length_take, List.length_drop]; exact sz_of (by simp; omega), fun a5 ha5 => ?_⟩
    have e17 := Ex.new (o := .lst (us.take pl ++ [V.ref tt] ++ us.drop (pl + 1))) ha5
    have ha51 : (upd H16 a5 (.lst (us.take pl ++ [V.ref tt] ++ us.drop (pl + 1)))) a5 = some (.lst (us.take pl ++ [V.ref tt] ++ us.drop (pl + 1))) := upd_same
    generalize upd H16 a5 (.lst (us.take pl ++ [V.ref tt] ++ us.drop (pl + 1))) = H17 at *
    have e1117 := (e1115.trans e16).trans e17
    have htt7 : H17 tt = some (.tup [V.str (T (l2, V.int ((n : Int) + (jn : Int))).1), (l2, V.int ((n : Int) + (jn : Int))).2]) := e17 _ _ (e16 _ _ (e15 _ _ (e14 _ _ htt1)))
    have hus17 := hus10.mono (e11.trans e1117)
    have hnx : NxV (.int ((n : Int) + (jn : Int))) := .inr (.inr ⟨n + jn, by omega, by rw [there7]⟩)
    have hok := put_ok (y := .int ((n : Int) + (jn : Int))) (pl := pl) hes (by decide) hB2 hl2 hnx hk1 hk2
    refine mk_tab (.inl ha51) (esT_app (esT_app (esT_take pl hus17) (.cons htt7 .nil)) (esT_drop (pl + 1) hus17)) hok fun x H18 e18 _ hT => ?_
    refine k G2 H18 _ (some _) (g010.trans (Gq.ext g10.pl ((e11.trans e1117).trans e18))) ⟨x, rfl, hT, hok⟩ ?_
    show List.all _ _ = false
    rw [List.all_append, List.all_append]
    have : onB n (.int ((n : Int) + (jn : Int))) = false := by
      show isR (n : Int) (.int ((n : Int) + (jn : Int))) = false
      unfold isR isI valI
      rw [decide_eq_false (show ¬ ((n : Int) + (jn : Int) ≤ (n : Int) - 1) by omega), Bool.and_false, Bool.and_false]
    simp [this]
end
end Wk

set_option Elab.async false
set_option linter.all false
set_option maxRecDepth 100000
set_option maxHeartbeats 4000000
namespace Wk
open PySem PySem.Spec PyProof.Rows L2 Evl
theorem ev_xf {σ : L2.St} {H : Hp} {te : TE} {a C dx : Addr} {n : Str} {fs : List (Str × V)} {v : V} (h : Ev te σ H (.ref a)) (hx : H dx = some (.xd fs)) (hl : fs.lookup n = some v) : Ev (tXf a (.ref C) (some dx) C n te) σ H v := fun H1 e Q q =>
  h H1 e _ fun H2 e2 => ⟨rfl, rfl, dx, fs, v, rfl, e2 _ _ (e _ _ hx), hl, q H2 e2⟩
structure EKf (K : PySem.W.Frag) (C CWi CN : Addr) : Prop where
  ex : ExcC K C
  kW : PySem.W.kitOne K (.ref C) (.ref CWi) = some true
  kN : PySem.W.kitOne K (.ref C) (.ref CN) = some false
section
variable {P : Program} {w : World} {K : PySem.W.Frag} {mg : Str → Option Value} {base : Heap} {f : Addr} {fd : FuncData} {CT CF CN CB CWi : Addr}
structure MkFx (P : Program) (w : World) (K : PySem.W.Frag) (mg : Str → Option Value) (base : Heap) (CF CT CB : Addr) : Prop where
  g : mg "Field" = some (.ref CF)
  ex : ∃ (fI : Addr) (fd : FuncData), Mk K CF fI ∧ FnOk P w K mg base (L2.CX P w) 6 fI fd ["self", "tables"] (spFInx K CF CT CB) ∧ Binds K fd ["self", "tables"] []
/-! _law_made -/
def spMd (K : PySem.W.Frag) (CF CT : Addr) : Sp := fun vs H Q _ => ∃ (v : V) (fo : Option Int), vs = [v] ∧ TbF K CT H v fo ∧
  (∀ i, fo = some i → ∀ H' t, Ex H H' → H' t = some (.tup [.str "refused", .int i]) → Q (.ref t) H') ∧
  (fo = none → ∀ t ts ess H' r x, v = .ref t → Ex H H' → H' t = some (.tup ts) → TsT CT H' ts ess → FOk ess → H' r = some (.tup [.str "made", .ref x]) → Fl CF CT H' x ess → Q (.ref r) H')
abbrev sMd : Stmt := top 52
abbrev nMd : List Str := ["_law_tables", "_law_field", "e"]
theorem scMd : FnScope nMd ["_law_tables"] (defScope sMd) := ⟨rfl, rfl, rfl, by decide +kernel, rfl, by decide +kernel, by decide +kernel⟩
theorem ok_md (B : Bl mg) (hne : CF ≠ CT) (M : MkFx P w K mg base CF CT CB) (TEr : ErrF P w K mg base "BadField" CB "router") (EB : EKf K CB CWi CN) (gWi : mg "WishError" = some (.ref CWi)) (gN : mg "NoRouter" = some (.ref CN)) (F : FnP K "_law_made" sMd f fd) : FnOk P w K mg base CX0 8 f fd ["_law_tables"] (spMd K CF CT) := by
  obtain ⟨fI, fdI, mk, FI, bI⟩ := M.ex
  refine F.ok scMd (fun vs H Q E h => ?_) (fun cdv A outer s H vs Q E hr h => ?_)
  · obtain ⟨v, fo, rfl, _⟩ := h
    rfl
  · obtain ⟨v, fo, rfl, hv, kE, kQ⟩ := h
    refine ⟨_, pss_cons (ps_try_as (i := 2) rfl rfl scMd.nd rfl rfl ⟨rfl, by decide, .inl TEr.g⟩ takes0
          (fun W pn xe tk _ => pss_one (ps_set (i := 1) scMd.nd rfl (Or.inl rfl) (pe_mkAt (W := WE W) mk FI (hr.mono (by decide)) (by rfl) M.g bI (fun σ => passAt tk σ) (pa_cons (pv 0) pa_nil))))
          (fun a oe cls d pn hz hf => pss_cons (ps_if (PW.pt (pw_or (pt_not (pt_val (pe_callB (call_isG (K := K) rfl hz hf) (by rfl) B.isi boot_isinstance (pa_cons (pv 2) (pa_cons (pe_glob (v := .ref CWi) (by rfl) gWi rfl) pa_nil)))))
              (pw_or (pt_val (pe_callB (call_isG (K := K) rfl hz hf) (by rfl) B.isi boot_isinstance (pa_cons (pv 2) (pa_cons (pe_glob (v := .ref CN) (by rfl) gN rfl) pa_nil))))
              (pw_or1 (pt_val (pe_callB (call_isiK (K := K) rfl) (by rfl) B.isi boot_isinstance (pa_cons (pe_xf TEr.xf TEr.no hz hf (pv 2)) (pa_cons (pe_bltn (v := .ty "bool") (by rfl) B.bool PyProof.Rows.boot_bool rfl) pa_nil)))))))) (pss_one (ps_ret (pe_tup (pa_cons pe_str (pa_cons pe_non pa_nil))))) pss_nil)
            (pss_one (ps_ret (pe_tup (pa_cons pe_str (pa_cons (pe_xf TEr.xf TEr.no hz hf (pv 2)) pa_nil)))))))
      (pss_one (ps_ret (pe_tup (pa_cons pe_str (pa_cons (pv 1) pa_nil))))), ?_⟩
    refine ⟨v, rfl, fun x dx nx ndx nex => ?_⟩
    have e1 : Ex H (upd (upd H dx (.own x)) x (.ins CF dx [])) := fun b o hb => by
      rw [upd_ne (ne_of_none hb nx), upd_ne (ne_of_none hb ndx)]
      exact hb
    refine ⟨x, dx, v, fo, rfl, upd_same, hv.mono e1, fun hfo t ts ess hvt ht hts hok H' o1 hF => ⟨rfl, ?_⟩, fun i hi dy H2 h0 e2 hy => ?_⟩
    · refine g_name ?_
      dsimp only
      have eU : Ex H H' := fun b o hb => o1 b o (fun z => by rw [z, nx] at hb; cases hb) (e1 _ _ hb)
      have hts' := hts.of1 hne o1 upd_same
      have ht' := o1 _ _ (fun z => by rw [z, upd_same] at ht; cases ht) ht
      refine ⟨.ref x, rfl, by show 2 ≤ sizeLine; decide, fun r hr' => ?_⟩
      have e4 := Ex.new (o := .tup [V.str "made", .ref x]) hr'
      exact kQ hfo t ts ess _ r x hvt (eU.trans e4) (e4 _ _ ht') (hts'.mono e4) hok upd_same (hF.mono e4)
    · refine ⟨true, TEr.te, fun _ a ha => ?_, fun z => Bool.noConfusion z⟩
      have e02 := e1.trans e2
      have c1 : Ev (tCB (rIsG K a (.ref CB) (some dy)) (tCons (tVar 2) (tCons (tC (.ref CWi)) tNil))) [some v, none, some (.ref a)] H2 (.bl true) := fun H3 e3 Q3 q3 => ⟨.ref a, rfl, CB, .ref CWi, .ref CWi, true, rfl, EB.ex, rfl, .own CWi, EB.kW, .inl ⟨dy, _, rfl, e3 _ _ hy⟩, q3 H3 (Ex.refl _)⟩
      have c2 : Ev (tCB (rIsG K a (.ref CB) (some dy)) (tCons (tVar 2) (tCons (tC (.ref CN)) tNil))) [some v, none, some (.ref a)] H2 (.bl false) := fun H3 e3 Q3 q3 => ⟨.ref a, rfl, CB, .ref CN, .ref CN, false, rfl, EB.ex, rfl, .own CN, EB.kN, .inl ⟨dy, _, rfl, e3 _ _ hy⟩, q3 H3 (Ex.refl _)⟩
      have c3 : Ev (tXf a (.ref CB) (some dy) CB "router" (tVar 2)) [some v, none, some (.ref a)] H2 (.int i) := ev_xf (ev_var rfl) hy rfl
      refine q_when (b := !true || (false || false)) (et_or (et_not (et_B c1)) fun _ => et_or (et_B c2) fun _ => et_B (ev_isk (K := K) c3 (isk_dq (.int i) (show kitB "int" "bool" = some false by decide +kernel)))) (fun z => by cases z) fun _ H3 e3 => ?_
      refine ⟨.ref a, rfl, rfl, rfl, dy, _, .int i, rfl, e3 _ _ hy, rfl, by show 2 ≤ sizeLine; decide, fun t ht => ?_⟩
      exact kE i hi _ t ((e02.trans e3).trans (Ex.new ht)) upd_same
end
end Wk

set_option Elab.async false
set_option linter.all false
set_option maxRecDepth 100000
set_option maxHeartbeats 4000000
namespace Wk
open PySem PySem.Spec PyProof.Rows L2 Evl
/-! texts that are no address, no word, no range -/
theorem adr_len {l : List Nat} (h : l.length ≠ 10) : adrB l = false := by
  unfold adrB
  rw [decide_eq_false h, Bool.and_false]
theorem rng_len {l : List Nat} (h : 10 < l.length) : rngB l = false := by
  unfold rngB
  rw [decide_eq_false (by omega), Bool.false_and]
theorem str_ne {a : Str} {l m : List Nat} (h : a = T m) (hm : m ≠ l) : (a == T l) = false := beq_eq_false_iff_ne.mpr fun z => hm (T_inj (h ▸ z))
theorem word_bits {l : List Nat} (h : IsB l) : wordB (T l) = false := by
  have t1 : Str.ofString "here" = T [104, 101, 114, 101] := by decide +kernel
  have t2 : Str.ofString "drop" = T [100, 114, 111, 112] := by decide +kernel
  have t3 : Str.ofString "round" = T [114, 111, 117, 110, 100] := by decide +kernel
  have no : ∀ (x : Nat) (r : List Nat), x ≠ 48 → x ≠ 49 → x :: r ≠ l := fun x r h1 h2 z => by
    rcases h x (by rw [← z]; exact List.mem_cons_self) with y | y
    · exact h1 y
    · exact h2 y
  show ((Str.ofString "here" == T l) || ((Str.ofString "drop" == T l) || ((Str.ofString "round" == T l) || false))) = false
  rw [str_ne t1 (no _ _ (by decide) (by decide)), str_ne t2 (no _ _ (by decide) (by decide)), str_ne t3 (no _ _ (by decide) (by decide))]
  rfl
theorem ev_cs {σ : L2.St} {H : Hp} {s : Str} {l : List Nat} (h : s = T l) : Ev (tC (.str s)) σ H (.str (T l)) := by
  rw [← h]
  exact ev_c
/-- more of what isinstance tells of a table -/
structure TK (K : PySem.W.Frag) (CT : Addr) : Prop where
  kl : PySem.W.kitOne K (.ref CT) (.type "list") = some false
  kt : PySem.W.kitOne K (.ref CT) (.type "tuple") = some false
section
variable {K : PySem.W.Frag} {CT : Addr}
theorem isk_ins {H : Hp} {a dx : Addr} {fs : List (Str × V)} {n : String} {b : Bool} (X : TX K CT) (h : H a = some (.ins CT dx fs)) (hk : PySem.W.kitOne K (.ref CT) (.type n) = some b) : IsK K H (.ref a) n b := fun H' e => ⟨_, .base (.ins (e _ _ h) X.ic.cl X.ic.ha X.ic.hn X.ic.htk X.ic.hm), hk⟩
theorem iskr_ins {H : Hp} {a dx : Addr} {fs : List (Str × V)} (X : TX K CT) (XT : TK K CT) (h : H a = some (.ins CT dx fs)) : IsKr K H (.ref a) false := fun H' e => ⟨_, .base (.ins (e _ _ h) X.ic.cl X.ic.ha X.ic.hn X.ic.htk X.ic.hm), any2 XT.kl XT.kt⟩
theorem nst_isk {H : Hp} {v : V} (h : IsK K H v "str" false) : NSt K H v := h
/-- a thing that is no address, no word, no row of ranges (but for the list of this address) -/
def Lk (K : PySem.W.Frag) (G : Hp) (ad : List Nat) (v : V) : Prop := (IsK K G v "list" false ∧ RwF K G v false) ∨ (∃ a, v = .ref a ∧ G a = some (.lst [.str (T ad)])) ∨ (∃ a, v = .ref a ∧ G a = some (.lst [.non]))
def ThP (K : PySem.W.Frag) (G : Hp) (ad : List Nat) (v : V) : Prop := OdA K G v ∧ OdW K G v ∧ Lk K G ad v
theorem Lk.mono {G G' : Hp} {ad : List Nat} {v : V} (e : Ex G G') (h : Lk K G ad v) : Lk K G' ad v := by
  rcases h with ⟨h1, h2⟩ | ⟨a, h1, h2⟩ | ⟨a, h1, h2⟩
  · exact .inl ⟨h1.mono e, RwF.mono e h2⟩
  · exact .inr (.inl ⟨a, h1, e _ _ h2⟩)
  · exact .inr (.inr ⟨a, h1, e _ _ h2⟩)
theorem ThP.mono {G G' : Hp} {ad : List Nat} {v : V} (e : Ex G G') (h : ThP K G ad v) : ThP K G' ad v := ⟨h.1.mono e, h.2.1.mono e, h.2.2.mono e⟩
theorem th_flat {G : Hp} {ad : List Nat} {v : V} {d : PyData} (hv : Dq G v d) (h1 : isStr d = false) (h2 : isLi d = false) (h3 : isTu d = false) : ThP K G ad v :=
  ⟨.inr (nst_dq hv h1), .inr (nst_dq hv h1), .inl ⟨isk_dq hv (by rw [← h2]; exact kit_lst d), .inr ⟨by have := iskr_dq (K := K) hv; rw [h2, h3] at this; exact this, rfl⟩⟩⟩
theorem th_str {G : Hp} {ad l : List Nat} (hl : l.length ≤ 100) (ha : adrB l = false) (hw : wordB (T l) = false) : ThP K G ad (.str (T l)) :=
  ⟨.inl ⟨l, rfl, hl, ha⟩, .inl ⟨_, rfl, hw⟩, .inl ⟨isk_dq (.str _) (show kitB "str" "list" = some false by decide +kernel), .inr ⟨iskr_dq (.str _), rfl⟩⟩⟩
theorem th_dic {G : Hp} {ad : List Nat} {a : Addr} {kvs : List (L2.Key × V)} (h : G a = some (.dK kvs)) : ThP K G ad (.ref a) :=
  ⟨.inr (isk_dK h (show kitB "dict" "str" = some false by decide +kernel)), .inr (isk_dK h (show kitB "dict" "str" = some false by decide +kernel)), .inl ⟨isk_dK h (show kitB "dict" "list" = some false by decide +kernel), .inr ⟨iskr_dK h, rfl⟩⟩⟩
theorem th_ins {G : Hp} {ad : List Nat} {a dx : Addr} {fs : List (Str × V)} (X : TX K CT) (XT : TK K CT) (h : G a = some (.ins CT dx fs)) : ThP K G ad (.ref a) :=
  ⟨.inr (isk_ins X h X.ks), .inr (isk_ins X h X.ks), .inl ⟨isk_ins X h XT.kl, .inr ⟨iskr_ins X XT h, rfl⟩⟩⟩
theorem th_l1 {G : Hp} {ad : List Nat} {a : Addr} (h : G a = some (.lst [.str (T ad)])) : ThP K G ad (.ref a) :=
  ⟨.inr (isk_lst h (show kitB "list" "str" = some false by decide +kernel)), .inr (isk_lst h (show kitB "list" "str" = some false by decide +kernel)), .inr (.inl ⟨a, rfl, h⟩)⟩
theorem th_l2 {G : Hp} {ad : List Nat} {a : Addr} (h : G a = some (.lst [.non])) : ThP K G ad (.ref a) :=
  ⟨.inr (isk_lst h (show kitB "list" "str" = some false by decide +kernel)), .inr (isk_lst h (show kitB "list" "str" = some false by decide +kernel)), .inr (.inr ⟨a, rfl, h⟩)⟩
theorem th_t1 {G : Hp} {ad l : List Nat} {a : Addr} (hl : 10 < l.length) (hl2 : l.length ≤ 100) (h : G a = some (.tup [.str (T l)])) : ThP K G ad (.ref a) :=
  ⟨.inr (isk_tup h (show kitB "tuple" "str" = some false by decide +kernel)), .inr (isk_tup h (show kitB "tuple" "str" = some false by decide +kernel)), .inl ⟨isk_tup h (show kitB "tuple" "list" = some false by decide +kernel), .inl ⟨a, _, [false], rfl, .inr h, by simp, .cons (.txt hl2 (rng_len hl)) .nil, rfl⟩⟩⟩
/-- a display of such things -/
theorem el_ya {σ : L2.St} {H : Hp} {t : TA} {n : Nat} {Y : Hp → V → Prop} {Q : VK} (h : EvYA t σ H Y n) (hn : n ≤ 100000) (k : ∀ us H1, Ex H H1 → us.length = n → (∀ u ∈ us, Y H1 u) → ∀ D, H1 D = none → Q (.ref D) (upd H1 D (.lst us))) : tLst t σ H Q :=
  h H (Ex.refl _) _ fun us H1 e hl hu => ⟨by rw [hl]; exact sz_of hn, fun D hD => k us H1 e hl hu D hD⟩
/-! what _law_error tells, compared -/
def dTh (a b c : Bool) : PyData := .tuple [.str "thing", .list [.bool a, .bool b, .bool c]]
theorem cm_th : ∀ a b c : Bool, CmD (dTh a b c) := by unfold CmD; decide +kernel
theorem dq_th {H : Hp} {t l : Addr} {a b c : Bool} (h1 : H t = some (.tup [.str "thing", .ref l])) (h2 : H l = some (.lst [.bl a, .bl b, .bl c])) : Dq H (.ref t) (dTh a b c) := .tup h1 (.cons (.str _) (.cons (.lst h2 (.cons (.bl a) (.cons (.bl b) (.cons (.bl c) .nil)))) .nil))
theorem et_thing {σ : L2.St} {H : Hp} {te : TE} {a b c : Bool} (h : ∀ H1, Ex H H1 → ∀ Q : VK, (∀ t l H2, Ex H1 H2 → H2 t = some (.tup [.str "thing", .ref l]) → H2 l = some (.lst [.bl a, .bl b, .bl c]) → Q (.ref t) H2) → te σ H1 Q) :
    EvT (tTest (tOp (rNeD K) te (tTup (tCons (tC (.str "thing")) (tCons (tLst (tCons (tC (.bl a)) (tCons (tC (.bl b)) (tCons (tC (.bl c)) tNil)))) tNil))))) σ H false := fun H1 e1 Q q =>
  h H1 e1 _ fun t l H2 e2 ht hl => ⟨by show 3 ≤ sizeLine; decide, fun l2 hl2 => ⟨by show 2 ≤ sizeLine; decide, fun t2 ht2 => by
    have e3 := Ex.new (o := .lst [V.bl a, .bl b, .bl c]) hl2
    have hl2' : (upd H2 l2 (.lst [V.bl a, .bl b, .bl c])) l2 = some (.lst [V.bl a, .bl b, .bl c]) := upd_same
    generalize upd H2 l2 (.lst [V.bl a, .bl b, .bl c]) = H3 at *
    have e4 := Ex.new (o := .tup [V.str "thing", .ref l2]) ht2
    have z := rv_neC (K := K) (H := upd H3 t2 (.tup [V.str "thing", .ref l2])) (dq_th (e4 _ _ (e3 _ _ ht)) (e4 _ _ (e3 _ _ hl))) (dq_th upd_same (e4 _ _ hl2')) (cm_th a b c) (cm_th a b c)
    rw [SeqAt.eqv_refl _ (cm_th a b c).1] at z
    exact z _ (Ex.refl _) _ fun H5 e5 => ⟨false, rfl, q H5 (((e2.trans e3).trans e4).trans e5)⟩⟩⟩
def dNo : PyData := .tuple [.str "none"]
theorem cm_no : CmD dNo := by unfold CmD; decide +kernel
theorem et_none {σ : L2.St} {H : Hp} {te : TE} (h : ∀ H1, Ex H H1 → ∀ Q : VK, (∀ t H2, Ex H1 H2 → H2 t = some (.tup [.str "none"]) → Q (.ref t) H2) → te σ H1 Q) : EvT (tTest (tOp (rNeD K) te (tTup (tCons (tC (.str "none")) tNil)))) σ H false := fun H1 e1 Q q =>
  h H1 e1 _ fun t H2 e2 ht => ⟨by show 1 ≤ sizeLine; decide, fun t2 ht2 => by
    have e4 := Ex.new (o := .tup [V.str "none"]) ht2
    have z := rv_neC (K := K) (d := dNo) (e := dNo) (H := upd H2 t2 (.tup [V.str "none"])) (.tup (e4 _ _ ht) (.cons (.str _) .nil)) (.tup upd_same (.cons (.str _) .nil)) cm_no cm_no
    rw [SeqAt.eqv_refl _ cm_no.1] at z
    exact z _ (Ex.refl _) _ fun H5 e5 => ⟨false, rfl, q H5 ((e2.trans e4).trans e5)⟩⟩
end
end Wk

set_option Elab.async false
set_option linter.all false
set_option maxRecDepth 100000
set_option maxHeartbeats 8000000
namespace Wk
open PySem PySem.Spec PyProof.Rows L2 Evl
theorem cm_l1 {l : List Nat} (h : IsB l) : CmD (.list [.str (T l)]) := by
  have hs := strOk_T h
  have h1 : (PyData.list [.str (T l)]).canLay0 = true := by simp [PyData.canLay0, PyData.canLayAll0, hs]
  refine ⟨h1, ?_⟩
  unfold SeqAt.shaped
  rw [Bool.and_eq_true]
  exact ⟨h1, decide_eq_true (by simp [PyData.depth, PyData.depthAll])⟩
theorem cm_l2 : CmD (.list [.none]) := by unfold CmD; decide +kernel
theorem tl_one {te : TE} {σ : L2.St} {H : Hp} {Q : VK} (h : te σ H fun v H1 => 1 ≤ sizeLine ∧ ∀ D, H1 D = none → Q (.ref D) (upd H1 D (.lst [v]))) : tLst (tCons te tNil) σ H Q := h
theorem t_ix {r : R2} {ta tb : TE} {σ : L2.St} {H : Hp} {Q : VK} (h : ta σ H fun x H1 => tb σ H1 fun y H2 => r x y H2 Q) : tOp r ta tb σ H Q := h
section
variable {P : Program} {w : World} {K : PySem.W.Frag} {mg : Str → Option Value} {base : Heap} {f : Addr} {fd : FuncData} {CT CF : Addr}
/-! _law_bad_things -/
def spBTh (CF CT : Addr) : Sp := fun vs H Q _ => ∃ (G : Hp) (p g c x : Addr) (m : Nat) (ess : List (List Row)) (h : EssOk ess m), vs = [.ref p, .ref x] ∧ Pq G H p g c ∧ Fl CF CT H x ess ∧ ∀ H', Q (.bl true) H'
abbrev sBTh : Stmt := top 56
abbrev nBTh : List Str := ["_law_pool_here", "_law_field", "_law_start", "_law_address", "_law_k", "_law_odd", "_law_thing", "_law_ranges", "_law_place", "_law_good", "_law_which"]
theorem scBTh : FnScope nBTh ["_law_pool_here", "_law_field"] (defScope sBTh) := ⟨rfl, rfl, rfl, by decide +kernel, rfl, by decide +kernel, by decide +kernel⟩
theorem ok_bth (B : Bl mg) (X : TX K CT) (XT : TK K CT) (XF : FXc K CF) (MT : MkT P w K mg base CT) (C : Cal P w K mg base "_law_draw" ["_law_pool_here", "_law_many"] 1 spDrw) (CE : Cal P w K mg base "_law_error" ["_law_field", "_law_which", "_law_start", "_law_thing"] 16 (spLE K CF CT)) (F : FnP K "_law_bad_things" sBTh f fd) : FnOk P w K mg base CX0 17 f fd ["_law_pool_here", "_law_field"] (spBTh CF CT) := by
  obtain ⟨fI, fdI, mk, FI, bI⟩ := MT.ex
  refine F.ok scBTh (fun vs H Q E h => ?_) (fun cdv A outer s H vs Q E hr h => ?_)
  · obtain ⟨G, p, g, c, x, m, ess, h, rfl, _⟩ := h
    rfl
  · obtain ⟨G, p, g, c, x, m, ess, hE, rfl, hPP, hFF, k⟩ := h
    have r7 : Room 7 _ := hr.mono (by decide)
    have hu : (A.deeper (envOfC "_law_bad_things" (defScope sBTh) s.heap.objs.size f cdv)).units + 64 < cLine := by have := hr.un; omega
    refine ⟨_, pss_cons (ps_set (i := 2) scBTh.nd rfl (Or.inl rfl) (pe_cal C hr (by rfl) (pa_cons (pv 0) (pa_cons (pe_fld (pv 1) rfl) pa_nil))))
      (pss_cons (ps_set (i := 3) scBTh.nd rfl (Or.inl rfl) (pe_join pe_str (pe_lc (own := [("_law_k", 4)]) (g := gName 4) (tt := tYes) rfl scBTh.nd (pi_range1 (by rfl) B.range (pa_cons pe_int pa_nil)) (blkOk_by (N := nBTh) (sc := defScope sBTh) (by decide +kernel))
          (fun _ _ _ _ _ => pg_name (i := 4) scBTh.nd rfl (Or.inl rfl)) (fun _ _ _ _ _ => pts_nil)
          (fun _ _ _ _ _ => pe_callTy call_str_int (by rfl) B.str PyProof.Rows.boot_str (pa_cons (pe_cal C hr (by rfl) (pa_cons (pv 0) (pa_cons pe_int pa_nil))) pa_nil)))))
      (pss_cons (ps_set (i := 5) scBTh.nd rfl (Or.inl rfl) (pe_lst (pa_cons pe_non (pa_cons (pe_slice sl_str (pv 3) po_none (po_some pe_int)) (pa_cons pe_str (pa_cons pe_str (pa_cons pe_int (pa_cons pe_dnewK (pa_cons pe_bl (pa_cons (pe_op op_add_str (pv 3) pe_str)
          (pa_cons (pe_lst (pa_cons (pv 3) pa_nil)) (pa_cons (pe_lst (pa_cons pe_non pa_nil)) (pa_cons (pe_tup (pa_cons (pe_op op_add_str (pv 3) pe_str) pa_nil)) (pa_cons (pe_mkAt (CX := CX0) (W := WF) mk FI r7 (by rfl) MT.g bI (fun _ _ _ _ _ _ _ h => h.elim) (pa_cons (pe_lst pa_nil) pa_nil)) pa_nil))))))))))))))
      (pss_cons (ps_set (i := 6) scBTh.nd rfl (Or.inl rfl) (pe_ix (ix_listK (K := K) rfl) (pe_op op_cat (pv 5) (pe_lst (pa_cons pe_str pa_nil))) (pe_cal C hr (by rfl) (pa_cons (pv 0) (pa_cons pe_int pa_nil))) (fun _ _ => rfl)))
      (pss_cons (ps_if (pt_cmpR (op_neD hu) (pe_cal CE hr (by rfl) (pa_cons (pv 1) (pa_cons pe_int (pa_cons (pv 2) (pa_cons (pv 6) pa_nil))))) (pe_tup (pa_cons pe_str (pa_cons (pe_lst (pa_cons pe_bl (pa_cons pe_bl (pa_cons pe_bl pa_nil)))) pa_nil))) (nomark _)) (pss_one (ps_ret pe_bl)) pss_nil)
      (pss_cons (ps_if (pt_cmpR (op_neD hu) (pe_cal CE hr (by rfl) (pa_cons (pv 1) (pa_cons pe_int (pa_cons (pv 2) (pa_cons (pv 6) pa_nil))))) (pe_tup (pa_cons pe_str (pa_cons (pe_lst (pa_cons pe_bl (pa_cons pe_bl (pa_cons pe_bl pa_nil)))) pa_nil))) (nomark _)) (pss_one (ps_ret pe_bl)) pss_nil)
      (pss_cut (ps_if (PW.pt (pw_and (pt_val (pe_callB call_isi (by rfl) B.isi boot_isinstance (pa_cons (pv 6) (pa_cons (pe_bltn (v := .ty "list") (by rfl) B.list PyProof.Rows.boot_list rfl) pa_nil)))) (pw_and1 (pt_cmpR (op_eqD hu) (pv 6) (pe_lst (pa_cons (pv 3) pa_nil)) (nomark _))))) (pss_one (ps_set (i := 6) scBTh.nd rfl (Or.inl rfl) (pv 3))) pss_nil)
      (pss_cons (ps_if (pt_cmpR (op_neD hu) (pe_cal CE hr (by rfl) (pa_cons (pv 1) (pa_cons pe_int (pa_cons (pv 2) (pa_cons (pv 6) pa_nil))))) (pe_tup (pa_cons pe_str (pa_cons (pe_lst (pa_cons pe_bl (pa_cons pe_bl (pa_cons pe_bl pa_nil)))) pa_nil))) (nomark _)) (pss_one (ps_ret pe_bl)) pss_nil)
      (pss_cons (ps_set (i := 7) scBTh.nd rfl (Or.inl rfl) (pe_lst (pa_cons pe_str (pa_cons pe_str (pa_cons (pv 3) (pa_cons pe_str (pa_cons (pe_slice sl_str (pv 3) po_none (po_some pe_int)) pa_nil)))))))
      (pss_cons (ps_set (i := 8) scBTh.nd rfl (Or.inl rfl) (pe_cal C hr (by rfl) (pa_cons (pv 0) (pa_cons pe_int pa_nil))))
      (pss_cons (ps_set (i := 7) scBTh.nd rfl (Or.inl rfl) (pe_op op_cat (pe_op op_cat (pe_slice sl_list (pv 7) po_none (po_some (pv 8))) (pe_lst (pa_cons (pe_ix (ix_listK (K := K) rfl) (pe_lst (pa_cons pe_non (pa_cons pe_int (pa_cons pe_str (pa_cons (pe_op op_add_str (pv 3) pe_str)
          (pa_cons (pe_mkAt (CX := CX0) (W := WF) mk FI r7 (by rfl) MT.g bI (fun _ _ _ _ _ _ _ h => h.elim) (pa_cons (pe_lst pa_nil) pa_nil)) (pa_cons (pe_lst (pa_cons pe_str pa_nil)) pa_nil))))))) (pe_cal C hr (by rfl) (pa_cons (pv 0) (pa_cons pe_int pa_nil))) (fun _ _ => rfl)) pa_nil))) (pe_slice sl_list (pv 7) (po_some (pv 8)) po_none)))
      (pss_cons (ps_if (pt_cmpR (op_neD hu) (pe_cal CE hr (by rfl) (pa_cons (pv 1) (pa_cons pe_int (pa_cons (pv 2) (pa_cons (pv 7) pa_nil))))) (pe_tup (pa_cons pe_str (pa_cons (pe_lst (pa_cons pe_bl (pa_cons pe_bl (pa_cons pe_bl pa_nil)))) pa_nil))) (nomark _)) (pss_one (ps_ret pe_bl)) pss_nil)
      (pss_cons (ps_set (i := 9) scBTh.nd rfl (Or.inl rfl) (pe_lst (pa_cons pe_str (pa_cons (pv 3) (pa_cons pe_str (pa_cons (pe_ix (ix_listK (K := K) rfl) (pe_lst (pa_cons pe_str (pa_cons pe_str (pa_cons pe_str pa_nil)))) (pe_cal C hr (by rfl) (pa_cons (pv 0) (pa_cons pe_int pa_nil))) (fun _ _ => rfl)) (pa_cons (pe_lst (pa_cons (pv 3) pa_nil)) pa_nil)))))))
      (pss_cons (ps_for (passes_of rfl) rfl (pi_range1 (by rfl) B.range (pa_cons pe_int pa_nil)) (pg_name (i := 10) scBTh.nd rfl (Or.inl rfl))
        (pss_one (ps_if (pt_cmpR (op_neD hu) (pe_cal CE hr (by rfl) (pa_cons (pv 1) (pa_cons (pv 10) (pa_cons (pv 2) (pa_cons (pe_ix (ix_listK (K := K) rfl) (pv 9) (pv 10) (fun _ _ => rfl)) pa_nil))))) (pe_tup (pa_cons pe_str pa_nil)) (nomark _)) (pss_one (ps_ret pe_bl)) pss_nil)))
      (pss_one (ps_ret pe_bl))))))))))))))), ?_⟩
    have hbB : ∀ es ∈ ess, ∀ e ∈ es, IsB e.1 := fun es hes e he => ((hE.ok es hes).it e he).1
    have hP := hPP.hd
    have hF := hFF.hd hPP hbB
    generalize Hd2 H p g = G0 at *
    have hone := hE.one
    have height := hE.eight
    -- the start
    obtain ⟨dx, fs, t, ts, h1, h2, h3, h4, h5, h6⟩ := id hF
    refine q_asgW ?_
    refine ep_drw (p := p) (g := g) (c := c) (G := G0) (z := (ess.length : Int)) rfl (fun H3 e3 Q3 q3 => ⟨.ref x, rfl, x, CF, dx, fs, _, rfl, e3 _ _ h1, XF.cl, XF.nS, h2, q3 H3 (Ex.refl _)⟩) (by omega) (by omega) H hP _ fun H1 v g1 hv => ?_
    obtain ⟨j, rfl, hj0, hj1⟩ := hv
    obtain ⟨r, rfl⟩ : ∃ jn : Nat, j = (jn : Int) := ⟨j.toNat, by omega⟩
    have hrl : r < ess.length := by omega
    change tSeq (tAsg _ _) _ _ [some (.ref p), some (.ref x), some (.int (r : Int)), none, none, none, none, none, none, none, none] H1
    -- the address
    refine q_asgW ?_
    refine ep_bits (K := K) (σ := [some (.ref p), some (.ref x), some (.int (r : Int)), none, none, none, none, none, none, none, none]) (vs := [4]) (G := G0) (g := g) (c := c) (M := 10) (N := 10) (i := 0) (j := 4) rfl (by decide) (ep_ev ev_c ⟨10, rfl, Nat.le_refl _, Nat.le_refl _⟩) (by decide) (fun x => rfl) H1 g1.pl _ fun H2 v g2 hv => ?_
    obtain ⟨l, rfl, hB, hl1, hl2⟩ := hv
    have hl : l.length = 10 := by omega
    have hP2 := g2.pl
    clear g1 g2
    change tSeq (tAsg _ _) _ _ [some (.ref p), some (.ref x), some (.int (r : Int)), some (.str (T l)), none, none, none, none, none, none, none] H2
    have lit : (Str.ofString "" = T []) ∧ (Str.ofString "x" = T [120]) ∧ (Str.ofString "1" = T [49]) ∧ (Str.ofString "0" = T [48]) ∧ (Str.ofString "rounds" = T [114, 111, 117, 110, 100, 115]) ∧ (Str.ofString "02" = T [48, 50]) := by decide +kernel
    obtain ⟨te, tx, t1, t0, trs, t02⟩ := lit
    have wx : wordB (T [120]) = false := by rw [← tx]; decide +kernel
    have wrs : wordB (T [114, 111, 117, 110, 100, 115]) = false := by rw [← trs]; decide +kernel
    have slN : ∀ {n : Nat} {σ : L2.St} {H1 : Hp}, σ[3]? = some (some (.str (T l))) → Ev (tSl rSlS (tVar 3) tNoPart (tPart (tC (.int (n : Int))))) σ H1 (.str (T (l.take n))) := fun {n σ H1} h => by
      have z := ev_slS (H := H1) (lo := none) (hi := some ((n : Nat) : Int)) (ev_var h) eo_none (eo_some ev_c) (by omega)
      rw [cut_take] at z
      exact z
    have ev48 : ∀ {σ : L2.St} {H1 : Hp}, σ[3]? = some (some (.str (T l))) → Ev (tOp rAddS (tVar 3) (tC (.str "0"))) σ H1 (.str (T (l ++ [48]))) := fun {σ H1} h => ev_addS (ev_var h) (ev_cs t0) (by simp; omega)
    -- odd things
    refine q_asgW ?_
    have hm : ∀ (H1 H2' : Hp) (v : V), Ex H1 H2' → (∀ G', Ag H2 H1 G' → ThP K G' l v) → ∀ G', Ag H2 H2' G' → ThP K G' l v := fun H1 H2' v e h G' a => h G' (a.mono e)
    refine el_ya (n := 12) (Y := fun H' v => ∀ G', Ag H2 H' G' → ThP K G' l v) ?A1 (by decide) fun od H3 e3 hol hod OD hOD => ?_
    case A1 =>
      refine eya_cons hm (eyo_ev ev_c fun _ _ _ _ => th_flat (d := .none) .non rfl rfl rfl) (eya_cons hm (eyo_ev (slN (n := 9) rfl) fun _ _ _ _ => th_str (by rw [List.length_take]; omega) (adr_len (by rw [List.length_take]; omega)) (word_bits (hB.take _)))
        (eya_cons hm (eyo_ev (ev_cs te) fun _ _ _ _ => th_str (by simp) (adr_len (by simp)) (word_bits IsB.nil)) (eya_cons hm (eyo_ev (ev_cs tx) fun _ _ _ _ => th_str (by simp) (adr_len (by simp)) wx)
        (eya_cons hm (eyo_ev ev_c fun _ _ _ _ => th_flat (d := .int 7) (.int 7) rfl rfl rfl) (eya_cons hm (fun H5 e5 Q5 q5 => ?_) (eya_cons hm (eyo_ev ev_c fun _ _ _ _ => th_flat (d := .bool true) (.bl true) rfl rfl rfl)
        (eya_cons hm (eyo_ev (ev_addS (ev_var rfl) (ev_cs t1) (by simp; omega)) fun _ _ _ _ => th_str (by simp; omega) (adr_len (by simp; omega)) (word_bits (hB.app fun c hc => .inr (List.mem_singleton.mp hc))))
        (eya_cons hm (fun H5 e5 Q5 q5 => ?_) (eya_cons hm (fun H5 e5 Q5 q5 => ?_) (eya_cons hm (fun H5 e5 Q5 q5 => ?_) (eya_cons hm (fun H5 e5 Q5 q5 => ?_) eya_nil)))))))))))
      · exact fun a ha => q5 _ _ (Ex.new ha) fun G' ag => th_dic (ag _ _ (fresh_back e5 ha) upd_same)
      · exact ⟨_, rfl, by show 1 ≤ sizeLine; decide, fun a ha => q5 _ _ (Ex.new ha) fun G' ag => th_l1 (ag _ _ (fresh_back e5 ha) upd_same)⟩
      · exact ⟨by show 1 ≤ sizeLine; decide, fun a ha => q5 _ _ (Ex.new ha) fun G' ag => th_l2 (ag _ _ (fresh_back e5 ha) upd_same)⟩
      · exact eu_tup (vs := [.str (T (l ++ [48]))]) (ea_cons (ev48 rfl) ea_nil) (by show 1 ≤ 100000; decide) H5 (Ex.refl _) _ fun a H6 na e6 ha => q5 _ _ e6 fun G' ag => th_t1 (l := l ++ [48]) (by simp; omega) (by simp; omega) (ag _ _ (fresh_back e5 na) ha)
      · refine ⟨by show 0 ≤ sizeLine; decide, fun a ha => ?_⟩
        refine mk_tab (us := []) (es := []) (.inl upd_same) .nil (EsOk.nil 24) fun y H6 e6 ny hT => ?_
        obtain ⟨dy, gs, te', nd, us', es', j1, _⟩ := hT
        exact q5 _ _ ((Ex.new ha).trans e6) fun G' ag => th_ins X XT (ag _ _ (fresh_back (e5.trans (Ex.new ha)) ny) j1)
    have e4 := Ex.new (o := .lst od) hOD
    have hOD4 : (upd H3 OD (.lst od)) OD = some (.lst od) := upd_same
    have hod4 : ∀ v ∈ od, ∀ G', Ag H2 (upd H3 OD (.lst od)) G' → ThP K G' l v := fun v hv G' a => hod v hv G' (a.mono e4)
    have e24 := e3.trans e4
    generalize upd H3 OD (.lst od) = H4 at *
    change tSeq (tAsg _ _) _ _ [some (.ref p), some (.ref x), some (.int (r : Int)), some (.str (T l)), none, some (.ref OD), none, none, none, none, none] H4
    -- one of them
    refine q_asgW ?_
    refine ⟨.ref OD, rfl, by show 1 ≤ sizeLine; decide, fun O2 hO2 => ?_⟩
    have e5 := Ex.new (o := .lst [V.str "rounds"]) hO2
    have hO25 : (upd H4 O2 (.lst [V.str "rounds"])) O2 = some (.lst [V.str "rounds"]) := upd_same
    generalize upd H4 O2 (.lst [V.str "rounds"]) = H5 at *
    refine ⟨OD, O2, od, [V.str "rounds"], rfl, rfl, e5 _ _ hOD4, hO25, by rw [hol]; decide, fun O3 hO3 => ?_⟩
    have e6 := Ex.new (o := .lst (od ++ [V.str "rounds"])) hO3
    have hO36 : (upd H5 O3 (.lst (od ++ [V.str "rounds"]))) O3 = some (.lst (od ++ [V.str "rounds"])) := upd_same
    have e26 := (e24.trans e5).trans e6
    have hO30 := fresh_back (e24.trans e5) hO3
    have hall : ∀ v ∈ od ++ [V.str "rounds"], ∀ G', Ag H2 (upd H5 O3 (.lst (od ++ [V.str "rounds"]))) G' → ThP K G' l v := fun v hv G' a => by
      rcases List.mem_append.mp hv with z | z
      · exact hod4 v z G' (a.mono (e5.trans e6))
      · rw [List.mem_singleton.mp z]
        show ThP K G' l (.str (Str.ofString "rounds"))
        rw [trs]
        exact th_str (by simp) (adr_len (by simp)) wrs
    generalize upd H5 O3 (.lst (od ++ [V.str "rounds"])) = H6 at *
    have gg := Gq.grow hP2 e26
    have ag : Ag H2 H6 (fun b => match H2 b with | none => H6 b | some _ => G0 b) := Ag.grow
    have hG3 := ag _ _ hO30 hO36
    have hallG : ∀ v ∈ od ++ [V.str "rounds"], ThP K (fun b => match H2 b with | none => H6 b | some _ => G0 b) l v := fun v hv => hall v hv _ ag
    have hFG := hF.mono gg.ex
    generalize (fun b => match H2 b with | none => H6 b | some _ => G0 b) = G1 at *
    clear hod hod4 hall
    refine ep_drw (p := p) (g := g) (c := c) (G := G1) (z := 13) rfl ev_c (by decide) (by decide) H6 gg.pl _ fun H7 v g7 hv => ?_
    obtain ⟨j, rfl, hj0, hj1⟩ := hv
    obtain ⟨jn, rfl⟩ : ∃ jn : Nat, j = (jn : Int) := ⟨j.toNat, by omega⟩
    have hol2 : (od ++ [V.str "rounds"]).length = 13 := by rw [List.length_append, hol]; rfl
    have hjl : jn < (od ++ [V.str "rounds"]).length := by omega
    refine ⟨O3, _, (jn : Int), (od ++ [V.str "rounds"])[jn], rfl, rfl, sq_of (g7.pl.ex _ _ hG3), atI_nat (List.getElem?_eq_getElem hjl), ?_⟩
    have hth := hallG _ (List.getElem_mem hjl)
    generalize (od ++ [V.str "rounds"])[jn] = u at *
    have hP7 := g7.pl
    change tSeq (tIfS _ _ _) _ _ [some (.ref p), some (.ref x), some (.int (r : Int)), some (.str (T l)), none, some (.ref OD), some u, none, none, none, none] H7
    clear hallG hol2 hjl
    -- three calls
    have call : ∀ {σ : L2.St} {H8 : Hp} {w0 kk iu : Nat} {u0 : V}, σ[1]? = some (some (.ref x)) → σ[2]? = some (some (.int (r : Int))) → σ[iu]? = some (some u0) → Ex G1 H8 → w0 ≤ 4 → ThingC K H8 ess w0 (.int (r : Int)) u0 (.int (r : Int)) kk →
        ∀ H1, Ex H8 H1 → ∀ Q : VK, (∀ t l H2, Ex H1 H2 → H2 t = some (.tup [.str "thing", .ref l]) → H2 l = some (.lst [.bl (decide (kk = 0)), .bl (decide (kk = 1)), .bl (decide (kk = 2))]) → Q (.ref t) H2) → tCall (spLE K CF CT) [] E0 (tCons (tVar 1) (tCons (tC (.int (w0 : Int))) (tCons (tVar 2) (tCons (tVar iu) tNil)))) σ H1 Q :=
      fun {σ H8 w0 kk iu u0} s1 s2 s3 e8 hw hT H9 e9 Q9 q9 => ⟨.ref x, s1, .int (r : Int), s2, u0, s3, x, w0, .int (r : Int), u0, .int (r : Int), ess, rfl, hw, hFG.mono (e8.trans e9), .int _, .inr (.inl ⟨kk, hT.mono e9, fun H' t l' e' i1 i2 => q9 t l' H' e' i1 i2⟩)⟩
    refine q_when (et_thing (K := K) (a := true) (b := false) (c := false) (call (w0 := 1) (kk := 0) (iu := 6) rfl rfl rfl hP7.ex (by decide) ⟨r, rfl, rfl, hrl, .inl ⟨rfl, (hth.mono hP7.ex).1, rfl⟩⟩)) (fun z => by cases z) fun _ H8 e8 => ?_
    refine q_when (et_thing (K := K) (a := false) (b := false) (c := true) (call (w0 := 3) (kk := 2) (iu := 6) rfl rfl rfl (hP7.ex.trans e8) (by decide) ⟨r, rfl, rfl, hrl, .inr (.inr ⟨rfl, (hth.mono (hP7.ex.trans e8)).2.1, rfl⟩)⟩)) (fun z => by cases z) fun _ H9 e9 => ?_
    have eG9 := (hP7.ex.trans e8).trans e9
    -- the address itself
    refine q_cut (M := fun σ2 H10 => ∃ u2, σ2 = [some (.ref p), some (.ref x), some (.int (r : Int)), some (.str (T l)), none, some (.ref OD), some u2, none, none, none, none] ∧ Ex H9 H10 ∧ RwF K H10 u2 false) ?_ ?_
    · have eql : ∀ {a : Addr} {d : PyData} {vs : List V} {ds : List PyData}, u = .ref a → H9 a = some (.lst vs) → (∀ H', DqA H' vs ds) → d = .list ds → CmD d → Ev (tOp (rEqD K) (tVar 6) (tLst (tCons (tVar 3) tNil))) [some (.ref p), some (.ref x), some (.int (r : Int)), some (.str (T l)), none, some (.ref OD), some u, none, none, none, none] H9 (.bl (PyData.eqv d (.list [.str (T l)]))) := fun {a d vs ds} hua ha hds hd hc H1 e1 Q1 q1 => by
        refine ⟨u, rfl, .str (T l), rfl, by show 1 ≤ sizeLine; decide, fun b hb => ?_⟩
        have e2 := Ex.new (o := .lst [V.str (T l)]) hb
        subst hua hd
        exact rv_eqC (K := K) (.lst (e2 _ _ (e1 _ _ ha)) (hds _)) (.lst upd_same (.cons (.str _) .nil)) hc (cm_l1 hB) _ (Ex.refl _) _ fun H3 e3 => q1 H3 (e2.trans e3)
      have tl := hth.2.2.mono eG9
      rcases tl with ⟨hn, hr9⟩ | ⟨a, hua, ha⟩ | ⟨a, hua, ha⟩
      · exact s_when (b := false && false) (et_and (et_B (ev_isk (K := K) (ev_var rfl) hn)) fun z => (by cases z)) (fun z => by cases z) fun _ H10 e10 => ⟨u, rfl, e10, RwF.mono e10 hr9⟩
      · have ek : IsK K H9 u "list" true := by rw [hua]; exact isk_lst ha (show kitB "list" "list" = some true by decide +kernel)
        have q := eql (d := .list [.str (T l)]) hua ha (fun H' => .cons (.str _) .nil) rfl (cm_l1 hB)
        rw [SeqAt.eqv_refl _ (cm_l1 hB).1] at q
        exact s_when (b := true && true) (et_and (et_B (ev_isk (K := K) (ev_var rfl) ek)) fun _ => et_test q) (fun _ H10 e10 => s_asg (v := .str (T l)) (ev_var rfl) fun H11 e11 => ⟨_, rfl, e10.trans e11, .inr ⟨iskr_dq (.str _), rfl⟩⟩) (fun z => by cases z)
      · have ek : IsK K H9 u "list" true := by rw [hua]; exact isk_lst ha (show kitB "list" "list" = some true by decide +kernel)
        have q := eql (d := .list [.none]) hua ha (fun H' => .cons .non .nil) rfl cm_l2
        rw [show PyData.eqv (.list [.none]) (.list [.str (T l)]) = false by simp [PyData.eqv, PyData.eqvAll]] at q
        refine s_when (b := true && false) (et_and (et_B (ev_isk (K := K) (ev_var rfl) ek)) fun _ => et_test q) (fun z => by cases z) fun _ H10 e10 => ⟨u, rfl, e10, .inl ⟨a, _, [false], hua, .inl (e10 _ _ ha), by simp, .cons (.no (nst_dq (d := .none) .non rfl)) .nil, rfl⟩⟩
    rintro σ2 H10 ⟨u2, rfl, e10, hr2⟩
    have eG10 := eG9.trans e10
    refine q_when (et_thing (K := K) (a := false) (b := true) (c := false) (call (w0 := 4) (kk := 1) (iu := 6) rfl rfl rfl eG10 (by decide) ⟨r, rfl, rfl, hrl, .inr (.inl ⟨rfl, hr2, rfl⟩)⟩)) (fun z => by cases z) fun _ H11 e11 => ?_
    -- a row of ranges
    have hrs0 : ∀ q ∈ [[], [48], l, [48], l.take 4], IsB q ∧ q.length ≤ 10 := fun q hq => by
      have h48 : IsB [48] := fun c hc => .inl (List.mem_singleton.mp hc)
      simp only [List.mem_cons, List.not_mem_nil, or_false] at hq
      rcases hq with rfl | rfl | rfl | rfl | rfl
      · exact ⟨IsB.nil, by simp⟩
      · exact ⟨h48, by simp⟩
      · exact ⟨hB, by omega⟩
      · exact ⟨h48, by simp⟩
      · exact ⟨hB.take _, by rw [List.length_take]; omega⟩
    refine q_asgL (el_lst (vs := txV [[], [48], l, [48], l.take 4]) (ea_cons (ev_cs te) (ea_cons (ev_cs t0) (ea_cons (ev_var rfl) (ea_cons (ev_cs t0) (ea_cons (slN (n := 4) rfl) ea_nil))))) (by show 5 ≤ 100000; decide)) fun L1 H12 nL1 e12 hL1 => ?_
    change tSeq (tAsg _ _) _ _ [some (.ref p), some (.ref x), some (.int (r : Int)), some (.str (T l)), none, some (.ref OD), some u2, some (.ref L1), none, none, none] H12
    have e711 := ((e8.trans e9).trans e10).trans e11
    have nL17 := fresh_back e711 nL1
    have g2 := Gq.grow hP7 (e711.trans e12)
    have hL1G := (Ag.grow (G := G1)) _ _ nL17 hL1
    have hFG2 := hFG.mono g2.ex
    generalize (fun b => match H7 b with | none => H12 b | some _ => G1 b) = G2 at *
    refine q_asgW ?_
    refine ep_drw (p := p) (g := g) (c := c) (G := G2) (z := 6) rfl ev_c (by decide) (by decide) H12 g2.pl _ fun H13 v g13 hv => ?_
    obtain ⟨j, rfl, hj0, hj1⟩ := hv
    obtain ⟨pl, rfl⟩ : ∃ jn : Nat, j = (jn : Int) := ⟨j.toNat, by omega⟩
    have hP13 := g13.pl
    have hl13 := hP13.ex _ _ hL1G
    change tSeq (tAsg _ _) _ _ [some (.ref p), some (.ref x), some (.int (r : Int)), some (.str (T l)), none, some (.ref OD), some u2, some (.ref L1), some (.int (pl : Int)), none, none] H13
    generalize hrs : [[], [48], l, [48], l.take 4] = rs0 at *
    have hrl0 : rs0.length = 5 := by rw [← hrs]; rfl
    have htl : (txV rs0).length = 5 := by unfold txV; rw [List.length_map]; exact hrl0
    have hpl : pl ≤ 5 := by omega
    have hra : ∀ G', RA (RI K G') (txV rs0) (rs0.map fun _ => true) := fun G' => ra_tx hrs0
    have sl1 : EvL (tSl (rSlL K) (tVar 7) tNoPart (tPart (tVar 8))) [some (.ref p), some (.ref x), some (.int (r : Int)), some (.str (T l)), none, some (.ref OD), some u2, some (.ref L1), some (.int (pl : Int)), none, none] H13 ((txV rs0).take pl) := by
      have q := el_sl (K := K) (te := tVar 7) (σ := [some (.ref p), some (.ref x), some (.int (r : Int)), some (.str (T l)), none, some (.ref OD), some u2, some (.ref L1), some (.int (pl : Int)), none, none]) (H := H13) (ev_var rfl) eo_none (eo_some (te := tVar 8) (i := (pl : Int)) (ev_var rfl)) (sq_of hl13)
      rw [cut_to _ _ (by omega)] at q
      exact q
    refine q_asgW ?_
    refine sl1 H13 (Ex.refl _) _ fun a1 H14 na1 e14 ha1 => ?_
    have hm2 : ∀ (H1 H2' : Hp) (v : V), Ex H1 H2' → (∀ G', Ag H13 H1 G' → RI K G' v false) → ∀ G', Ag H13 H2' G' → RI K G' v false := fun H1 H2' v e h G' a => h G' (a.mono e)
    refine tl_one ?_
    refine t_ix ?_
    refine el_ya (n := 6) (Y := fun H' v => ∀ G', Ag H13 H' G' → RI K G' v false) ?A2 (by decide) fun il H15 e15 hil hit DL hDL => ?_
    case A2 =>
      refine eya_cons hm2 (eyo_ev ev_c fun _ _ _ _ => .no (nst_dq (d := .none) .non rfl)) (eya_cons hm2 (eyo_ev ev_c fun _ _ _ _ => .no (nst_dq (d := .int 1) (.int 1) rfl)) (eya_cons hm2 (eyo_ev (ev_cs t02) fun _ _ _ _ => .txt (by simp) (by decide))
        (eya_cons hm2 (eyo_ev (ev48 rfl) fun _ _ _ _ => .txt (by simp; omega) (rng_len (by simp; omega))) (eya_cons hm2 (fun H5 e5 Q5 q5 => ?_) (eya_cons hm2 (fun H5 e5 Q5 q5 => ?_) eya_nil)))))
      · refine ⟨by show 0 ≤ sizeLine; decide, fun a ha => ?_⟩
        refine mk_tab (us := []) (es := []) (.inl upd_same) .nil (EsOk.nil 24) fun y H6 e6 ny hT => ?_
        obtain ⟨dy, gs, te', nd, us', es', j1, _⟩ := hT
        exact q5 _ _ ((Ex.new ha).trans e6) fun G' ag => .no (isk_ins X (ag _ _ (fresh_back ((e14.trans e5).trans (Ex.new ha)) ny) j1) X.ks)
      · exact ⟨by show 1 ≤ sizeLine; decide, fun a ha => q5 _ _ (Ex.new ha) fun G' ag => .no (isk_lst (ag _ _ (fresh_back (e14.trans e5) ha) upd_same) (show kitB "list" "str" = some false by decide +kernel))⟩
    have e16 := Ex.new (o := .lst il) hDL
    have hDL6 : (upd H15 DL (.lst il)) DL = some (.lst il) := upd_same
    have hit6 : ∀ v ∈ il, ∀ G', Ag H13 (upd H15 DL (.lst il)) G' → RI K G' v false := fun v hv G' a => hit v hv G' (a.mono e16)
    have e1416 := e15.trans e16
    have nDL := fresh_back (e14.trans e15) hDL
    generalize upd H15 DL (.lst il) = H16 at *
    have g3 := Gq.grow hP13 (e14.trans e1416)
    have ag3 : Ag H13 H16 (fun b => match H13 b with | none => H16 b | some _ => G2 b) := Ag.grow
    have hDLG := ag3 _ _ nDL hDL6
    have ha1G := ag3 _ _ na1 (e1416 _ _ ha1)
    have hitG : ∀ v ∈ il, RI K (fun b => match H13 b with | none => H16 b | some _ => G2 b) v false := fun v hv => hit6 v hv _ ag3
    have hL1G3 : (fun b => match H13 b with | none => H16 b | some _ => G2 b) L1 = some (.lst (txV rs0)) := g3.ex _ _ hL1G
    have hFG3 := hFG2.mono g3.ex
    generalize (fun b => match H13 b with | none => H16 b | some _ => G2 b) = G3 at *
    clear hit hit6
    refine ep_drw (p := p) (g := g) (c := c) (G := G3) (z := 6) rfl ev_c (by decide) (by decide) H16 g3.pl _ fun H17 v g17 hv => ?_
    obtain ⟨j, rfl, hj0, hj1⟩ := hv
    obtain ⟨jn, rfl⟩ : ∃ jn : Nat, j = (jn : Int) := ⟨j.toNat, by omega⟩
    have hjl : jn < il.length := by omega
    have hP17 := g17.pl
    refine ⟨DL, il, (jn : Int), il[jn], rfl, rfl, sq_of (hP17.ex _ _ hDLG), atI_nat (List.getElem?_eq_getElem hjl), by show 1 ≤ sizeLine; decide, fun a2 ha2 => ?_⟩
    have hv3 := hitG _ (List.getElem_mem hjl)
    generalize il[jn] = v3 at *
    have e18 := Ex.new (o := .lst [v3]) ha2
    have ha28 : (upd H17 a2 (.lst [v3])) a2 = some (.lst [v3]) := upd_same
    generalize upd H17 a2 (.lst [v3]) = H18 at *
    refine ⟨a1, a2, _, _, rfl, rfl, e18 _ _ (hP17.ex _ _ ha1G), ha28, by rw [List.length_take]; exact sz_of (by simp; omega), fun a3 ha3 => ?_⟩
    have e19 := Ex.new (o := .lst ((txV rs0).take pl ++ [v3])) ha3
    have ha39 : (upd H18 a3 (.lst ((txV rs0).take pl ++ [v3]))) a3 = some (.lst ((txV rs0).take pl ++ [v3])) := upd_same
    generalize upd H18 a3 (.lst ((txV rs0).take pl ++ [v3])) = H19 at *
    have e1719 := e18.trans e19
    have sl2 : EvL (tSl (rSlL K) (tVar 7) (tPart (tVar 8)) tNoPart) [some (.ref p), some (.ref x), some (.int (r : Int)), some (.str (T l)), none, some (.ref OD), some u2, some (.ref L1), some (.int (pl : Int)), none, none] H19 ((txV rs0).drop pl) := by
      have q := el_sl (K := K) (te := tVar 7) (σ := [some (.ref p), some (.ref x), some (.int (r : Int)), some (.str (T l)), none, some (.ref OD), some u2, some (.ref L1), some (.int (pl : Int)), none, none]) (H := H19) (ev_var rfl) (eo_some (te := tVar 8) (i := (pl : Int)) (ev_var rfl)) eo_none (sq_of (e1719 _ _ (hP17.ex _ _ hL1G3)))
      rw [cut_from _ _ (by omega)] at q
      exact q
    refine sl2 H19 (Ex.refl _) _ fun a4 H20 na4 e20 ha4 => ?_
    refine ⟨a3, a4, _, _, rfl, rfl, e20 _ _ ha39, ha4, by rw [List.length_append, List.length_take, List.length_drop]; exact sz_of (by simp; omega), fun a5 ha5 => ?_⟩
    have e21 := Ex.new (o := .lst ((txV rs0).take pl ++ [v3] ++ (txV rs0).drop pl)) ha5
    have ha51 : (upd H20 a5 (.lst ((txV rs0).take pl ++ [v3] ++ (txV rs0).drop pl))) a5 = some (.lst ((txV rs0).take pl ++ [v3] ++ (txV rs0).drop pl)) := upd_same
    generalize upd H20 a5 (.lst ((txV rs0).take pl ++ [v3] ++ (txV rs0).drop pl)) = H21 at *
    have e1721 := (e1719.trans e20).trans e21
    have eG321 := hP17.ex.trans e1721
    have hrw : RwF K H21 (.ref a5) false := .inl ⟨a5, _, ((rs0.map fun _ => true).take pl ++ [false]) ++ (rs0.map fun _ => true).drop pl, rfl, .inl ha51, by rw [List.length_append, List.length_append, List.length_take, List.length_drop]; simp; omega, (((hra H21).take pl).app (.cons (hv3.mono eG321) .nil)).app ((hra H21).drop pl), by simp⟩
    change tSeq (tIfS _ _ _) _ _ [some (.ref p), some (.ref x), some (.int (r : Int)), some (.str (T l)), none, some (.ref OD), some u2, some (.ref a5), some (.int (pl : Int)), none, none] H21
    have hF21 := hFG3.mono eG321
    refine q_when (et_thing (K := K) (a := false) (b := true) (c := false) (fun H9 e9 Q9 q9 => ⟨.ref x, rfl, .int (r : Int), rfl, .ref a5, rfl, x, 4, .int (r : Int), .ref a5, .int (r : Int), ess, rfl, by decide, hF21.mono e9, .int _, .inr (.inl ⟨1, ⟨r, rfl, rfl, hrl, .inr (.inl ⟨rfl, RwF.mono e9 hrw, rfl⟩)⟩, fun H' t l' e' i1 i2 => q9 t l' H' e' i1 i2⟩)⟩)) (fun z => by cases z) fun _ H22 e22 => ?_
    -- right ones
    have hP22 := hP17.ext (e1721.trans e22)
    have hF22 := hF21.mono e22
    have hFG3' := hFG3
    refine q_asgW ?_
    refine ⟨.str (T l), rfl, by show 3 ≤ sizeLine; decide, fun WL hWL => ?_⟩
    have e23 := Ex.new (o := .lst [V.str "here", .str "drop", .str "round"]) hWL
    have hWL3 : (upd H22 WL (.lst [V.str "here", .str "drop", .str "round"])) WL = some (.lst [V.str "here", .str "drop", .str "round"]) := upd_same
    generalize upd H22 WL (.lst [V.str "here", .str "drop", .str "round"]) = H23 at *
    have g4 := Gq.grow hP22 e23
    have hWLG := (Ag.grow (G := G3)) _ _ hWL hWL3
    have hFG4 := hFG3.mono g4.ex
    generalize (fun b => match H22 b with | none => H23 b | some _ => G3 b) = G4 at *
    refine ep_drw (p := p) (g := g) (c := c) (G := G4) (z := 3) rfl ev_c (by decide) (by decide) H23 g4.pl _ fun H24 v g24 hv => ?_
    obtain ⟨j, rfl, hj0, hj1⟩ := hv
    obtain ⟨z, hz, hzw⟩ : ∃ z, atI [V.str "here", .str "drop", .str "round"] j = some (.str z) ∧ wordB z = true := by
      have h : j = 0 ∨ j = 1 ∨ j = 2 := by omega
      rcases h with rfl | rfl | rfl
      · exact ⟨_, rfl, by decide +kernel⟩
      · exact ⟨_, rfl, by decide +kernel⟩
      · exact ⟨_, rfl, by decide +kernel⟩
    refine ⟨WL, _, j, _, rfl, rfl, sq_of (g24.pl.ex _ _ hWLG), hz, .str (T l), rfl, by show 1 ≤ sizeLine; decide, fun la hla => ⟨by show 5 ≤ sizeLine; decide, fun GL hGL => ?_⟩⟩
    have e25 := Ex.new (o := .lst [V.str (T l)]) hla
    have hla5 : (upd H24 la (.lst [V.str (T l)])) la = some (.lst [V.str (T l)]) := upd_same
    generalize upd H24 la (.lst [V.str (T l)]) = H25 at *
    have e26 := Ex.new (o := .lst [V.str "", .str (T l), .str "", .str z, .ref la]) hGL
    have hGL6 : (upd H25 GL (.lst [V.str "", .str (T l), .str "", .str z, .ref la])) GL = some (.lst [V.str "", .str (T l), .str "", .str z, .ref la]) := upd_same
    generalize upd H25 GL (.lst [V.str "", .str (T l), .str "", .str z, .ref la]) = H26 at *
    have hla6 := e26 _ _ hla5
    have hF26 := hFG4.mono ((g24.pl.ex.trans e25).trans e26)
    change tSeq (tFor _ _ _) _ _ [some (.ref p), some (.ref x), some (.int (r : Int)), some (.str (T l)), none, some (.ref OD), some u2, some (.ref a5), some (.int (pl : Int)), some (.ref GL), none] H26
    refine q_forR1 (n := 5) (ea_cons ev_c ea_nil) (by decide) (fun i σ' H' => ∃ o, σ' = [some (.ref p), some (.ref x), some (.int (r : Int)), some (.str (T l)), none, some (.ref OD), some u2, some (.ref a5), some (.int (pl : Int)), some (.ref GL), o] ∧ Ex H26 H') (fun H1 e1 => ⟨_, rfl, e1⟩) (fun i σ' H' hi hp => ?_) (fun σ' H' hp => ?_)
    · obtain ⟨o, rfl, e1⟩ := hp
      change tIfS _ _ _ _ [some (.ref p), some (.ref x), some (.int (r : Int)), some (.str (T l)), none, some (.ref OD), some u2, some (.ref a5), some (.int (pl : Int)), some (.ref GL), some (.int (i : Int))] H'
      obtain ⟨ug, hug, hgood⟩ : ∃ ug, [V.str "", .str (T l), .str "", .str z, .ref la][i]? = some ug ∧ ∀ H1, Ex H26 H1 → GoodC H1 ess i (.int (r : Int)) ug (.int (r : Int)) := by
        have h : i = 0 ∨ i = 1 ∨ i = 2 ∨ i = 3 ∨ i = 4 := by omega
        rcases h with rfl | rfl | rfl | rfl | rfl
        · exact ⟨_, rfl, fun H1 e => ⟨r, m, hE, rfl, rfl, hrl, (fun z => by cases z), (fun z => by cases z), fun z => by cases z⟩⟩
        · exact ⟨_, rfl, fun H1 e => ⟨r, m, hE, rfl, rfl, hrl, (fun _ => ⟨l, rfl, hB, hl⟩), (fun z => by cases z), fun z => by cases z⟩⟩
        · exact ⟨_, rfl, fun H1 e => ⟨r, m, hE, rfl, rfl, hrl, (fun z => by cases z), (fun z => by cases z), fun z => by cases z⟩⟩
        · exact ⟨_, rfl, fun H1 e => ⟨r, m, hE, rfl, rfl, hrl, (fun z => by cases z), (fun _ => ⟨z, rfl, hzw⟩), fun z => by cases z⟩⟩
        · exact ⟨_, rfl, fun H1 e => ⟨r, m, hE, rfl, rfl, hrl, (fun z => by cases z), (fun z => by cases z), fun _ => ⟨la, [l], rfl, .inl (e _ _ hla6), by simp, fun q hq => by rw [List.mem_singleton.mp hq]; exact ⟨hB, by omega⟩⟩⟩⟩
      refine s_when (et_none (K := K) (fun H9 e9 Q9 q9 => ?_)) (fun z => by cases z) fun _ H9 e9 => ⟨_, rfl, e1.trans e9⟩
      refine ⟨.ref x, rfl, .int (i : Int), rfl, .int (r : Int), rfl, .ref GL, rfl, .int (i : Int), rfl, GL, _, (i : Int), ug, rfl, rfl, sq_of ((e1.trans e9) _ _ hGL6), atI_nat hug, ?_⟩
      exact ⟨x, i, .int (r : Int), ug, .int (r : Int), ess, rfl, by omega, hF26.mono (e1.trans e9), .int _, .inr (.inr ⟨hgood _ (e1.trans e9), fun H2 t e2 ht => q9 t H2 e2 ht⟩)⟩
    · obtain ⟨o, rfl, e1⟩ := hp
      exact k H'
end
end Wk

set_option Elab.async false
set_option linter.all false
set_option maxRecDepth 100000
set_option maxHeartbeats 2000000
namespace Wk
open PySem PySem.SeqAt
open AutoSeq1 (wpAny_loadPart')
open MeetsSeq MeetsSeq2 MeetsSeq3 SeqRoads2
section
variable {prog : Program} {w : World} {A : Around} {R : Result → Shared → Prop}
/-- at each turn the list is read anew; whether its i-th item is x -/
def InI (prog : Program) (w : World) (A : Around) (E : Value → Shared → Prop) (l : Addr) (x : Value) (e : Nat → Bool) (N : Nat) (I : Shared → Prop) : Prop :=
  ∀ s, I s → ∃ (items : Array Value) (n : Nat), s.heap.get? l = some { cls := .type "list", data := .seq items n } ∧ items.size = N ∧ ∀ (i : Nat) (h : i < items.size), wpAny (model prog w) A.in1 (eqBool items[i] x) (fun r s' => r = e i ∧ I s') E s
theorem in_loopB (l : Addr) (x : Value) (e : Nat → Bool) (N : Nat) (I : Shared → Prop) (hl : InI prog w A (fun er s' => R (.error er) s') l x e N I)
    (fin : ∀ (b : Bool) s, (b = true ↔ ∃ j, j < N ∧ e j = true) → I s → R (.ok (.ret (.bool b))) s) (k : Nat) :
    ∀ i : Nat, N - i = k → i ≤ N → (∀ j, j < i → e j = false) → ∀ s, I s →
      wpAny (model prog w) A.in1 (Builtin.«list.__contains__.loop» ⟨[.ref l, x, rawInt i], []⟩) (GQ.FinOf prog w A R) (fun er s' => R (.error er) s') s := by
  induction k with
  | zero =>
    intro i hk hi hno s h
    obtain ⟨items, n, hl1, hs1, _⟩ := hl _ h
    have hR : R (.ok (.ret (.bool false))) s := fin false s ⟨fun z => (by cases z), fun ⟨j, hj, hj2⟩ => by rw [hno j (by omega)] at hj2; cases hj2⟩ h
    obtain ⟨hp, g, d, tk, os⟩ := s
    wp_walk using wpAny_loadPart' hl1
    have hi1 : items[((i : Nat) : Int).toNat]? = none := by simp; omega
    rw [hi1]
    wp_walk
    exact hR
  | succ k ih =>
    intro i hk hi hno s h
    obtain ⟨items, n, hl1, hs1, turn⟩ := hl _ h
    have hlt : i < items.size := by omega
    have ht := turn i hlt
    obtain ⟨hp, g, d, tk, os⟩ := s
    wp_walk using wpAny_loadPart' hl1
    have hi1 : items[((i : Nat) : Int).toNat]? = some items[i] := by simp [hlt]
    have hc : ((i : Int) + 1) = ((i + 1 : Nat) : Int) := by omega
    rw [hi1]
    refine wpAny_bind (wpAny_mono ht (fun r s2 h2 => ?_) fun _ _ x => x)
    obtain ⟨hr, h2⟩ := h2
    subst hr
    cases hb : e i with
    | true =>
      have hR := fin true s2 ⟨fun _ => ⟨i, by omega, hb⟩, fun _ => rfl⟩ h2
      obtain ⟨hp2, g2, d2, tk2, os2⟩ := s2
      wp_walk
      exact hR
    | false =>
      have hrec := ih (i + 1) (by omega) (by omega) (fun j hj => by
        by_cases c : j = i
        · rw [c]; exact hb
        · exact hno j (by omega)) s2 h2
      obtain ⟨hp2, g2, d2, tk2, os2⟩ := s2
      wp_walk
      rw [hc]
      exact ⟨plainId_quiet plain_contains_loop _, codeAny_builtin entry_contains_loop (by
        rw [Around.under_plainId plain_contains_loop _]
        exact hrec)⟩
theorem list_inB (l : Addr) (x : Value) (e : Nat → Bool) (N : Nat) (I : Shared → Prop) (hl : InI prog w A (fun er s' => R (.error er) s') l x e N I)
    (fin : ∀ (b : Bool) s, (b = true ↔ ∃ j, j < N ∧ e j = true) → I s → R (.ok (.ret (.bool b))) s) {s : Shared} (h : I s) :
    wpAny (model prog w) A.in1 (Builtin.«list.__contains__» ⟨[.ref l, x], []⟩) (GQ.FinOf prog w A R) (fun er s' => R (.error er) s') s := by
  obtain ⟨items, n, hl1, hs1, _⟩ := hl _ h
  have hrec := in_loopB (A := A) (R := R) l x e N I hl fin _ 0 rfl (Nat.zero_le _) (fun j hj => by omega) s h
  obtain ⟨hp, g, d, tk, os⟩ := s
  wp_walk using wpAny_loadPart' hl1
  exact ⟨plainId_quiet plain_contains_loop _, codeAny_builtin entry_contains_loop (by
    rw [Around.under_plainId plain_contains_loop _]
    exact hrec)⟩
/-- the same of two lists -/
def EqI (prog : Program) (w : World) (A : Around) (E : Value → Shared → Prop) (l b : Addr) (e : Nat → Bool) (N : Nat) (I : Shared → Prop) : Prop :=
  ∀ s, I s → ∃ (items items2 : Array Value) (n n2 : Nat), s.heap.get? l = some { cls := .type "list", data := .seq items n } ∧ s.heap.get? b = some { cls := .type "list", data := .seq items2 n2 } ∧ items.size = N ∧ items2.size = N ∧
    ∀ (i : Nat) (h1 : i < items.size) (h2 : i < items2.size), wpAny (model prog w) A.in1 (eqBool items[i] items2[i]) (fun r s' => r = e i ∧ I s') E s
theorem eq_loopB (l b : Addr) (e : Nat → Bool) (N : Nat) (I : Shared → Prop) (hl : EqI prog w A (fun er s' => R (.error er) s') l b e N I)
    (fin : ∀ (r : Bool) s, (r = true ↔ ∀ j, j < N → e j = true) → I s → R (.ok (.ret (.bool r))) s) (k : Nat) :
    ∀ i : Nat, N - i = k → i ≤ N → (∀ j, j < i → e j = true) → ∀ s, I s →
      wpAny (model prog w) A.in1 (Builtin.«list.__eq__.loop» ⟨[.ref l, .ref b, rawInt i, rawInt 2], []⟩) (GQ.FinOf prog w A R) (fun er s' => R (.error er) s') s := by
  induction k with
  | zero =>
    intro i hk hi hyes s h
    obtain ⟨items, items2, n, n2, hl1, hb1, hs1, hs2, _⟩ := hl _ h
    have hR : R (.ok (.ret (.bool true))) s := fin true s ⟨fun _ j hj => hyes j (by omega), fun _ => rfl⟩ h
    obtain ⟨hp, g, d, tk, os⟩ := s
    wp_walk using wpAny_loadPart' hl1, wpAny_loadPart' hb1
    have hi1 : items[((i : Nat) : Int).toNat]? = none := by simp; omega
    have hi2 : items2[((i : Nat) : Int).toNat]? = none := by simp; omega
    rw [hi1, hi2]
    wp_walk using wpAny_loadPart' hl1, wpAny_loadPart' hb1
    show R (.ok (.ret (.bool (items.size == items2.size)))) _
    rw [hs1, hs2]
    simpa using hR
  | succ k ih =>
    intro i hk hi hyes s h
    obtain ⟨items, items2, n, n2, hl1, hb1, hs1, hs2, turn⟩ := hl _ h
    have hlt : i < items.size := by omega
    have hlt2 : i < items2.size := by omega
    have ht := turn i hlt hlt2
    obtain ⟨hp, g, d, tk, os⟩ := s
    wp_walk using wpAny_loadPart' hl1, wpAny_loadPart' hb1
    have hi1 : items[((i : Nat) : Int).toNat]? = some items[i] := by simp [hlt]
    have hi2 : items2[((i : Nat) : Int).toNat]? = some items2[i] := by simp [hlt2]
    have hc : ((i : Int) + 1) = ((i + 1 : Nat) : Int) := by omega
    rw [hi1, hi2]
    refine wpAny_bind (wpAny_mono ht (fun r s2 h2 => ?_) fun _ _ x => x)
    obtain ⟨hr, h2⟩ := h2
    subst hr
    cases he : e i with
    | false =>
      have hR := fin false s2 ⟨fun z => (by cases z), fun z => by rw [z i (by omega)] at he; cases he⟩ h2
      obtain ⟨items', items2', n', n2', hl1', hb1', hs1', hs2', _⟩ := hl _ h2
      obtain ⟨hp2, g2, d2, tk2, os2⟩ := s2
      wp_walk using wpAny_loadPart' hl1', wpAny_loadPart' hb1'
      have hlt' : i < items'.size := by omega
      have hlt2' : i < items2'.size := by omega
      have hi1' : items'[((i : Nat) : Int).toNat]? = some items'[i] := by simp [hlt']
      have hi2' : items2'[((i : Nat) : Int).toNat]? = some items2'[i] := by simp [hlt2']
      rw [hi1', hi2']
      wp_walk
      exact hR
    | true =>
      have hrec := ih (i + 1) (by omega) (by omega) (fun j hj => by
        by_cases c : j = i
        · rw [c]; exact he
        · exact hyes j (by omega)) s2 h2
      obtain ⟨hp2, g2, d2, tk2, os2⟩ := s2
      wp_walk
      rw [hc]
      exact ⟨plainId_quiet plain_eq_loop _, codeAny_builtin entry_eq_loop (by
        rw [Around.under_plainId plain_eq_loop _]
        exact hrec)⟩
theorem list_eqB (l b : Addr) (e : Nat → Bool) (N : Nat) (I : Shared → Prop) (hl : EqI prog w A (fun er s' => R (.error er) s') l b e N I)
    (fin : ∀ (r : Bool) s, (r = true ↔ ∀ j, j < N → e j = true) → I s → R (.ok (.ret (.bool r))) s) {s : Shared} (h : I s) :
    wpAny (model prog w) A.in1 (Builtin.«list.__eq__» ⟨[.ref l, .ref b], []⟩) (GQ.FinOf prog w A R) (fun er s' => R (.error er) s') s := by
  obtain ⟨items, items2, n, n2, hl1, hb1, hs1, hs2, _⟩ := hl _ h
  have hrec := eq_loopB (A := A) (R := R) l b e N I hl fin _ 0 rfl (Nat.zero_le _) (fun j hj => by omega) s h
  obtain ⟨hp, g, d, tk, os⟩ := s
  have f3 := AutoSeq1.sub_list_list
  have hne : ¬ (items.size != items2.size) = true := by simp [hs1, hs2]
  wp_walk using wpAny_loadPart' hl1, wpAny_loadPart' hb1
  exact ⟨plainId_quiet plain_eq_loop _, codeAny_builtin entry_eq_loop (by
    rw [Around.under_plainId plain_eq_loop _]
    exact hrec)⟩
end
section
variable {prog : Program} {w : World} {A : Around} {E : Value → Shared → Prop} {s : Shared}
theorem notIn_listB {l : Addr} {x : Value} {e : Nat → Bool} {N : Nat} {Q : Value → Shared → Prop} (I : Shared → Prop) (hl : InI prog w A E l x e N I)
    (fin : ∀ (b : Bool) s, (b = true ↔ ∃ j, j < N ∧ e j = true) → I s → Q (.bool (!b)) s) (h : I s) : wpAny (model prog w) A (compareOp .NotIn x (.ref l)) Q E s := by
  obtain ⟨items, n, hl1, hs1, _⟩ := hl _ h
  show wpAny _ A (do return .bool (!(← contains (.ref l) x))) Q E s
  refine wpAny_bind (wpAny_contains_slot ⟨_, hl1, rfl⟩ F.slot_list_contains (wpAny_mono (GQ.call_here F.slot_list_contains ⟨_, hl1, rfl⟩ F.entry_list_contains (F.args_list_contains_2 _ _)
    (list_inB (R := wants (fun v s' => ∃ b, v = .bool b ∧ Q (.bool (!b)) s') E) l x e N I hl (fun b s' hb hI => ⟨b, rfl, fin b s' hb hI⟩) h)) (fun v s' hv => ?_) fun _ _ e => e))
  obtain ⟨b, rfl, hq⟩ := hv
  exact wpAny_truthy_bool (wpAny_pure hq)
theorem rc_listB {l b : Addr} {e : Nat → Bool} {N : Nat} {Q : Value → Shared → Prop} (hu : A.units < cLine) (I : Shared → Prop) (hl : EqI prog w A E l b e N I)
    (fin : ∀ (r : Bool) s, (r = true ↔ ∀ j, j < N → e j = true) → I s → Q (.bool r) s) (h : I s) : wpAny (model prog w) A (richCompare .Eq (.ref l) (.ref b)) Q E s := by
  obtain ⟨items, items2, n, n2, hl1, hb1, _, _, _⟩ := hl _ h
  refine wpAny_richCompare_same_room (op := .Eq) ⟨_, hl1, rfl⟩ ⟨_, hb1, rfl⟩ F.slot_list_eq (GQ.call_here F.slot_list_eq ⟨_, hl1, rfl⟩ F.entry_list_eq (F.args_list_eq_2 _ _) ?_) hu
  exact list_eqB (R := wants (fun v s' => v ≠ .notImplemented ∧ Q v s') E) l b e N I hl (fun r s' hr q => ⟨(fun x => nomatch x), fin r s' hr q⟩) h
end
end Wk

set_option Elab.async false
set_option linter.all false
set_option maxRecDepth 100000
set_option maxHeartbeats 2000000
namespace Wk
open L2 PySem PySem.Spec PyProof.Rows
/-! an own == that tells True or False -/
abbrev EqvB := V → V → Bool → Hp → Prop
def MonB (D : EqvB) : Prop := ∀ x y z H H', Ext H H' → D x y z H → D x y z H'
def RcB (X : Cx) (n : Nat) (D : EqvB) : Prop :=
  ∀ (A : Around) (pins : List (Addr × Obj)) (s : Shared) (σ : L2.St) (H : Hp) (x y : V) (u v : Value) (z : Bool), Sub X n A → Inv X pins σ H s → RelV x u → RelV y v → D x y z H →
    wpAny (model X.prog X.w) A (richCompare .Eq u v) (fun r s' => r = .bool z ∧ ∃ H', Inv X pins σ H' s' ∧ Ext H H') X.xe s
def EqB (X : Cx) (n : Nat) (D : EqvB) : Prop :=
  ∀ (A : Around) (pins : List (Addr × Obj)) (s : Shared) (σ : L2.St) (H : Hp) (x y : V) (u v : Value) (z : Bool), Sub X n A → Inv X pins σ H s → RelV x u → RelV y v → D x y z H →
    wpAny (model X.prog X.w) A (eqBool u v) (fun r s' => r = z ∧ ∃ H', Inv X pins σ H' s' ∧ Ext H H') X.xe s
def DInsB (C : Addr) (R : Addr → Addr → Bool → Hp → Prop) : EqvB := fun x y z H => ∃ a b dx dy fs gs, x = .ref a ∧ y = .ref b ∧ H a = some (.ins C dx fs) ∧ H b = some (.ins C dy gs) ∧ R a b z H
def spEqB (R : Addr → Addr → Bool → Hp → Prop) : Sp := fun vs H Q _ => ∃ a b z, vs = [.ref a, .ref b] ∧ R a b z H ∧ ∀ H', Ext H H' → Q (.bl z) H'
section
variable {X : Cx} {n : Nat} {D : EqvB}
theorem rcB_ins {CX : CXT} {C f : Addr} {fd : FuncData} {ps : List Str} {R : Addr → Addr → Bool → Hp → Prop} {E : XK} (F : FnOk X.prog X.w X.K X.mg X.base CX n f fd ps (spEqB R))
    (hs : PySem.W.findIn X.K (.ref C) "__eq__" = some (some (.ref f))) (hf : PySem.W.isFn X.K (.ref f) = true) (hb : Binds X.K fd ps []) (hx : Passes CX X E) : RcB X n (DInsB C R) := by
  intro A pins s σ H x y u v z sb I rx ry d
  obtain ⟨a, b, dx, dy, fs, gs, rfl, rfl, ha, hb', hr⟩ := d
  cases rx
  cases ry
  obtain ⟨mA, J, _⟩ := ins_get I.hok ha
  obtain ⟨mB, J', _⟩ := ins_get I.hok hb'
  obtain ⟨od, J, _⟩ := J.look
  obtain ⟨od', J', _⟩ := J'.look
  obtain ⟨m, hF⟩ := I.fr
  refine PySem.W.cmp_K (op := .Eq) (tb := .ref C) sb.room.units0 hF I.ok.mod.kin J J'.type (by simp [PySem.W.notFirst]) hs hf ?_
  have hsp : spEqB R [.ref a, .ref b] H (fun v H' => v = .bl z ∧ Ext H H') E := ⟨a, b, z, rfl, hr, fun H' e => ⟨rfl, e⟩⟩
  have e0 : Env0 X.prog X.w X.K X.mg X.base A X.stack s H := by
    have e := I.env0
    exact ⟨by rw [sb.fr]; exact e.frames, e.mod, e.bs, e.bsz, e.funs, e.frf, e.hok, e.bare⟩
  have hl := F.len _ _ _ _ hsp
  have r2 : Vals [V.ref a, V.ref b] [Value.ref a, Value.ref b] := .cons rfl (.cons rfl .nil)
  refine wpAny_call (codeAny_mono (F.run A X.stack s H ⟨[.ref a, .ref b], []⟩ [.ref a, .ref b] [.ref a, .ref b] _ E sb.room e0 (by
    have := hb s [.ref a, .ref b] I.kIn (by simpa using hl)
    simpa using this) r2 hsp) fun r s' hq => ?_)
  cases r with
  | error e => exact hx pins σ H s e s' I hq
  | ok fl =>
    cases fl with
    | ret w =>
      obtain ⟨zz, H', I', rz, ez, ex⟩ := I.after hq
      subst ez
      cases rz
      exact ⟨rfl, H', I', ex⟩
    | next => exact False.elim hq
    | brk => exact False.elim hq
    | cont => exact False.elim hq
theorem RcB.eqB (h : RcB X n D) (hr : ∀ x y z H, D x y z H → ∃ a b, x = .ref a ∧ y = .ref b) (hs : ∀ a z H, D (.ref a) (.ref a) z H → z = true) : EqB X n D := by
  intro A pins s σ H x y u v z sb I rx ry d
  obtain ⟨a, b, rfl, rfl⟩ := hr _ _ _ _ d
  cases rx
  cases ry
  by_cases hab : a = b
  · subst hab
    rw [hs _ _ _ d]
    exact SeqAt.EqAt.same (A := A) (s := s) (.ref a) X.prog X.w X.xe _ ⟨rfl, H, I, Ext.rfl'⟩
  · refine GQ.eqBool_refG hab (wpAny_mono (h A pins s σ H (.ref a) (.ref b) _ _ z sb I rfl rfl d) (fun r s' q => ?_) fun _ _ x => x)
    obtain ⟨hr', q⟩ := q
    exact ⟨z, hr', rfl, q⟩
/-- x == y -/
def rEqB (D : EqvB) : R2 := fun x y H Q => ∃ z, D x y z H ∧ ∀ H', Ext H H' → Q (.bl z) H'
theorem op_eqB (h : RcB X n D) (hr : Room n X.A) : OpR X (compareOp .Eq) (rEqB D) := by
  intro pins s σ H x y v u Q I rx ry hq
  obtain ⟨z, d, q⟩ := hq
  show wpAny (model X.prog X.w) X.A (richCompare .Eq v u) (EP X pins σ Q) X.xe s
  refine wpAny_mono (h X.A pins s σ H x y v u z ⟨hr, rfl⟩ I rx ry d) (fun r s' zz => ?_) fun _ _ x => x
  obtain ⟨hr', H', I', e⟩ := zz
  subst hr'
  exact ⟨.bl z, H', I', rfl, q H' e⟩
/-- x not in [..] -/
def rNinB (D : EqvB) : R2 := fun x y H Q => ∃ l ys, ∃ e : Nat → Bool, y = .ref l ∧ H l = some (.lst ys) ∧ (∀ i yi, ys[i]? = some yi → D yi x (e i) H) ∧ ∀ (b : Bool) H', (b = true ↔ ∃ j, j < ys.length ∧ e j = true) → Ext H H' → Q (.bl (!b)) H'
theorem op_notInB (hD : MonB D) (h : EqB X n D) (hr : Room (n + 1) X.A) : OpR X (compareOp .NotIn) (rNinB D) := by
  intro pins s σ H x y v u Q I rx ry hq
  obtain ⟨l, ys, e, rfl, hl, he, q⟩ := hq
  cases ry
  have sb : Sub X (n + 1) X.A := ⟨hr, rfl⟩
  refine notIn_listB (N := ys.length) (e := e) (fun s' => LoopI X pins σ H s') (fun s' t => ?_) (fun b s' hb t => ?_) ⟨H, I, Ext.rfl'⟩
  · obtain ⟨H1, I1, e1⟩ := t
    obtain ⟨z, its, k, r, ei⟩ := I1.hok l _ (e1 _ _ hl)
    refine ⟨its.toArray, k, ei, by rw [List.size_toArray, ← r.length], fun i hi => ?_⟩
    have hi' : i < its.length := by simpa using hi
    have k1 : i < ys.length := by rw [r.length]; exact hi'
    obtain ⟨w, hw, rw'⟩ := r.get (List.getElem?_eq_getElem k1)
    have g1 : its[i]? = some its.toArray[i] := by rw [List.getElem?_eq_getElem hi'] <;> simp
    rw [g1] at hw
    rw [Option.some.inj hw]
    refine wpAny_mono (h _ pins s' σ H1 _ _ w v (e i) sb.in1 I1 rw' rx (hD _ _ _ _ _ e1 (he i _ (List.getElem?_eq_getElem k1)))) (fun r s2 q2 => ?_) fun _ _ x => x
    obtain ⟨hr', H2, I2, e2⟩ := q2
    exact ⟨hr', H2, I2, e1.trans e2⟩
  · obtain ⟨H1, I1, e1⟩ := t
    exact ⟨.bl (!b), H1, I1, rfl, q b H1 hb e1⟩
/-- [..] == [..] -/
def rEqLB (D : EqvB) : R2 := fun x y H Q => ∃ a b xs ys, ∃ e : Nat → Bool, x = .ref a ∧ y = .ref b ∧ H a = some (.lst xs) ∧ H b = some (.lst ys) ∧ xs.length = ys.length ∧ (∀ i xi yi, xs[i]? = some xi → ys[i]? = some yi → D xi yi (e i) H) ∧
  ∀ (r : Bool) H', (r = true ↔ ∀ j, j < xs.length → e j = true) → Ext H H' → Q (.bl r) H'
theorem op_eqLB (hD : MonB D) (h : EqB X n D) (hr : Room (n + 1) X.A) : OpR X (compareOp .Eq) (rEqLB D) := by
  intro pins s σ H x y v u Q I rx ry hq
  obtain ⟨a, b, xs, ys, e, rfl, rfl, ha, hb, hl, he, q⟩ := hq
  cases rx
  cases ry
  have sb : Sub X (n + 1) X.A := ⟨hr, rfl⟩
  show wpAny (model X.prog X.w) X.A (richCompare .Eq (.ref a) (.ref b)) (EP X pins σ Q) X.xe s
  refine rc_listB (N := xs.length) (e := e) hr.units0 (fun s' => LoopI X pins σ H s') (fun s' t => ?_) (fun r s' hb t => ?_) ⟨H, I, Ext.rfl'⟩
  · obtain ⟨H1, I1, e1⟩ := t
    obtain ⟨z, its, k, r, ei⟩ := I1.hok a _ (e1 _ _ ha)
    obtain ⟨z2, its2, k2, r2, ei2⟩ := I1.hok b _ (e1 _ _ hb)
    refine ⟨its.toArray, its2.toArray, k, k2, ei, ei2, by rw [List.size_toArray, ← r.length], by rw [List.size_toArray, ← r2.length, ← hl], fun i h1 h2 => ?_⟩
    have h1' : i < its.length := by simpa using h1
    have h2' : i < its2.length := by simpa using h2
    have k1 : i < xs.length := by rw [r.length]; exact h1'
    have k2 : i < ys.length := by rw [r2.length]; exact h2'
    obtain ⟨w, hw, rw'⟩ := r.get (List.getElem?_eq_getElem k1)
    obtain ⟨w2, hw2, rw2⟩ := r2.get (List.getElem?_eq_getElem k2)
    have g1 : its[i]? = some its.toArray[i] := by rw [List.getElem?_eq_getElem h1'] <;> simp
    have g2 : its2[i]? = some its2.toArray[i] := by rw [List.getElem?_eq_getElem h2'] <;> simp
    rw [g1] at hw
    rw [g2] at hw2
    rw [Option.some.inj hw, Option.some.inj hw2]
    refine wpAny_mono (h _ pins s' σ H1 _ _ w w2 (e i) sb.in1 I1 rw' rw2 (hD _ _ _ _ _ e1 (he i _ _ (List.getElem?_eq_getElem k1) (List.getElem?_eq_getElem k2)))) (fun r s2 q2 => ?_) fun _ _ x => x
    obtain ⟨hr', H2, I2, e2⟩ := q2
    exact ⟨hr', H2, I2, e1.trans e2⟩
  · obtain ⟨H1, I1, e1⟩ := t
    exact ⟨.bl r, H1, I1, rfl, q r H1 hb e1⟩
end
end Wk

set_option Elab.async false
set_option linter.all false
set_option maxRecDepth 100000
set_option maxHeartbeats 4000000
namespace Wk
open PySem PySem.Spec PyProof.Rows L2 Evl
/-! rows told apart -/
theorem eqv_nx {a b : V} (ha : NxV a) (hb : NxV b) : PyData.eqv (nxD a) (nxD b) = decide (a = b) := by
  have ss : ∀ x y : Str, PyData.eqv (.str x) (.str y) = decide (V.str x = V.str y) := fun x y => by
    have e : decide (V.str x = V.str y) = decide (x = y) := decide_eq_decide.mpr ⟨fun z => by injection z, fun z => by rw [z]⟩
    rw [e]
    simp [PyData.eqv]
    by_cases z : x = y <;> simp [z]
  have ii : ∀ x y : Int, PyData.eqv (.int x) (.int y) = decide (V.int x = V.int y) := fun x y => by
    have e : decide (V.int x = V.int y) = decide (x = y) := decide_eq_decide.mpr ⟨fun z => by injection z, fun z => by rw [z]⟩
    rw [e]
    simp [PyData.eqv]
    by_cases z : x = y <;> simp [z]
  have si : ∀ (x : Str) (y : Int), PyData.eqv (.str x) (.int y) = decide (V.str x = V.int y) := fun x y => by
    rw [decide_eq_false (fun z => by cases z)]
    simp [PyData.eqv]
  have is : ∀ (x : Int) (y : Str), PyData.eqv (.int x) (.str y) = decide (V.int x = V.str y) := fun x y => by
    rw [decide_eq_false (fun z => by cases z)]
    simp [PyData.eqv]
  rcases ha with rfl | rfl | ⟨i, _, rfl⟩ <;> rcases hb with rfl | rfl | ⟨j, _, rfl⟩ <;> first | exact ss _ _ | exact ii _ _ | exact si _ _ | exact is _ _
theorem eqv_rowD {a b : Row} (ha : NxV a.2) (hb : NxV b.2) : PyData.eqv (rowD a) (rowD b) = decide (a = b) := by
  obtain ⟨a1, a2⟩ := a
  obtain ⟨b1, b2⟩ := b
  unfold rowD
  simp only [PyData.eqv, PyData.eqvAll, eqv_nx ha hb]
  by_cases h1 : a1 = b1
  · by_cases h2 : a2 = b2
    · simp [h1, h2]
    · simp [h1, h2]
  · have : T a1 ≠ T b1 := fun z => h1 (T_inj z)
    have e : (T a1 == T b1) = false := beq_eq_false_iff_ne.mpr this
    simp [h1, e]
def okR (es : List Row) : Prop := ∀ e ∈ es, IsB e.1 ∧ NxV e.2
theorem eqv_rowL : ∀ {a b : List Row}, okR a → okR b → PyData.eqvAll (a.map rowD) (b.map rowD) = decide (a = b)
  | [], [], _, _ => by simp [PyData.eqvAll]
  | [], _ :: _, _, _ => by simp [PyData.eqvAll]
  | _ :: _, [], _, _ => by simp [PyData.eqvAll]
  | x :: a, y :: b, ha, hb => by
    have ih := eqv_rowL (a := a) (b := b) (fun e he => ha e (List.mem_cons_of_mem _ he)) (fun e he => hb e (List.mem_cons_of_mem _ he))
    simp only [List.map_cons, PyData.eqvAll, eqv_rowD (ha x List.mem_cons_self).2 (hb y List.mem_cons_self).2, ih]
    by_cases h : x = y
    · subst h; simp
    · simp [h]
theorem eqv_rowT {a b : List Row} (ha : okR a) (hb : okR b) : PyData.eqv (.tuple (a.map rowD)) (.tuple (b.map rowD)) = decide (a = b) := by
  simp only [PyData.eqv]
  exact eqv_rowL ha hb
theorem okR_perm {a b : List Row} (h : SrR a b) (hb : okR b) : okR a := fun e he => hb e (h.2.perm.mem_iff.mp he)
/-- two tables, by what they hold -/
def RT (CT : Addr) (a b : Addr) (z : Bool) (H : Hp) : Prop := ∃ e1 e2 s1 s2, Tb CT H a e1 ∧ Tb CT H b e2 ∧ okR e1 ∧ okR e2 ∧ SrR s1 e1 ∧ SrR s2 e2 ∧ z = decide (s1 = s2)
section
variable {P : Program} {w : World} {K : PySem.W.Frag} {mg : Str → Option Value} {base : Heap} {f : Addr} {fd : FuncData} {CT CB CW CO : Addr}
abbrev sEq : Stmt := inClass (top 29) 1
theorem scEq : FnScope ["self", "other"] ["self", "other"] (defScope sEq) := ⟨rfl, rfl, rfl, by decide +kernel, rfl, by decide +kernel, by decide +kernel⟩
theorem ok_eq (B : Bl mg) (X : TX K CT) (g : mg "Table" = some (.ref CT)) (F : FnM K "__eq__" "Table.__eq__" sEq f fd) : FnOk P w K mg base CX0 1 f fd ["self", "other"] (spEqB (RT CT)) := by
  refine F.ok scEq (fun vs H Q E h => ?_) (fun cdv A outer s H vs Q E hr h => ?_)
  · obtain ⟨a, b, z, rfl, _⟩ := h
    rfl
  · obtain ⟨a, b, z, rfl, ⟨e1, e2, s1, s2, h1, h2, o1, o2, r1, r2, rfl⟩, k⟩ := h
    have hu : (A.deeper (envOfC "Table.__eq__" (defScope sEq) s.heap.objs.size f cdv)).units + 64 < cLine := by have := hr.un; omega
    refine ⟨_, pss_one (ps_ret (pe_and (pe_callB (call_isCK (K := K) rfl X.ic) (by rfl) B.isi boot_isinstance (pa_cons (pv 1) (pa_cons (pe_glob (v := .ref CT) (by rfl) g rfl) pa_nil)))
      (pe_one (pe_cmpR (op_eqD hu) (pe_fld (pv 0) rfl) (pe_fld (pv 1) rfl) (nomark _))))), ?_⟩
    obtain ⟨dx, fs, te, nd, us, es, i1, i2, i3, i4, i5, i6, i7, i8⟩ := h1
    obtain ⟨dy, gs, tf, ne, vs, fs', j1, j2, j3, j4, j5, j6, j7, j8⟩ := h2
    obtain rfl := r1.uniq i7
    obtain rfl := r2.uniq j7
    have ok1 := okR_perm r1 o1
    have ok2 := okR_perm r2 o2
    have c1 : Ev (tCB (fun xs H Q => ∃ a dx fs, xs = [.ref a, .ref CT] ∧ H a = some (.ins CT dx fs) ∧ Q (.bl true) H) (tCons (tVar 1) (tCons (tC (.ref CT)) tNil))) (start ["self", "other"] [V.ref a, .ref b]) H (.bl true) := fun H1 e Q1 q1 => ⟨.ref b, rfl, b, dy, gs, rfl, e _ _ j1, q1 H1 (Ex.refl _)⟩
    have c2 : Ev (tOp (rEqD K) (tFld K (tVar 0) "entries") (tFld K (tVar 1) "entries")) (start ["self", "other"] [V.ref a, .ref b]) H (.bl (decide (s1 = s2))) := fun H1 e Q1 q1 => by
      refine ⟨.ref a, rfl, a, CT, dx, fs, .ref te, rfl, e _ _ i1, X.ic.cl, X.nE, i2, .ref b, rfl, b, CT, dy, gs, .ref tf, rfl, e _ _ j1, X.ic.cl, X.nE, j2, ?_⟩
      exact ⟨_, _, rows_dp (e _ _ i5) (i6.mono e) ok1, rows_dp (e _ _ j5) (j6.mono e) ok2, rows_shaped ok1, rows_shaped ok2, by rw [eqv_rowT ok1 ok2]; exact q1 H1 (Ex.refl _)⟩
    exact s_ret (v := .bl (true && decide (s1 = s2))) (ev_andV c1 fun _ => c2) k
def DT (CT : Addr) : EqvB := DInsB CT (RT CT)
theorem dt_of {H : Hp} {a b : Addr} {e1 e2 s1 s2 : List Row} (h1 : Tb CT H a e1) (h2 : Tb CT H b e2) (o1 : okR e1) (o2 : okR e2) (r1 : SrR s1 e1) (r2 : SrR s2 e2) : DT CT (.ref a) (.ref b) (decide (s1 = s2)) H := by
  obtain ⟨dx, fs, te, nd, us, es, i1, _⟩ := id h1
  obtain ⟨dy, gs, tf, ne, vs, fs', j1, _⟩ := id h2
  exact ⟨a, b, dx, dy, fs, gs, rfl, rfl, i1, j1, e1, e2, s1, s2, h1, h2, o1, o2, r1, r2, rfl⟩
structure MqT (P : Program) (w : World) (K : PySem.W.Frag) (mg : Str → Option Value) (base : Heap) (CT : Addr) : Prop where
  ex : ∃ (fE : Addr) (fd : FuncData), Meth K CT "__eq__" fE ∧ FnOk P w K mg base CX0 1 fE fd ["self", "other"] (spEqB (RT CT)) ∧ Binds K fd ["self", "other"] []
theorem rc_DT {X : Cx} (M : MqT X.prog X.w X.K X.mg X.base CT) : RcB X 1 (DT CT) := by
  obtain ⟨fE, fd, me, Fn, b⟩ := M.ex
  exact rcB_ins (E := E0) Fn me.at_ me.fn b pass0
end
end Wk

set_option Elab.async false
set_option linter.all false
set_option maxRecDepth 100000
set_option maxHeartbeats 4000000
namespace Wk
open PySem PySem.Spec PyProof.Rows L2 Evl
theorem Gq.base {p g c : Addr} {G H G' H' : Hp} (hP : Pq G H p g c) (h : Gq p g c (Hd2 H p g) H G' H') : Pq G H' p g c := by
  obtain ⟨cs, gs, k, s, m, i1, i2, i3, r⟩ := h.pl.at_
  obtain ⟨cs0, _, _, _, _, w1, w2, w3, _⟩ := hP.at_
  exact ⟨hP.sub.trans (h.ex.trans h.pl.ex), hP.gp, hP.gg, hP.ne, cs0, gs, k, s, m, w1, w2, w3, r⟩
theorem Gq.hx {p g c : Addr} {H G' H' : Hp} (h : Gq p g c (Hd2 H p g) H G' H') : Ex (Hd2 H p g) H' := h.ex.trans h.pl.ex
theorem Ag.hd {H0 H G : Hp} {p g c : Addr} (hP : Pq G H0 p g c) : Ag H0 H (Hd2 H p g) := fun a o h0 h1 => by
  rw [hd2_at (hP.np h0) (hP.ng h0)]
  exact h1
theorem RA.set {α : Type} {R : V → α → Prop} {v : V} {a : α} (hv : R v a) : ∀ {us : List V} {as : List α} (n : Nat), RA R us as → RA R (us.set n v) (as.set n a)
  | _, _, n, .nil => .nil
  | _, _, 0, .cons h t => .cons hv t
  | _, _, n + 1, .cons h t => .cons h (t.set hv n)
/-! where the first fault is -/
structure RelF (n : Nat) (ess : List (List Row)) (os : List (Option (List Row))) (fs : List Nat) : Prop where
  lo : os.length = n
  le : ess.length = n
  lt : ∀ i ∈ fs, i < n
  at_ : ∀ i, i < n → (i ∈ fs ∧ ∃ o, os[i]? = some o ∧ okTb n o = false) ∨ (i ∉ fs ∧ os[i]? = ess[i]?.map some)
theorem RelF.init {n : Nat} {ess : List (List Row)} (h : ess.length = n) : RelF n ess (ess.map some) [] :=
  ⟨by rw [List.length_map]; exact h, h, (fun i z => by cases z), fun i _ => .inr ⟨(fun z => by cases z), by rw [List.getElem?_map]⟩⟩
theorem RelF.set {n r : Nat} {ess : List (List Row)} {os : List (Option (List Row))} {fs : List Nat} {o : Option (List Row)} (h : RelF n ess os fs) (hr : r < n) (ho : okTb n o = false) : RelF n ess (os.set r o) (fs ++ [r]) := by
  refine ⟨by rw [List.length_set]; exact h.lo, h.le, fun i hi => ?_, fun i hi => ?_⟩
  · rcases List.mem_append.mp hi with z | z
    · exact h.lt i z
    · rw [List.mem_singleton.mp z]; exact hr
  · by_cases c : r = i
    · subst c
      exact .inl ⟨List.mem_append_right _ (List.mem_singleton.mpr rfl), o, by rw [List.getElem?_set_self (by rw [h.lo]; exact hr)], ho⟩
    · rw [List.getElem?_set_ne c]
      rcases h.at_ i hi with ⟨h1, h2⟩ | ⟨h1, h2⟩
      · exact .inl ⟨List.mem_append_left _ h1, h2⟩
      · exact .inr ⟨fun z => (List.mem_append.mp z).elim h1 fun y => c (List.mem_singleton.mp y).symm, h2⟩
theorem fT_all {n : Nat} : ∀ {os : List (Option (List Row))} {i : Nat}, (∀ o ∈ os, okTb n o = true) → fT n i os = none
  | [], _, _ => rfl
  | o :: r, i, h => by
    unfold fT
    rw [if_pos (h o List.mem_cons_self)]
    exact fT_all fun x hx => h x (List.mem_cons_of_mem _ hx)
theorem fT_first {n : Nat} : ∀ {m : Nat} {os : List (Option (List Row))} {i : Nat}, (∀ j, j < m → ∀ o, os[j]? = some o → okTb n o = true) → (∃ o, os[m]? = some o ∧ okTb n o = false) → fT n i os = some (i + m)
  | m, [], _, _, ⟨o, h, _⟩ => by cases h
  | 0, o :: r, i, _, ⟨o', h, hf⟩ => by
    cases h
    unfold fT
    rw [if_neg (by rw [hf]; decide)]
    rfl
  | m + 1, o :: r, i, h, ⟨o', h1, hf⟩ => by
    unfold fT
    rw [if_pos (h 0 (Nat.succ_pos _) o rfl), fT_first (m := m) (fun j hj x hx => h (j + 1) (Nat.succ_lt_succ hj) x hx) ⟨o', h1, hf⟩]
    congr 1
    omega
theorem ok_good {n m : Nat} {es : List Row} (hn : n ≤ 8) (h : ∀ e ∈ es, WayN n e.2) : okTb n (some es) = true := List.all_eq_true.mpr fun e he => (on_way ((h e he).nx hn)).mpr (h e he)
theorem RelF.due {n : Nat} {ess : List (List Row)} {os : List (Option (List Row))} {fs : List Nat} (h : RelF n ess os fs) (hn : n ≤ 8) (hw : ∀ es ∈ ess, ∀ e ∈ es, WayN n e.2) : fT n 0 os = if fs = [] then none else some (fs.min?.getD 0) := by
  have good : ∀ j, j ∉ fs → ∀ o, os[j]? = some o → okTb n o = true := fun j hj o ho => by
    have hjn : j < n := by rw [← h.lo]; exact (List.getElem?_eq_some_iff.mp ho).1
    rcases h.at_ j hjn with ⟨z, _⟩ | ⟨_, z⟩
    · exact absurd z hj
    · rw [ho] at z
      cases hx : ess[j]? with
      | none => rw [hx] at z; cases z
      | some es =>
        rw [hx] at z
        rw [Option.some.inj z]
        exact ok_good (m := 0) hn (hw es (List.mem_of_getElem? hx))
  by_cases c : fs = []
  · rw [if_pos c]
    refine fT_all fun o ho => ?_
    obtain ⟨j, hj⟩ := List.getElem?_of_mem ho
    exact good j (by rw [c]; exact fun z => by cases z) o hj
  · rw [if_neg c]
    obtain ⟨m, hm, hl⟩ := min_ex c
    rw [min_at hm hl]
    have z := fT_first (n := n) (m := m) (os := os) (i := 0) (fun j hj o ho => good j (fun z => by have := hl j z; omega) o ho) (by
      rcases h.at_ m (h.lt m hm) with ⟨_, z⟩ | ⟨z, _⟩
      · exact z
      · exact absurd hm z)
    rw [Nat.zero_add] at z
    exact z
/-! one table twice -/
section
variable {K : PySem.W.Frag} {CT : Addr}
theorem tb_same {H : Hp} {x : Addr} {a b : List Row} (h : Tb CT H x a) (k : Tb CT H x b) : ∃ s, SrR s a ∧ SrR s b := by
  obtain ⟨dx, fs, te, nd, us, es, h1, h2, h3, h4, h5, h6, h7, h8⟩ := h
  obtain ⟨dy, gs, tf, ne, vs, fs', j1, j2, j3, j4, j5, j6, j7, j8⟩ := k
  rw [h1] at j1
  injection j1 with j1
  injection j1 with _ _ j1
  subst j1
  rw [h2] at j2
  injection j2 with j2
  injection j2 with j2
  subst j2
  rw [h5] at j5
  injection j5 with j5
  injection j5 with j5
  subst j5
  have e : es = fs' := by rw [← h6.rows.1, ← j6.rows.1]
  subst e
  exact ⟨es, h7, j7⟩
theorem srR_perm {s a b : List Row} (h1 : SrR s a) (h2 : SrR s b) : a.Perm b := h1.2.perm.symm.trans h2.2.perm
theorem EsOk.okR' {a : List Row} {m : Nat} (h : EsOk a m) : okR a := fun e he => ⟨(h.it e he).1, (h.it e he).2.2⟩
theorem dt_true {H : Hp} {t x : Addr} {a b s : List Row} (h1 : Tb CT H t a) (h2 : Tb CT H x b) (ha : EsOk a 24) (hb : EsOk b 24) (r1 : SrR s a) (r2 : SrR s b) : DT CT (.ref t) (.ref x) true H := by
  obtain ⟨dx, fs, te, nd, us, es, i1, i2, i3, i4, i5, i6, i7, i8⟩ := id h1
  obtain ⟨dy, gs, tf, ne, vs, fs', j1, j2, j3, j4, j5, j6, j7, j8⟩ := id h2
  have z := dt_of h1 h2 ha.okR' hb.okR' i7 j7
  rw [i7.uniq r1, j7.uniq r2, decide_eq_true rfl] at z
  exact z
/-- the tables that a field was made of -/
theorem made_ok {p : Addr} {H : Hp} : ∀ {ts : List V} {ess ess0 : List (List Row)}, TsT CT H ts ess → RA (TbJ CT p H) ts (ess0.map some) → ∀ (r : Nat) es, ess[r]? = some es → ∃ x es0 s, ts[r]? = some (.ref x) ∧ ess0[r]? = some es0 ∧ Tb CT H x es0 ∧ EsOk es0 24 ∧ SrR s es ∧ SrR s es0
  | _, _, [], .cons _ _, h, _, _, _ => by cases h
  | _, _, e0 :: ess0, .cons (x := x) hT t, .cons hJ u, 0, es, hr => by
    cases hr
    obtain ⟨y, hy, hb, hok⟩ := hJ
    injection hy with hy
    subst hy
    obtain ⟨s, s1, s2⟩ := tb_same hT hb
    exact ⟨x, e0, s, rfl, rfl, hb, hok, s1, s2⟩
  | _, _, e0 :: ess0, .cons hT t, .cons hJ u, r + 1, es, hr => made_ok t u r es hr
end
/-! the law's two lists beside the pool -/
structure LSt (CT p g c TL FL : Addr) (G : Hp) (n : Nat) (ess : List (List Row)) (ts : List V) (os : List (Option (List Row))) (fs : List Nat) (H : Hp) : Prop where
  pl : Pq G H p g c
  ht : H TL = some (.lst ts)
  hf : H FL = some (.lst (iV fs))
  ra : RA (TbJ CT p H) ts os
  rel : RelF n ess os fs
  tp : TL ≠ p
  tg : TL ≠ g
  fp : FL ≠ p
  fg : FL ≠ g
  tf : TL ≠ FL
  gt : G TL = none
  gf : G FL = none
section
variable {CT p g c TL FL : Addr} {G : Hp} {n : Nat} {ess : List (List Row)} {ts : List V} {os : List (Option (List Row))} {fs : List Nat} {H : Hp}
theorem LSt.ext {H' : Hp} (e : Ex H H') (h : LSt CT p g c TL FL G n ess ts os fs H) : LSt CT p g c TL FL G n ess ts os fs H' :=
  ⟨h.pl.ext e, e _ _ h.ht, e _ _ h.hf, h.ra.imp fun _ _ z => z.mono e, h.rel, h.tp, h.tg, h.fp, h.fg, h.tf, h.gt, h.gf⟩
theorem LSt.draw {G' H' : Hp} (h : LSt CT p g c TL FL G n ess ts os fs H) (g1 : Gq p g c (Hd2 H p g) H G' H') : LSt CT p g c TL FL G n ess ts os fs H' :=
  ⟨g1.base h.pl, g1.hx _ _ (by rw [hd2_at h.tp h.tg]; exact h.ht), g1.hx _ _ (by rw [hd2_at h.fp h.fg]; exact h.hf), h.ra.imp fun _ _ z => (z.hd h.pl).mono g1.hx, h.rel, h.tp, h.tg, h.fp, h.fg, h.tf, h.gt, h.gf⟩
theorem LSt.put {r : Nat} {v : V} {o : Option (List Row)} (h : LSt CT p g c TL FL G n ess ts os fs H) (hr : r < n) (hv : TbJ CT p H v o) (ho : okTb n o = false) :
    LSt CT p g c TL FL G n ess (ts.set r v) (os.set r o) (fs ++ [r]) (upd (upd H TL (.lst (ts.set r v))) FL (.lst (iV fs ++ [.int (r : Int)]))) := by
  have hf1 : (upd H TL (.lst (ts.set r v))) FL = some (.lst (iV fs)) := by rw [upd_ne (Ne.symm h.tf)]; exact h.hf
  refine ⟨(h.pl.mut h.gt h.tp h.tg).mut h.gf h.fp h.fg, by rw [upd_ne h.tf]; exact upd_same, by rw [upd_same]; simp only [iV, List.map_append, List.map_cons, List.map_nil], ?_, h.rel.set hr ho, h.tp, h.tg, h.fp, h.fg, h.tf, h.gt, h.gf⟩
  exact (h.ra.set hv r).imp fun _ _ z => (z.updL h.ht).updL hf1
end
/-! answers compared -/
def dRf (i : Int) : PyData := .tuple [.str "refused", .int i]
theorem cm_rf (i : Int) : CmD (dRf i) := by
  have h1 : (dRf i).canLay0 = true := by
    have hs : PyData.strOk ("refused" : Str) = true := by decide +kernel
    simp [dRf, PyData.canLay0, PyData.canLayAll0, hs]
  refine ⟨h1, ?_⟩
  unfold SeqAt.shaped
  rw [Bool.and_eq_true]
  exact ⟨h1, decide_eq_true (by simp [dRf, PyData.depth, PyData.depthAll])⟩
theorem ev_rf {K : PySem.W.Frag} {σ : L2.St} {H : Hp} {ta tb : TE} {t : Addr} {i : Int} (ha : Ev ta σ H (.ref t)) (ht : H t = some (.tup [.str "refused", .int i])) (hb : Ev tb σ H (.int i)) : Ev (tOp (rEqD K) ta (tTup (tCons (tC (.str "refused")) (tCons tb tNil)))) σ H (.bl true) := fun H1 e1 Q q =>
  ha H1 e1 _ fun H2 e2 => hb H2 (e1.trans e2) _ fun H3 e3 => ⟨by show 2 ≤ sizeLine; decide, fun t2 ht2 => by
    have e4 := Ex.new (o := .tup [V.str "refused", .int i]) ht2
    have z := rv_eqC (K := K) (d := dRf i) (e := dRf i) (H := upd H3 t2 (.tup [V.str "refused", .int i])) (.tup (e4 _ _ (e3 _ _ (e2 _ _ (e1 _ _ ht)))) (.cons (.str _) (.cons (.int i) .nil))) (.tup upd_same (.cons (.str _) (.cons (.int i) .nil))) (cm_rf i) (cm_rf i)
    rw [SeqAt.eqv_refl _ (cm_rf i).1] at z
    exact z _ (Ex.refl _) _ fun H5 e5 => q H5 (((e2.trans e3).trans e4).trans e5)⟩
/-- no router of this size -/
def NoR (n : Nat) (G : Hp) (v : V) : Prop := ∃ d, Dq G v d ∧ CmD d ∧ isR (n : Int) d = false
theorem NoR.mono {n : Nat} {G G' : Hp} {v : V} (e : Ex G G') (h : NoR n G v) : NoR n G' v := by
  obtain ⟨d, h1, h2⟩ := h
  exact ⟨d, h1.mono e, h2⟩
theorem cm_int (i : Int) : CmD (.int i) := by
  have h1 : (PyData.int i).canLay0 = true := by simp [PyData.canLay0]
  refine ⟨h1, ?_⟩
  unfold SeqAt.shaped
  rw [Bool.and_eq_true]
  exact ⟨h1, decide_eq_true (by simp [PyData.depth])⟩
theorem nor_int {n : Nat} {G : Hp} {i : Int} (h : ¬ (0 ≤ i ∧ i < (n : Int))) : NoR n G (.int i) := by
  refine ⟨_, .int i, cm_int i, ?_⟩
  unfold isR isI valI
  by_cases c : 0 ≤ i
  · rw [decide_eq_false (show ¬ i ≤ (n : Int) - 1 by omega), Bool.and_false, Bool.and_false]
  · rw [decide_eq_false c, Bool.false_and, Bool.and_false]
end Wk
namespace Wk
open PySem PySem.Spec PyProof.Rows L2 Evl
theorem tsj_of {CT p : Addr} {H H' : Hp} (e : Ex H H') : ∀ {ts : List V} {ess : List (List Row)}, TsT CT H ts ess → (∀ es ∈ ess, EsOk es 24) → RA (TbJ CT p H') ts (ess.map some)
  | _, _, .nil, _ => .nil
  | _, _, .cons h t, k => .cons ⟨_, rfl, h.mono e, k _ List.mem_cons_self⟩ (tsj_of e t fun es hes => k es (List.mem_cons_of_mem _ hes))
end Wk

set_option Elab.async false
set_option linter.all false
set_option maxRecDepth 100000
set_option maxHeartbeats 8000000
namespace Wk
open PySem PySem.Spec PyProof.Rows L2 Evl
theorem q_asgE {te : TE} {D : Ends} {σ : L2.St} {H : Hp} {i : Nat} (h : te σ H fun x H1 => D.nx (σ.set i (some x)) H1) : tAsg te (gName i) D σ H := h
theorem ret_and {sp1 sp2 : Sp} {a1 a2 : TA} {D : Ends} {σ : L2.St} {H : Hp} (h : a1 σ H fun xs H1 => sp1 (xs ++ []) H1 (fun x H2 => ∃ c, x = .bl c ∧ if c = true then (a2 σ H2 fun ys H3 => sp2 (ys ++ []) H3 D.rt E0) else D.rt (.bl false) H2) E0) : tRet (tAndV (tCall sp1 [] E0 a1) (tCall sp2 [] E0 a2)) D σ H := h
theorem sub_ix {te : TE} {σ : L2.St} {H : Hp} {Q : VK} (h : te σ H Q) : te σ H Q := h
theorem iskt_dq {K : PySem.W.Frag} {G : Hp} {v : V} {d : PyData} (hv : Dq G v d) (h : isTu d = false) : IsK K G v "tuple" false := isk_dq hv (by rw [← h]; exact kit_tup d)
section
variable {P : Program} {w : World} {K : PySem.W.Frag} {mg : Str → Option Value} {base : Heap} {f : Addr} {fd : FuncData} {CT CF : Addr}
def spLaw (K : PySem.W.Frag) : Sp := fun vs H Q _ => ∃ (a : Addr) (ns : List Int), vs = [.ref a] ∧ SqL K H a (ns.map V.int) ∧ ns.length ≤ 63 ∧ ∀ H', Q (.bl true) H'
abbrev sLaw : Stmt := top 57
abbrev nLaw : List Str := ["_law_script", "_law_pool_here", "_law_size", "_law_rows_here", "_law_tables", "_law_row", "_law_faults", "_law_k", "_law_router", "_law_kind", "_law_given", "_law_told", "_law_none", "_law_bits_here"]
theorem scLaw : FnScope nLaw ["_law_script"] (defScope sLaw) := ⟨rfl, rfl, rfl, by decide +kernel, rfl, by decide +kernel, by decide +kernel⟩
structure Cs (P : Program) (w : World) (K : PySem.W.Frag) (mg : Str → Option Value) (base : Heap) (CT CF : Addr) : Prop where
  pool : Cal P w K mg base "_law_pool" ["_law_script"] 1 (spPool K)
  draw : Cal P w K mg base "_law_draw" ["_law_pool_here", "_law_many"] 1 spDrw
  rows : Cal P w K mg base "_law_rows" ["_law_pool_here", "_law_size", "_law_most"] 4 spRows
  bt : Cal P w K mg base "_law_bad_table" ["_law_pool_here", "_law_rows_here", "_law_router"] 8 (spBT CT)
  md : Cal P w K mg base "_law_made" ["_law_tables"] 8 (spMd K CF CT)
  nrs : Cal P w K mg base "_law_no_routers" ["_law_field", "_law_start", "_law_thing"] 17 (spNRs CF CT)
  bth : Cal P w K mg base "_law_bad_things" ["_law_pool_here", "_law_field"] 17 (spBTh CF CT)
  mkT : MkT P w K mg base CT
  tab : MskO P w K mg base CF "table" ["self", "router"] 5 (spTab CF CT)
  eq : MqT P w K mg base CT
abbrev Sg (a0 p : Addr) (n : Nat) (R TL FL : Addr) (o7 o8 o9 o10 o11 o12 o13 : Option V) : L2.St := [some (.ref a0), some (.ref p), some (.int (n : Int)), some (.ref R), some (.ref TL), none, some (.ref FL), o7, o8, o9, o10, o11, o12, o13]
theorem ok_law (B : Bl mg) (X : TX K CT) (XT : TK K CT) (XF : FXc K CF) (N : NT K CT) (gT : mg "Table" = some (.ref CT)) (S : Cs P w K mg base CT CF) (F : FnP K "law" sLaw f fd) : FnOk P w K mg base CX0 18 f fd ["_law_script"] (spLaw K) := by
  obtain ⟨fTb, fdT, mkT, FT, bT⟩ := S.mkT.ex
  obtain ⟨fM, fdM, meM, FM, bM⟩ := S.tab.ex
  refine F.ok scLaw (fun vs H Q E h => ?_) (fun cdv A outer s H vs Q E hr h => ?_)
  · obtain ⟨a, ns, rfl, _⟩ := h
    rfl
  · obtain ⟨a0, ns, rfl, hS, hns, k⟩ := h
    have r7 : Room 7 _ := hr.mono (by decide)
    have r5 : Room 5 _ := hr.mono (by decide)
    have r1 : Room 1 _ := hr.mono (by decide)
    have hu : (A.deeper (envOfC "law" (defScope sLaw) s.heap.objs.size f cdv)).units + 64 < cLine := by have := hr.un; omega
    refine ⟨_, pss_cons (ps_set (i := 1) scLaw.nd rfl (Or.inl rfl) (pe_cal S.pool hr (by rfl) (pa_cons (pv 0) pa_nil)))
      (pss_cons (ps_set (i := 2) scLaw.nd rfl (Or.inl rfl) (pe_op op_add pe_int (pe_cal S.draw hr (by rfl) (pa_cons (pv 1) (pa_cons pe_int pa_nil)))))
      (pss_cons (ps_set (i := 3) scLaw.nd rfl (Or.inl rfl) (pe_cal S.rows hr (by rfl) (pa_cons (pv 1) (pa_cons (pv 2) (pa_cons pe_int pa_nil)))))
      (pss_cons (ps_setLc (i := 4) (own := [("_law_row", 5)]) (g := gName 5) (tt := tYes) rfl scLaw.nd rfl rfl (sw_true rfl rfl rfl (by decide +kernel)) (pi_listK (K := K) rfl (pv 3)) (blkOk_by (N := nLaw) (sc := defScope sLaw) (by decide +kernel)) (fun _ _ _ _ _ => pg_name (i := 5) scLaw.nd rfl (Or.inl rfl)) (fun _ _ _ _ _ => pts_nil)
          (fun _ _ _ _ _ => pe_mkAt (CX := CX0) (W := WF) mkT FT r7 (by rfl) S.mkT.g bT (fun _ _ _ _ _ _ _ h => h.elim) (pa_cons (pe_callTy (call_listK2 (K := K) rfl) (by rfl) B.list PyProof.Rows.boot_list (pa_cons (pv 5) pa_nil)) pa_nil)))
      (pss_cons (ps_set (i := 6) scLaw.nd rfl (Or.inl rfl) (pe_lst pa_nil))
      (pss_cut (ps_for (passes_of rfl) rfl (pi_range1 (by rfl) B.range (pa_cons (pe_cal S.draw hr (by rfl) (pa_cons (pv 1) (pa_cons pe_int pa_nil))) pa_nil)) (pg_name (i := 7) scLaw.nd rfl (Or.inl rfl))
          (pss_cons (ps_set (i := 8) scLaw.nd rfl (Or.inl rfl) (pe_cal S.draw hr (by rfl) (pa_cons (pv 1) (pa_cons (pv 2) pa_nil))))
          (pss_cons (ps_asg (pe_cal S.bt hr (by rfl) (pa_cons (pv 1) (pa_cons (pv 3) (pa_cons (pv 8) pa_nil)))) (pg_sub (pv 4) (pv 8) set_list))
          (pss_one (ps_expr (pe_bm PySem.F.plainAttrs_list PySem.F.slot_list_append PySem.F.type_list_append mt_append (pv 6) (pa_cons (pv 8) pa_nil)))))))
      (pss_cons (ps_set (i := 9) scLaw.nd rfl (Or.inl rfl) (pe_cal S.draw hr (by rfl) (pa_cons (pv 1) (pa_cons pe_int pa_nil))))
      (pss_cons (ps_set (i := 10) scLaw.nd rfl (Or.inl rfl) (pe_callTy (call_tupleK (K := K) rfl) (by rfl) B.tuple PyProof.Rows.boot_tuple (pa_cons (pv 4) pa_nil)))
      (pss_cut (ps_if (pt_cmpR op_eq (pv 9) pe_int (nomark _)) (pss_cons (ps_set (i := 10) scLaw.nd rfl (Or.inl rfl) (pe_op op_repT (pv 10) pe_int)) (pss_one (ps_set (i := 10) scLaw.nd rfl (Or.inl rfl) (pe_slice sl_tupA (pv 10) po_none (po_some (pe_op op_add pe_int (pe_cal S.draw hr (by rfl) (pa_cons (pv 1) (pa_cons pe_int pa_nil))))))))) pss_nil)
      (pss_cut (ps_if (pt_cmpR op_eq (pv 9) pe_int (nomark _)) (pss_one (ps_set (i := 10) scLaw.nd rfl (Or.inl rfl) (pe_callTy (call_listK2 (K := K) rfl) (by rfl) B.list PyProof.Rows.boot_list (pa_cons (pv 4) pa_nil)))) pss_nil)
      (pss_cut (ps_if (pt_cmpR op_eq (pv 9) pe_int (nomark _)) (pss_one (ps_set (i := 10) scLaw.nd rfl (Or.inl rfl) (pe_ix (ix_listK (K := K) rfl) (pe_lst (pa_cons (pe_tup pa_nil) (pa_cons pe_non (pa_cons pe_int (pa_cons pe_str (pa_cons pe_dnewK (pa_cons pe_bl (pa_cons (pe_tup pa_nil)
          (pa_cons (pe_mkAt (CX := CX0) (W := WF) mkT FT r7 (by rfl) S.mkT.g bT (fun _ _ _ _ _ _ _ h => h.elim) (pa_cons (pe_lst pa_nil) pa_nil)) pa_nil))))))))) (pe_cal S.draw hr (by rfl) (pa_cons (pv 1) (pa_cons pe_int pa_nil))) (fun _ _ => rfl)))) pss_nil)
      (pss_cons (ps_set (i := 11) scLaw.nd rfl (Or.inl rfl) (pe_cal S.md hr (by rfl) (pa_cons (pv 10) pa_nil)))
      (pss_cons (ps_if (pt_cmpR (op_in_seqK (K := K) rfl) (pv 9) (pe_lst (pa_cons pe_int (pa_cons pe_int (pa_cons pe_int pa_nil)))) rfl) (pss_one (ps_ret (pe_cmpR (op_eqD hu) (pv 11) (pe_tup (pa_cons pe_str (pa_cons (pe_un un_neg pe_int) pa_nil))) (nomark _)))) pss_nil)
      (pss_cons (ps_if (pt_cmpR op_gt (pe_callB call_len_seq (by rfl) B.len PySem.boot_len (pa_cons (pv 6) pa_nil)) pe_int (nomark _)) (pss_one (ps_ret (pe_cmpR (op_eqD hu) (pv 11) (pe_tup (pa_cons pe_str (pa_cons (pe_callB (cr_min rfl) (by rfl) B.min boot_min (pa_cons (pv 6) pa_nil)) pa_nil))) (nomark _)))) pss_nil)
      (pss_cons (ps_if (PW.pt (pw_or (pt_cmpR op_ne (pe_ix ix_tup (pv 11) pe_int (fun _ _ => rfl)) pe_str (nomark _)) (pw_or (pt_val (pe_callB call_isi (by rfl) B.isi boot_isinstance (pa_cons (pe_fld (pe_ix ix_tup (pv 11) pe_int (fun _ _ => rfl)) rfl) (pa_cons (pe_bltn (v := .ty "bool") (by rfl) B.bool PyProof.Rows.boot_bool rfl) pa_nil))))
          (pw_or1 (pt_cmpR op_ne (pe_fld (pe_ix ix_tup (pv 11) pe_int (fun _ _ => rfl)) rfl) (pv 2) (nomark _)))))) (pss_one (ps_ret pe_bl)) pss_nil)
      (pss_cons (ps_for (passes_of rfl) rfl (pi_range1 (by rfl) B.range (pa_cons (pv 2) pa_nil)) (pg_name (i := 8) scLaw.nd rfl (Or.inl rfl))
          (pss_one (ps_if (PW.pt (pw_or (pt_not (pt_val (pe_callB call_isi (by rfl) B.isi boot_isinstance (pa_cons (pe_meth (pe_ix ix_tup (pv 11) pe_int (fun _ _ => rfl)) XF.cl meM FM r5 bM .nil pass0 (pa_cons (pv 8) pa_nil)) (pa_cons (pe_glob (v := .ref CT) (by rfl) gT rfl) pa_nil)))))
            (pw_or1 (pt_not (pt_cmpR (op_eqB (rc_DT S.eq) r1) (pe_meth (pe_ix ix_tup (pv 11) pe_int (fun _ _ => rfl)) XF.cl meM FM r5 bM .nil pass0 (pa_cons (pv 8) pa_nil)) (pe_ix (ix_listK (K := K) rfl) (pv 4) (pv 8) (fun _ _ => rfl)) (nomark _)))))) (pss_one (ps_ret pe_bl)) pss_nil)))
      (pss_cons (ps_set (i := 12) scLaw.nd rfl (Or.inl rfl) (pe_ix (ix_listK (K := K) rfl) (pe_lst (pa_cons (pv 2) (pa_cons (pe_un un_neg pe_int) (pa_cons pe_bl (pa_cons pe_non (pa_cons pe_str (pa_cons (pe_tup (pa_cons pe_int pa_nil)) (pa_cons pe_bl (pa_cons (pe_op op_pow pe_int pe_int) (pa_cons (pe_lst pa_nil) (pa_cons pe_str pa_nil)))))))))))
          (pe_cal S.draw hr (by rfl) (pa_cons (pv 1) (pa_cons pe_int pa_nil))) (fun _ _ => rfl)))
      (pss_cons (ps_set (i := 13) scLaw.nd rfl (Or.inl rfl) (pe_ix (ix_listK (K := K) rfl) (pe_lst (pa_cons pe_str (pa_cons pe_str (pa_cons (pe_lst (pa_cons pe_str pa_nil)) (pa_cons pe_non pa_nil))))) (pe_cal S.draw hr (by rfl) (pa_cons (pv 1) (pa_cons pe_int pa_nil))) (fun _ _ => rfl)))
      (pss_one (ps_ret (pe_and (pe_cal S.nrs hr (by rfl) (pa_cons (pe_ix ix_tup (pv 11) pe_int (fun _ _ => rfl)) (pa_cons (pv 12) (pa_cons (pv 13) pa_nil)))) (pe_one (pe_cal S.bth hr (by rfl) (pa_cons (pv 1) (pa_cons (pe_ix ix_tup (pv 11) pe_int (fun _ _ => rfl)) pa_nil)))))))))))))))))))))))), ?_⟩
    refine ⟨.ref a0, rfl, a0, ns, rfl, hS, hns, fun G H1 p g c eG hP => ?_⟩
    refine g_name ?_
    dsimp only
    change tSeq (tAsg _ _) _ _ [some (.ref a0), some (.ref p), none, none, none, none, none, none, none, none, none, none, none, none] H1
    -- size and rows
    refine q_asgW ?_
    refine ep_drw (p := p) (g := g) (c := c) (G := G) (z := 8) rfl ev_c (by decide) (by decide) H1 hP _ fun H2 v g2 hv => ?_
    obtain ⟨j, rfl, hj0, hj1⟩ := hv
    refine ⟨1, j, rfl, rfl, ?_⟩
    obtain ⟨n, hn⟩ : ∃ n : Nat, 1 + j = (n : Int) := ⟨(1 + j).toNat, by omega⟩
    have hn1 : 1 ≤ n := by omega
    have hn8 : n ≤ 8 := by omega
    change tSeq (tAsg _ _) _ _ [some (.ref a0), some (.ref p), some (.int (1 + j)), none, none, none, none, none, none, none, none, none, none, none] H2
    rw [hn]
    change tSeq (tAsg _ _) _ _ [some (.ref a0), some (.ref p), some (.int (n : Int)), none, none, none, none, none, none, none, none, none, none, none] H2
    refine q_asgW ?_
    refine ⟨.ref p, rfl, .int (n : Int), rfl, G, p, g, c, n, 6, rfl, g2.pl, hn1, hn8, by decide, fun G3 H3 R us g3 hR hul hrows => ?_⟩
    change tSeq (tAsg _ _) _ _ [some (.ref a0), some (.ref p), some (.int (n : Int)), some (.ref R), none, none, none, none, none, none, none, none, none, none] H3
    have hP3 := g3.pl
    clear g3 g2 hP eG
    obtain ⟨ess, hel, heo, her⟩ := rows_ess us hrows
    have hen : ess.length = n := by omega
    have hR3 := hP3.ex _ _ hR
    -- tables
    refine q_asgW ?_
    refine lc_tb (K := K) (CT := CT) (a := R) (us := us) (ess := ess) (ev_var rfl) hR3 hel.symm (by omega) (fun x => rfl) (fun i u es H' e hu0 hes0 Q' kk => ?_) (fun TL H4 ts nT e4 hT hts => ?_)
    · obtain ⟨l, vs, es', i1, rfl, i2, i3⟩ := her i u hu0
      rw [hes0] at i1
      cases i1
      have hl' := e _ _ (hP3.ex _ _ i2)
      refine ⟨.ref l, rfl, l, vs, rfl, .inl (sq_of hl'), fun rl hrl => ?_⟩
      have e5 := Ex.new (o := .lst vs) hrl
      exact mk_tab (.inl upd_same) ((i3.mono (hP3.ex.trans e)).mono e5) ((heo _ (List.mem_of_getElem? hes0)).1.le (by decide)) fun x H5 e6 nx hx => kk x H5 (e5.trans e6) (fresh_back e5 nx) hx
    change tSeq (tAsg _ _) _ _ [some (.ref a0), some (.ref p), some (.int (n : Int)), some (.ref R), some (.ref TL), none, none, none, none, none, none, none, none, none] H4
    refine q_asgL (el_lst (vs := []) ea_nil (by show 0 ≤ 100000; decide)) fun FL H5 nF e5 hF => ?_
    change tCut (tFor _ _ _) _ _ (Sg a0 p n R TL FL none none none none none none none) H5
    have hP5 := hP3.ext (e4.trans e5)
    have hTF : TL ≠ FL := fun z => by rw [← z, hT] at nF; cases nF
    have hls : LSt CT p g c TL FL G3 n ess ts (ess.map some) [] H5 :=
      ⟨hP5, e5 _ _ hT, hF, tsj_of e5 hts fun es hes => (heo es hes).1.le (by decide), RelF.init hen, hP3.np nT, hP3.ng nT, (hP3.ext e4).np nF, (hP3.ext e4).ng nF, hTF, fresh_back hP3.ex nT, fresh_back (hP3.ex.trans e4) nF⟩
    clear hT hF hts nT nF e4 e5
    -- bad ones
    refine q_cut (M := fun σ2 H2 => ∃ o7 o8 ts os fs, σ2 = Sg a0 p n R TL FL o7 o8 none none none none none ∧ LSt CT p g c TL FL G3 n ess ts os fs H2) ?_ ?_
    · refine ep_drw (p := p) (g := g) (c := c) (G := Hd2 H5 p g) (z := 3) rfl ev_c (by decide) (by decide) H5 hP5.hd _ fun H6 v g6 hv => ?_
      obtain ⟨j, rfl, hj0, hj1⟩ := hv
      refine ⟨j, rfl, by omega, by omega, for_it (walk_range (lo := 0) (n := j.toNat)) (fun i σ2 H2 => ∃ o7 o8 ts os fs, σ2 = Sg a0 p n R TL FL o7 o8 none none none none none ∧ LSt CT p g c TL FL G3 n ess ts os fs H2 ∧ fs.length ≤ i) ⟨_, _, _, _, _, rfl, hls.draw g6, Nat.le_refl _⟩ (fun _ _ _ _ _ => trivial) (fun i x σ' H8 H8' hi hp y => ?_) (fun σ' H' hp => ?_)⟩
      · obtain ⟨o7, o8, ts, os, fs, rfl, L, hfl⟩ := hp
        obtain ⟨rfl, rfl⟩ := y
        refine g_name ?_
        change tSeq (tAsg _ _) _ _ (Sg a0 p n R TL FL (some (.int (0 + (i : Int)))) o8 none none none none none) _
        refine q_asgW ?_
        refine ep_drw (p := p) (g := g) (c := c) (G := Hd2 H8' p g) (z := (n : Int)) rfl (ev_var rfl) (by omega) (by omega) H8' L.pl.hd _ fun H9 v g9 hv => ?_
        obtain ⟨j2, rfl, hk0, hk1⟩ := hv
        obtain ⟨r, rfl⟩ : ∃ jn : Nat, j2 = (jn : Int) := ⟨j2.toNat, by omega⟩
        have hrn : r < n := by omega
        have L9 := L.draw g9
        change tSeq (tAsg _ _) _ _ (Sg a0 p n R TL FL (some (.int (0 + (i : Int)))) (some (.int (r : Int))) none none none none none) H9
        refine ⟨.ref p, rfl, .ref R, rfl, .int (r : Int), rfl, Hd2 H9 p g, p, g, c, R, n, r, us, rfl, L9.pl.hd, L9.pl.sub _ _ hR, hul, hn1, hn8, hrn, fun u hu => (hrows u hu).mono L9.pl.sub, fun G' H' v o g' hv ho => ?_⟩
        have L10 := L9.draw g'
        have htl : ts.length = n := by rw [L10.ra.length]; exact L10.rel.lo
        refine ⟨.ref TL, rfl, .int (r : Int), rfl, TL, ts, (r : Int), r, rfl, rfl, L10.ht, ixN_nat (by omega), ?_⟩
        have hf' : (upd H' TL (.lst (ts.set r v))) FL = some (.lst (iV fs)) := by rw [upd_ne (Ne.symm L10.tf)]; exact L10.hf
        refine ⟨.ref FL, rfl, .inl ⟨rfl, _, sq_of hf'⟩, .int (r : Int), rfl, FL, iV fs, .int (r : Int), rfl, rfl, hf', by rw [sizeLine_eq, List.length_map]; omega, ?_⟩
        exact ⟨_, _, _, _, _, rfl, L10.put hrn hv ho, by rw [List.length_append, List.length_singleton]; omega⟩
      · obtain ⟨o7, o8, ts, os, fs, rfl, L, hfl⟩ := hp
        exact ⟨_, _, _, _, _, rfl, L⟩
    clear hls hP5
    rintro σ2 H7 ⟨o7, o8, ts, os, fs, rfl, L7⟩
    -- the kind
    refine q_asgW ?_
    refine ep_drw (p := p) (g := g) (c := c) (G := Hd2 H7 p g) (z := 8) rfl ev_c (by decide) (by decide) H7 L7.pl.hd _ fun H8 v g8 hv => ?_
    obtain ⟨j8, rfl, hk0, hk1⟩ := hv
    obtain ⟨kd, rfl⟩ : ∃ jn : Nat, j8 = (jn : Int) := ⟨j8.toNat, by omega⟩
    have hkd : kd ≤ 7 := by omega
    have L8 := L7.draw g8
    clear L7 g8
    change tSeq (tAsg _ _) _ _ (Sg a0 p n R TL FL o7 o8 (some (.int (kd : Int))) none none none none) H8
    refine q_asgW ?_
    refine ⟨.ref TL, rfl, TL, ts, rfl, .inl ⟨sq_of L8.ht, fun GT hGT => ?_⟩⟩
    have e9 := Ex.new (o := .tup ts) hGT
    have hG9 : (upd H8 GT (.tup ts)) GT = some (.tup ts) := upd_same
    generalize upd H8 GT (.tup ts) = H9 at *
    have L9 := L8.ext e9
    clear L8 e9 hGT
    change tCut (tIfS _ _ _) _ _ (Sg a0 p n R TL FL o7 o8 (some (.int (kd : Int))) (some (.ref GT)) none none none) H9
    have htl : ts.length = n := by rw [L9.ra.length]; exact L9.rel.lo
    have tst : ∀ {m : Nat} {v : Option V} {H1 : Hp}, EvT (tTest (tOp rEq (tVar 9) (tC (.int (m : Int))))) (Sg a0 p n R TL FL o7 o8 (some (.int (kd : Int))) v none none none) H1 (decide (V.int (kd : Int) = V.int (m : Int))) := fun {m v H1} => et_test (ev_op (r := rEq) (ev_var rfl) ev_c (rv_eq rfl))
    have yes : ∀ {m : Nat}, decide (V.int (kd : Int) = V.int (m : Int)) = true → kd = m := fun {m} h => by
      have h := of_decide_eq_true h
      injection h with h
      omega
    have nop : ∀ {m : Nat}, decide (V.int (kd : Int) = V.int (m : Int)) = false → kd ≠ m := fun {m} h z => by
      rw [z] at h
      exact absurd rfl (of_decide_eq_false h)
    -- many
    refine q_cut (M := fun σ2 H2 => ∃ v, σ2 = Sg a0 p n R TL FL o7 o8 (some (.int (kd : Int))) (some v) none none none ∧ LSt CT p g c TL FL G3 n ess ts os fs H2 ∧ ((kd ≠ 1 ∧ v = .ref GT ∧ H2 GT = some (.tup ts)) ∨ (kd = 1 ∧ TbF K CT H2 v (some (-1))))) ?_ ?_
    · refine s_when (b := decide (V.int (kd : Int) = V.int ((1 : Nat) : Int))) (tst (m := 1)) (fun hb H10 e10 => ?_) fun hb H10 e10 => ⟨_, rfl, L9.ext e10, .inl ⟨nop hb, rfl, e10 _ _ hG9⟩⟩
      have hk := yes hb
      have hne : ts ≠ [] := fun z => by rw [z] at htl; simp at htl; omega
      refine q_asgW ?_
      refine ⟨.ref GT, rfl, GT, 12, ts, rfl, rfl, st_of (e10 _ _ hG9), hne, by decide, by decide, by omega, fun G2 hG2 => ?_⟩
      have hln : ((List.replicate (12 : Int).toNat ts).flatten).length = 12 * n := by
        rw [List.length_flatten, List.map_replicate, List.sum_replicate_nat, htl]
        rfl
      generalize (List.replicate (12 : Int).toNat ts).flatten = xs at *
      have e11 := Ex.new (o := .tup xs) hG2
      have hG21 : (upd H10 G2 (.tup xs)) G2 = some (.tup xs) := upd_same
      generalize upd H10 G2 (.tup xs) = H11 at *
      have L11 := (L9.ext e10).ext e11
      refine q_asgE ?_
      refine ⟨.ref G2, rfl, ep_drw (p := p) (g := g) (c := c) (G := Hd2 H11 p g) (z := 4) rfl ev_c (by decide) (by decide) H11 L11.pl.hd _ fun H12 v g12 hv => ?_⟩
      obtain ⟨j, rfl, hj0, hj1⟩ := hv
      have L12 := L11.draw g12
      have hG22 := g12.hx _ _ (L11.pl.tupH hG21)
      obtain ⟨jn, hjn⟩ : ∃ jn : Nat, 9 + j = (jn : Int) := ⟨(9 + j).toNat, by omega⟩
      refine ⟨9, j, rfl, rfl, 9 + j, rfl, G2, xs, rfl, st_of hG22, fun hw => ?_, fun hw p2 hp2 => ?_⟩
      · exact ⟨_, rfl, L12, .inr ⟨hk, .inr (.inl ⟨G2, xs, rfl, hG22, by omega, by omega, rfl⟩)⟩⟩
      · have hc : cutV xs none (some (9 + j)) = xs.take jn := by
          rw [hjn]
          exact cut_to _ _ (by omega)
        have hcl : (cutV xs none (some (9 + j))).length = jn := by rw [hc, List.length_take]; omega
        exact ⟨_, rfl, L12.ext (Ex.new hp2), .inr ⟨hk, .inr (.inl ⟨p2, _, rfl, upd_same, by omega, by omega, rfl⟩)⟩⟩
    clear hG9 L9
    rintro σ2 H10 ⟨v10, rfl, L10, hv10⟩
    -- a list
    refine q_cut (M := fun σ2 H2 => ∃ v, σ2 = Sg a0 p n R TL FL o7 o8 (some (.int (kd : Int))) (some v) none none none ∧ LSt CT p g c TL FL G3 n ess ts os fs H2 ∧ ((kd ≠ 1 ∧ kd ≠ 2 ∧ v = .ref GT ∧ H2 GT = some (.tup ts)) ∨ ((kd = 1 ∨ kd = 2) ∧ TbF K CT H2 v (some (-1))))) ?_ ?_
    · refine s_when (b := decide (V.int (kd : Int) = V.int ((2 : Nat) : Int))) (tst (m := 2)) (fun hb H11 e11 => ?_) fun hb H11 e11 => ⟨_, rfl, L10.ext e11, ?_⟩
      · refine q_asgE ?_
        refine ⟨.ref TL, rfl, TL, ts, rfl, .inl (sq_of (e11 _ _ L10.ht)), fun q hq => ?_⟩
        exact ⟨_, rfl, (L10.ext e11).ext (Ex.new hq), .inr ⟨.inr (yes hb), .inr (.inr ⟨isk_lst upd_same (show kitB "list" "tuple" = some false by decide +kernel), rfl⟩)⟩⟩
      · rcases hv10 with ⟨h1, h2, h3⟩ | ⟨h1, h2⟩
        · exact .inl ⟨h1, nop hb, h2, e11 _ _ h3⟩
        · exact .inr ⟨.inl h1, h2.mono e11⟩
    clear hv10 L10
    clear v10
    rintro σ2 H11 ⟨v11, rfl, L11, hv11⟩
    -- something else
    refine q_cut (M := fun σ2 H2 => ∃ v, σ2 = Sg a0 p n R TL FL o7 o8 (some (.int (kd : Int))) (some v) none none none ∧ LSt CT p g c TL FL G3 n ess ts os fs H2 ∧ ((¬ (kd = 1 ∨ kd = 2 ∨ kd = 3) ∧ v = .ref GT ∧ H2 GT = some (.tup ts)) ∨ ((kd = 1 ∨ kd = 2 ∨ kd = 3) ∧ TbF K CT H2 v (some (-1))))) ?_ ?_
    · refine s_when (b := decide (V.int (kd : Int) = V.int ((3 : Nat) : Int))) (tst (m := 3)) (fun hb H12 e12 => ?_) fun hb H12 e12 => ⟨_, rfl, L11.ext e12, ?_⟩
      · refine q_asgE ?_
        refine t_ix ?_
        have L12 := L11.ext e12
        refine el_ya (n := 8) (Y := fun H' v => ∀ G', Ag H12 H' G' → TbF K CT G' v (some (-1))) ?A1 (by decide) fun il H13 e13 hil hit DL hDL => ?_
        case A1 =>
          have hm : ∀ (H1 H2' : Hp) (v : V), Ex H1 H2' → (∀ G', Ag H12 H1 G' → TbF K CT G' v (some (-1))) → ∀ G', Ag H12 H2' G' → TbF K CT G' v (some (-1)) := fun H1 H2' v e h G' a => h G' (a.mono e)
          have emp : ∀ {σ : L2.St}, EvYo (tTup tNil) σ H12 (fun H' v => ∀ G', Ag H12 H' G' → TbF K CT G' v (some (-1))) := fun {σ} H5 e5 Q5 q5 => ⟨by show 0 ≤ sizeLine; decide, fun a ha => q5 _ _ (Ex.new ha) fun G' ag => .inr (.inl ⟨a, [], rfl, ag _ _ (fresh_back e5 ha) upd_same, by simp, by simp, rfl⟩)⟩
          refine eya_cons hm emp (eya_cons hm (eyo_ev ev_c fun _ _ _ _ => .inr (.inr ⟨iskt_dq (d := .none) .non rfl, rfl⟩)) (eya_cons hm (eyo_ev ev_c fun _ _ _ _ => .inr (.inr ⟨iskt_dq (d := .int 3) (.int 3) rfl, rfl⟩)) (eya_cons hm (eyo_ev ev_c fun _ _ _ _ => .inr (.inr ⟨iskt_dq (d := .str "") (.str "") rfl, rfl⟩))
            (eya_cons hm (fun H5 e5 Q5 q5 => ?_) (eya_cons hm (eyo_ev ev_c fun _ _ _ _ => .inr (.inr ⟨iskt_dq (d := .bool true) (.bl true) rfl, rfl⟩)) (eya_cons hm emp (eya_cons hm (fun H5 e5 Q5 q5 => ?_) eya_nil)))))))
          · exact fun a ha => q5 _ _ (Ex.new ha) fun G' ag => .inr (.inr ⟨isk_dK (ag _ _ (fresh_back e5 ha) upd_same) (show kitB "dict" "tuple" = some false by decide +kernel), rfl⟩)
          · refine ⟨by show 0 ≤ sizeLine; decide, fun a ha => ?_⟩
            refine mk_tab (us := []) (es := []) (.inl upd_same) .nil (EsOk.nil 24) fun y H6 e6 ny hT => ?_
            obtain ⟨dy, gs, te', nd, us', es', j1, _⟩ := hT
            exact q5 _ _ ((Ex.new ha).trans e6) fun G' ag => .inr (.inr ⟨isk_ins X (ag _ _ (fresh_back (e5.trans (Ex.new ha)) ny) j1) XT.kt, rfl⟩)
        have e14 := Ex.new (o := .lst il) hDL
        have hDL4 : (upd H13 DL (.lst il)) DL = some (.lst il) := upd_same
        have hit4 : ∀ v ∈ il, ∀ G', Ag H12 (upd H13 DL (.lst il)) G' → TbF K CT G' v (some (-1)) := fun v hv G' a => hit v hv G' (a.mono e14)
        have nDL := fresh_back e13 hDL
        have L14 := L12.ext (e13.trans e14)
        generalize upd H13 DL (.lst il) = H14 at *
        refine ep_drw (p := p) (g := g) (c := c) (G := Hd2 H14 p g) (z := 8) rfl ev_c (by decide) (by decide) H14 L14.pl.hd _ fun H15 v g15 hv => ?_
        obtain ⟨j, rfl, hj0, hj1⟩ := hv
        obtain ⟨jn, rfl⟩ : ∃ jn : Nat, j = (jn : Int) := ⟨j.toNat, by omega⟩
        have hjl : jn < il.length := by omega
        refine ⟨DL, il, (jn : Int), il[jn], rfl, rfl, sq_of (g15.hx _ _ (by rw [hd2_at (L12.pl.np nDL) (L12.pl.ng nDL)]; exact hDL4)), atI_nat (List.getElem?_eq_getElem hjl), ?_⟩
        exact ⟨_, rfl, L14.draw g15, .inr ⟨.inr (.inr (yes hb)), (hit4 _ (List.getElem_mem hjl) _ (Ag.hd L12.pl)).mono g15.hx⟩⟩
      · have h3 := nop hb
        rcases hv11 with ⟨i1, i2, i3, i4⟩ | ⟨i1, i2⟩
        · exact .inl ⟨(fun z => z.elim i1 fun y => y.elim i2 h3), i3, e12 _ _ i4⟩
        · exact .inr ⟨i1.elim .inl fun z => .inr (.inl z), i2.mono e12⟩
    clear hv11 L11 tst yes nop
    clear v11
    rintro σ2 H12 ⟨v12, rfl, L12, hv12⟩
    -- what is told
    have inl : ∀ {o11 : Option V} {H1 : Hp}, EvT (tTest (tOp (rIn K false) (tVar 9) (tLst (tCons (tC (.int 1)) (tCons (tC (.int 2)) (tCons (tC (.int 3)) tNil)))))) (Sg a0 p n R TL FL o7 o8 (some (.int (kd : Int))) (some v12) o11 none none) H1 (decide (kd = 1 ∨ kd = 2 ∨ kd = 3)) := fun {o11 H1} H2 e2 Q2 q2 => by
      refine ⟨.int (kd : Int), rfl, by show 3 ≤ sizeLine; decide, fun l hl => ⟨l, _, rfl, .inl (sq_of upd_same), rfl, rfl, _, rfl, ?_⟩⟩
      have h : inV (.int (kd : Int)) [.int 1, .int 2, .int 3] = decide (kd = 1 ∨ kd = 2 ∨ kd = 3) := (by decide +kernel : ∀ q : Fin 8, inV (.int (q.val : Int)) [.int 1, .int 2, .int 3] = decide (q.val = 1 ∨ q.val = 2 ∨ q.val = 3)) ⟨kd, by omega⟩
      show Q2 (inV (.int (kd : Int)) [.int 1, .int 2, .int 3]) _
      rw [h]
      exact q2 _ (Ex.new hl)
    refine q_asgW ?_
    rcases hv12 with ⟨hk3, rfl, hG12⟩ | ⟨hk3, hTb⟩
    rotate_left
    · refine ⟨v12, rfl, v12, some (-1), rfl, hTb, fun i hi H13 t e13 ht => ?_, fun z => by cases z⟩
      cases hi
      change tSeq (tIfS _ _ _) _ _ (Sg a0 p n R TL FL o7 o8 (some (.int (kd : Int))) (some v12) (some (.ref t)) none none) H13
      refine q_when inl (fun _ H14 e14 => ?_) (fun hb _ _ => absurd hk3 (of_decide_eq_false hb))
      exact s_ret (v := .bl true) (ev_rf (K := K) (ev_var rfl) (e14 _ _ ht) (ev_un ev_c ru_neg)) fun H15 _ => k H15
    have hww : ∀ es ∈ ess, ∀ e ∈ es, WayN n e.2 := fun es hes => (heo es hes).2
    have hdue := L12.rel.due hn8 hww
    have lenF : ∀ {o11 : Option V} {H1 : Hp}, Ex H12 H1 → EvT (tTest (tOp (rI0 fun i j => .bl (decide (j < i))) (tCB (rLenS K) (tCons (tVar 6) tNil)) (tC (.int 0)))) (Sg a0 p n R TL FL o7 o8 (some (.int (kd : Int))) (some (.ref GT)) o11 none none) H1 (decide ((0 : Int) < ((iV fs).length : Int))) := fun {o11 H1} e => et_test (ev_op (ev_len (K := K) (ev_var rfl) (sq_of (e _ _ L12.hf))) ev_c rv_I0)
    have hfl : (iV fs).length = fs.length := by rw [List.length_map]
    refine ⟨.ref GT, rfl, .ref GT, (fT ts.length 0 os).map fun i => (i : Int), rfl, .inl ⟨GT, ts, os, rfl, hG12, L12.ra.imp fun _ _ z => z.toI N, by omega, by omega, rfl⟩, fun i hi H13 t e13 ht => ?_, fun hno t ts2 ess2 H13 rt x hGt e13 hts0 hts2 hfok hrt hFl => ?_⟩
    · rw [htl, hdue] at hi
      have hne : fs ≠ [] := fun z => by rw [if_pos z] at hi; cases hi
      rw [if_neg hne] at hi
      cases hi
      change tSeq (tIfS _ _ _) _ _ (Sg a0 p n R TL FL o7 o8 (some (.int (kd : Int))) (some (.ref GT)) (some (.ref t)) none none) H13
      refine q_when inl (fun hb _ _ => absurd (of_decide_eq_true hb) hk3) fun _ H14 e14 => ?_
      have hpos := List.length_pos_iff.mpr hne
      refine q_when (lenF (e13.trans e14)) (fun _ H15 e15 => ?_) (fun hb _ _ => absurd (show (0 : Int) < ((iV fs).length : Int) by omega) (of_decide_eq_false hb))
      exact s_ret (v := .bl true) (ev_rf (K := K) (ev_var rfl) (e15 _ _ (e14 _ _ ht)) (ev_least (K := K) (ev_var rfl) (((e13.trans e14).trans e15) _ _ L12.hf) hne)) fun H16 _ => k H16
    have hfs : fs = [] := by
      rw [htl, hdue] at hno
      by_cases z : fs = []
      · exact z
      · rw [if_neg z] at hno; cases hno
    change tSeq (tIfS _ _ _) _ _ (Sg a0 p n R TL FL o7 o8 (some (.int (kd : Int))) (some (.ref GT)) (some (.ref rt)) none none) H13
    refine q_when inl (fun hb _ _ => absurd (of_decide_eq_true hb) hk3) fun _ H14 e14 => ?_
    refine q_when (lenF (e13.trans e14)) (fun hb _ _ => absurd (of_decide_eq_true hb) (by rw [hfl, hfs]; decide)) fun _ H15 e15 => ?_
    have L15 := ((L12.ext e13).ext e14).ext e15
    have e1315 := e14.trans e15
    have hrt := e1315 _ _ hrt
    have hFl := hFl.mono e1315
    have hts2 := hts2.mono e1315
    have hts0 := e1315 _ _ hts0
    have hG15 := ((e13.trans e14).trans e15) _ _ hG12
    clear lenF inl hno
    have hGt' : t = GT := by injection hGt.symm
    subst hGt'
    have htt : ts2 = ts := by
      rw [hts0] at hG15
      injection hG15 with hG15
      injection hG15
    subst htt
    have hra : RA (TbJ CT p H15) ts2 (ess.map some) := by
      have := L15.rel.at_
      have hos : os = ess.map some := by
        apply List.ext_getElem?
        intro i
        by_cases c : i < n
        · rcases this i c with ⟨z, _⟩ | ⟨_, z⟩
          · rw [hfs] at z; cases z
          · rw [z, List.getElem?_map]
        · rw [List.getElem?_eq_none (by rw [L15.rel.lo]; omega), List.getElem?_eq_none (by rw [List.length_map]; omega)]
      rw [← hos]
      exact L15.ra
    have hmd := made_ok hts2 hra
    have hel2 : ess2.length = n := by rw [← hts2.length]; exact htl
    have hE2 : EssOk ess2 24 := by
      refine ⟨by omega, by omega, fun es hes => ?_, hfok.2.2⟩
      obtain ⟨r, hr⟩ := List.getElem?_of_mem hes
      obtain ⟨y, es0, sr, _, _, _, hok, s1, s2⟩ := hmd r es hr
      exact hok.perm (srR_perm s1 s2)
    have ix : ∀ {m : Nat} {v : V} {o8 o12 o13 : Option V} {H1 : Hp}, [V.str "made", .ref x][m]? = some v → Ex H15 H1 → Ev (tOp (rIxT K) (tVar 11) (tC (.int (m : Int)))) (Sg a0 p n R TL FL o7 o8 (some (.int (kd : Int))) (some (.ref t)) (some (.ref rt)) o12 o13) H1 v := fun {m v o8 o12 o13 H1} hv e => ev_op (ev_var rfl) ev_c (rv_ixT (st_of (e _ _ hrt)) (atI_nat hv))
    obtain ⟨dx, fs1, t1, ts1, f1, f2, f3, f4, f5, f6⟩ := id hFl
    have szE : ∀ {H1 : Hp}, Ex H15 H1 → Ev (tFld K (tOp (rIxT K) (tVar 11) (tC (.int 1))) "size") (Sg a0 p n R TL FL o7 o8 (some (.int (kd : Int))) (some (.ref t)) (some (.ref rt)) none none) H1 (.int (ess2.length : Int)) := fun {H1} e H2 e2 Q2 q2 => (ix (m := 1) rfl e) H2 e2 _ fun H3 e3 => ⟨x, CF, dx, fs1, _, rfl, ((e.trans e2).trans e3) _ _ f1, XF.cl, XF.nS, f2, q2 H3 e3⟩
    have d1 : Ev (tOp rNe (tOp (rIxT K) (tVar 11) (tC (.int 0))) (tC (.str "made"))) (Sg a0 p n R TL FL o7 o8 (some (.int (kd : Int))) (some (.ref t)) (some (.ref rt)) none none) H15 (.bl (!decide (V.str "made" = V.str "made"))) := ev_op (ix (m := 0) rfl (Ex.refl _)) ev_c (rv_ne rfl)
    have d2 : Ev (tOp rNe (tFld K (tOp (rIxT K) (tVar 11) (tC (.int 1))) "size") (tVar 2)) (Sg a0 p n R TL FL o7 o8 (some (.int (kd : Int))) (some (.ref t)) (some (.ref rt)) none none) H15 (.bl (!decide (V.int (ess2.length : Int) = V.int (n : Int)))) := ev_op (szE (Ex.refl _)) (ev_var rfl) (rv_ne rfl)
    refine q_when (b := (!decide (V.str "made" = V.str "made")) || (false || !decide (V.int (ess2.length : Int) = V.int (n : Int)))) (et_or (et_test d1) fun _ => et_or (et_B (ev_isk (K := K) (szE (Ex.refl _)) (isk_dq (.int _) (show kitB "int" "bool" = some false by decide +kernel)))) fun _ => et_test d2) (fun hb _ _ => ?_) fun _ H16 e16 => ?_
    · rw [decide_eq_true rfl, hel2, decide_eq_true rfl] at hb
      cases hb
    -- the tables again
    refine q_forR1 (n := (n : Int)) (ea_cons (ev_var rfl) ea_nil) (by omega) (fun i σ' H' => ∃ o8, σ' = Sg a0 p n R TL FL o7 o8 (some (.int (kd : Int))) (some (.ref t)) (some (.ref rt)) none none ∧ Ex H15 H') (fun H1 e1 => ⟨_, rfl, e16.trans e1⟩) (fun i σ' H' hi hp => ?_) (fun σ' H' hp => ?_)
    · obtain ⟨o8', rfl, e17⟩ := hp
      change tIfS _ _ _ _ (Sg a0 p n R TL FL o7 (some (.int (i : Int))) (some (.int (kd : Int))) (some (.ref t)) (some (.ref rt)) none none) H'
      have hin : i < ess2.length := by omega
      have hes : ess2[i]? = some ess2[i] := List.getElem?_eq_getElem hin
      obtain ⟨y, es0, sr, hy, hy0, hTb, hok0, s1, s2⟩ := hmd i _ hes
      have mt : ∀ H1, Ex H' H1 → ∀ Q : VK, (∀ q H2, Ex H1 H2 → Tb CT H2 q ess2[i] → Q (.ref q) H2) → tMeth CF "table" (spTab CF CT) [] E0 (tOp (rIxT K) (tVar 11) (tC (.int 1))) (tCons (tVar 8) tNil) (Sg a0 p n R TL FL o7 (some (.int (i : Int))) (some (.int (kd : Int))) (some (.ref t)) (some (.ref rt)) none none) H1 Q := fun H1 e1 Q1 q1 => (ix (m := 1) rfl (e17.trans e1)) H1 (Ex.refl _) _ fun H2 e2 => by
        have eA := (e17.trans e1).trans e2
        exact ⟨x, dx, fs1, rfl, eA _ _ f1, f4, .int (i : Int), rfl, x, i, ess2, _, rfl, hFl.mono eA, hes, fun H3 q e3 hq => q1 q H3 (e2.trans e3) hq⟩
      have c1 : Ev (tCB (rIsi K) (tCons (tMeth CF "table" (spTab CF CT) [] E0 (tOp (rIxT K) (tVar 11) (tC (.int 1))) (tCons (tVar 8) tNil)) (tCons (tC (.ref CT)) tNil))) (Sg a0 p n R TL FL o7 (some (.int (i : Int))) (some (.int (kd : Int))) (some (.ref t)) (some (.ref rt)) none none) H' (.bl true) := fun H1 e1 Q1 q1 => mt H1 e1 _ fun q H2 e2 hq => by
        obtain ⟨dy, gs, te', nd, us', es', j1, _⟩ := id hq
        obtain ⟨tv, h1, h2⟩ := isc_ins X N.self j1 H2 (Ex.refl _)
        exact ⟨.ref q, .ref CT, tv, .ref CT, true, rfl, .own CT, h1, h2, q1 H2 e2⟩
      have c2 : Ev (tOp (rEqB (DT CT)) (tMeth CF "table" (spTab CF CT) [] E0 (tOp (rIxT K) (tVar 11) (tC (.int 1))) (tCons (tVar 8) tNil)) (tOp (rIxL K) (tVar 4) (tVar 8))) (Sg a0 p n R TL FL o7 (some (.int (i : Int))) (some (.int (kd : Int))) (some (.ref t)) (some (.ref rt)) none none) H' (.bl true) := fun H1 e1 Q1 q1 => mt H1 e1 _ fun q H2 e2 hq => by
        have eA := (e17.trans e1).trans e2
        exact ⟨.ref TL, rfl, .int (i : Int), rfl, TL, ts2, (i : Int), .ref y, rfl, rfl, sq_of (eA _ _ L15.ht), atI_nat hy, true, dt_true hq (hTb.mono eA) (hE2.ok _ (List.mem_of_getElem? hes)) hok0 s1 s2, fun H3 e3 => q1 H3 (e2.trans e3)⟩
      exact s_when (b := !true || !true) (et_or (et_not (et_B c1)) fun _ => et_not (et_test c2)) (fun z => by cases z) fun _ H17 e18 => ⟨_, rfl, e17.trans e18⟩
    obtain ⟨o8', rfl, e17⟩ := hp
    have hP17 := L15.pl.ext e17
    have hF17 := hFl.mono e17
    have hbB : ∀ es ∈ ess2, ∀ e ∈ es, IsB e.1 := fun es hes e he => ((hE2.ok es hes).it e he).1
    -- no router
    refine q_asgW ?_
    refine t_ix ?_
    refine el_ya (n := 10) (Y := fun H1 v => ∀ G', Ag H' H1 G' → NoR n G' v) ?A3 (by decide) fun il H18 e18 hil hit DL hDL => ?_
    case A3 =>
      have hm : ∀ (H1 H2' : Hp) (v : V), Ex H1 H2' → (∀ G', Ag H' H1 G' → NoR n G' v) → ∀ G', Ag H' H2' G' → NoR n G' v := fun H1 H2' v e h G' a => h G' (a.mono e)
      refine eya_cons hm (eyo_ev (ev_var (i := 2) rfl) fun _ _ _ _ => nor_int (by omega)) (eya_cons hm (eyo_ev (v := .int (-1)) (ev_un ev_c ru_neg) fun _ _ _ _ => nor_int (by omega)) (eya_cons hm (eyo_ev ev_c fun _ _ _ _ => ⟨.bool true, .bl true, by unfold CmD; decide +kernel, rfl⟩) (eya_cons hm (eyo_ev ev_c fun _ _ _ _ => ⟨.none, .non, by unfold CmD; decide +kernel, rfl⟩)
        (eya_cons hm (eyo_ev ev_c fun _ _ _ _ => ⟨.str "0", .str _, by unfold CmD; decide +kernel, rfl⟩) (eya_cons hm (fun H5 e5 Q5 q5 => ?_) (eya_cons hm (eyo_ev ev_c fun _ _ _ _ => ⟨.bool false, .bl false, by unfold CmD; decide +kernel, rfl⟩) (eya_cons hm (fun H5 e5 Q5 q5 => ?_) (eya_cons hm (fun H5 e5 Q5 q5 => ?_)
        (eya_cons hm (eyo_ev ev_c fun _ _ _ _ => ⟨.str "here", .str _, by unfold CmD; decide +kernel, rfl⟩) eya_nil)))))))))
      · exact ⟨by show 1 ≤ sizeLine; decide, fun a ha => q5 _ _ (Ex.new ha) fun G' ag => ⟨.tuple [.int 0], .tup (ag _ _ (fresh_back e5 ha) upd_same) (.cons (.int 0) .nil), by unfold CmD; decide +kernel, rfl⟩⟩
      · refine ⟨10, 29, rfl, rfl, by unfold CPow; decide, q5 _ _ (Ex.refl _) fun G' ag => nor_int ?_⟩
        have : (10 : Int) ^ (29 : Int).toNat = 100000000000000000000000000000 := by decide +kernel
        rw [this]
        omega
      · exact ⟨by show 0 ≤ sizeLine; decide, fun a ha => q5 _ _ (Ex.new ha) fun G' ag => ⟨.list [], .lst (ag _ _ (fresh_back e5 ha) upd_same) .nil, by unfold CmD; decide +kernel, rfl⟩⟩
    have e19 := Ex.new (o := .lst il) hDL
    have hDL9 : (upd H18 DL (.lst il)) DL = some (.lst il) := upd_same
    have hit9 : ∀ v ∈ il, ∀ G', Ag H' (upd H18 DL (.lst il)) G' → NoR n G' v := fun v hv G' a => hit v hv G' (a.mono e19)
    have nDL := fresh_back e18 hDL
    have e179 := e18.trans e19
    generalize upd H18 DL (.lst il) = H19 at *
    have hP19 := hP17.ext e179
    refine ep_drw (p := p) (g := g) (c := c) (G := Hd2 H19 p g) (z := 10) rfl ev_c (by decide) (by decide) H19 hP19.hd _ fun H20 v g20 hv => ?_
    obtain ⟨j, rfl, hj0, hj1⟩ := hv
    obtain ⟨jn, rfl⟩ : ∃ jn : Nat, j = (jn : Int) := ⟨j.toNat, by omega⟩
    have hjl : jn < il.length := by omega
    refine ⟨DL, il, (jn : Int), il[jn], rfl, rfl, sq_of (g20.hx _ _ (by rw [hd2_at (hP17.np nDL) (hP17.ng nDL)]; exact hDL9)), atI_nat (List.getElem?_eq_getElem hjl), ?_⟩
    have hnoA := hit9 _ (List.getElem_mem hjl)
    generalize il[jn] = vn at *
    have hP20 := g20.base hP19
    have hF20 := ((hF17.mono e179).hd hP19 hbB).mono g20.hx
    have hrt20 := g20.hx _ _ (hP19.tupH ((e17.trans e179) _ _ hrt))
    change tSeq (tAsg _ _) _ _ (Sg a0 p n R TL FL o7 o8' (some (.int (kd : Int))) (some (.ref t)) (some (.ref rt)) (some vn) none) H20
    -- a thing
    refine q_asgW ?_
    refine t_ix ?_
    refine el_ya (n := 4) (Y := fun _ _ => True) ?A4 (by decide) fun il2 H21 e21 hil2 _ DL2 hDL2 => ?_
    case A4 =>
      have hm : ∀ (H1 H2' : Hp) (v : V), Ex H1 H2' → True → True := fun _ _ _ _ h => h
      exact eya_cons hm (eyo_ev ev_c fun _ _ => trivial) (eya_cons hm (eyo_ev ev_c fun _ _ => trivial) (eya_cons hm (fun H5 e5 Q5 q5 => ⟨by show 1 ≤ sizeLine; decide, fun a ha => q5 _ _ (Ex.new ha) trivial⟩) (eya_cons hm (eyo_ev ev_c fun _ _ => trivial) eya_nil)))
    have e22 := Ex.new (o := .lst il2) hDL2
    have hDL22 : (upd H21 DL2 (.lst il2)) DL2 = some (.lst il2) := upd_same
    have nDL2 := fresh_back e21 hDL2
    have e202 := e21.trans e22
    generalize upd H21 DL2 (.lst il2) = H22 at *
    have hP22 := hP20.ext e202
    refine ep_drw (p := p) (g := g) (c := c) (G := Hd2 H22 p g) (z := 4) rfl ev_c (by decide) (by decide) H22 hP22.hd _ fun H23 v g23 hv => ?_
    obtain ⟨j, rfl, hj0, hj1⟩ := hv
    obtain ⟨jn, rfl⟩ : ∃ jn : Nat, j = (jn : Int) := ⟨j.toNat, by omega⟩
    have hjl : jn < il2.length := by omega
    refine ⟨DL2, il2, (jn : Int), il2[jn], rfl, rfl, sq_of (g23.hx _ _ (by rw [hd2_at (hP20.np nDL2) (hP20.ng nDL2)]; exact hDL22)), atI_nat (List.getElem?_eq_getElem hjl), ?_⟩
    generalize il2[jn] = vb at *
    have hno : NoR n (Hd2 H22 p g) vn := hnoA _ fun a o h0 h1 => by
      rw [hd2_at (hP17.np h0) (hP17.ng h0)]
      exact e202 _ _ (g20.hx _ _ (Ag.hd hP17 a o h0 h1))
    obtain ⟨d, hd, hcm, hRd⟩ := hno.mono g23.hx
    rw [← hel2] at hRd
    have hP23 := g23.base hP22
    have hF23 := ((hF20.mono e202).hd hP22 hbB).mono g23.hx
    have hrt23 := g23.hx _ _ (hP22.tupH (e202 _ _ hrt20))
    change tRet _ _ (Sg a0 p n R TL FL o7 o8' (some (.int (kd : Int))) (some (.ref t)) (some (.ref rt)) (some vn) (some vb)) H23
    have fx : ∀ {H1 : Hp}, Ex H23 H1 → Ev (tOp (rIxT K) (tVar 11) (tC (.int 1))) (Sg a0 p n R TL FL o7 o8' (some (.int (kd : Int))) (some (.ref t)) (some (.ref rt)) (some vn) (some vb)) H1 (.ref x) := fun {H1} e => ev_op (ev_var rfl) ev_c (rv_ixT (st_of (e _ _ hrt23)) (atI_nat (j := 1) rfl))
    have A1 : EvA (tCons (tOp (rIxT K) (tVar 11) (tC (.int 1))) (tCons (tVar 12) (tCons (tVar 13) tNil))) (Sg a0 p n R TL FL o7 o8' (some (.int (kd : Int))) (some (.ref t)) (some (.ref rt)) (some vn) (some vb)) H23 [.ref x, vn, vb] := ea_cons (fx (Ex.refl _)) (ea_cons (ev_var rfl) (ea_cons (ev_var rfl) ea_nil))
    refine ret_and (A1 H23 (Ex.refl _) _ fun H24 e24 => ⟨x, vn, vb, d, ess2, rfl, hF23.mono e24, hd.mono e24, hcm, hRd, fun H25 e25 => ⟨true, rfl, ?_⟩⟩)
    rw [if_pos rfl]
    have e235 := e24.trans e25
    have A2 : EvA (tCons (tVar 1) (tCons (tOp (rIxT K) (tVar 11) (tC (.int 1))) tNil)) (Sg a0 p n R TL FL o7 o8' (some (.int (kd : Int))) (some (.ref t)) (some (.ref rt)) (some vn) (some vb)) H25 [.ref p, .ref x] := ea_cons (ev_var rfl) (ea_cons (fx e235) ea_nil)
    exact A2 H25 (Ex.refl _) _ fun H26 e26 => ⟨G3, p, g, c, x, 24, ess2, hE2, rfl, hP23.ext (e235.trans e26), hF23.mono (e235.trans e26), fun H27 => k H27⟩
end
end Wk

set_option Elab.async false
set_option linter.all false
set_option maxRecDepth 100000
set_option maxHeartbeats 4000000
namespace Wk
open PySem PySem.Spec PyProof.Rows L2 Evl
/-! the head's facts with more of them -/
abbrev AlX : Type := He.AlD × Bool
def obsX (n : Nat) (fa : List He.Fa) (fn : List He.DefD) (eb : PySem.W.Frag → Bool) (g : Addr → Option Obj) : AlX := (He.obsDG n fa fn g, eb (He.frG g (He.asD g n)))
def hookX (n : Nat) (fa : List He.Fa) (fn : List He.DefD) (eb : PySem.W.Frag → Bool) : PySem.W.Hook where
  α := AlX
  obs := fun s => obsX n fa fn eb s.heap.get?
  val := fun _ => (He.valD fn, true)
  says := fun _ h => ∃ K : PySem.W.Frag, K.In h ∧ He.SaysD fa fn K ∧ eb K = true
  of := fun _ _ e => ⟨_, He.frG_in, congrArg Prod.fst e, congrArg Prod.snd e⟩
  keeps := fun _ _ _ ⟨K, hK, c⟩ k => ⟨K, PySem.W.Frag.In.keeps hK k, c⟩
theorem obsX_eq {n : Nat} {fa : List He.Fa} {fn : List He.DefD} {eb : PySem.W.Frag → Bool} {g : Addr → Option Obj} {s : Shared} (h : ∀ a, g a = s.heap.get? a) : obsX n fa fn eb g = (hookX n fa fn eb).obs s := by
  have e : g = s.heap.get? := funext h
  rw [e]
  rfl
theorem calOf {P : Program} {w : World} {K : PySem.W.Frag} {mg : Str → Option Value} {base : Heap} {x q : Str} {params : Arguments} {body : List Stmt} {scope : Scope} {f : Addr} {fd : FuncData} {ps : List Str} {k : Nat} {sp : Sp} (F : FunD K x q params body scope [] [] f fd) (o : FnOk P w K mg base CX0 k f fd ps sp) (g : mg x = some (.ref f)) (b : Binds K fd ps []) : Cal P w K mg base x ps k sp := ⟨⟨f, fd, o, g, F.kp, b⟩⟩
def dG (x : Str) (i : Nat) : He.DefD := ⟨(x, none), x, x, defArgs (top i), defBody (top i), defScope (top i), [], []⟩
def dM (c m q : Str) (i j : Nat) : He.DefD := ⟨(c, some m), m, q, defArgs (inClass (top i) j), defBody (inClass (top i) j), defScope (inClass (top i) j), [], []⟩
end Wk

set_option Elab.async false
set_option linter.all false
set_option maxRecDepth 100000
set_option maxHeartbeats 2000000
namespace Wk
open PySem PySem.Spec PyProof.Rows L2 Evl
/-! the errors' own __init__ -/
section
variable {P : Program} {w : World} {K : PySem.W.Frag} {mg : Str → Option Value} {base : Heap} {f : Addr} {fd : FuncData}
abbrev sXN : Stmt := inClass (top 2) 0
abbrev sXF : Stmt := inClass (top 6) 0
theorem scXN : FnScope ["self", "router"] ["self", "router"] (defScope sXN) := ⟨rfl, rfl, rfl, by decide +kernel, rfl, by decide +kernel, by decide +kernel⟩
theorem scXF : FnScope ["self", "router"] ["self", "router"] (defScope sXF) := ⟨rfl, rfl, rfl, by decide +kernel, rfl, by decide +kernel, by decide +kernel⟩
theorem ok_xn {C : Addr} (T : OexC K C) (no : PySem.W.findIn K (.ref C) "router" = some none) (F : FunD K "__init__" "NoRouter.__init__" (defArgs sXN) (defBody sXN) (defScope sXN) [] [] f fd) : FnOk P w K mg base CX0 1 f fd ["self", "router"] (spXF C "router") := by
  refine F.ok scXN (fun vs H Q E h => ?_) (fun cdv A outer s H vs Q E hr h => ?_)
  · obtain ⟨a, y, rfl, _⟩ := h
    rfl
  · obtain ⟨a, y, rfl, ha, k⟩ := h
    exact ⟨_, pss_one (ps_ost (pv 0) (pv 1)), y, rfl, .ref a, rfl, a, C, rfl, T, no, .inl ⟨ha, k⟩⟩
theorem ok_xf {C : Addr} (T : OexC K C) (no : PySem.W.findIn K (.ref C) "router" = some none) (F : FunD K "__init__" "BadField.__init__" (defArgs sXF) (defBody sXF) (defScope sXF) [] [] f fd) : FnOk P w K mg base CX0 1 f fd ["self", "router"] (spXF C "router") := by
  refine F.ok scXF (fun vs H Q E h => ?_) (fun cdv A outer s H vs Q E hr h => ?_)
  · obtain ⟨a, y, rfl, _⟩ := h
    rfl
  · obtain ⟨a, y, rfl, ha, k⟩ := h
    exact ⟨_, pss_one (ps_ost (pv 0) (pv 1)), y, rfl, .ref a, rfl, a, C, rfl, T, no, .inl ⟨ha, k⟩⟩
end
/-! more facts: a thing of an own class, errors -/
def errB (K : PySem.W.Frag) (C : Addr) : Bool := PySem.W.excIn K C [.type "ValueError", .type "Exception", .type "BaseException", .type "object"] "ValueError.__new__" && (PySem.W.keepIn K (.ref C) && (decide (PySem.W.subIn K (.ref C) (.type "BaseException") = some true) && decide (PySem.W.typeIn K (.ref C) = some (.type "type"))))
theorem errB_ok {K : PySem.W.Frag} {mg : Str → Option Value} {x : Str} {C : Addr} (h : errB K C = true) (g : mg x = some (.ref C)) : ErrN K mg x C := by
  obtain ⟨h1, h⟩ := He.ba h
  obtain ⟨h2, h⟩ := He.ba h
  obtain ⟨h3, h4⟩ := He.ba h
  exact ⟨g, h1, h2, of_decide_eq_true h3, of_decide_eq_true h4⟩
def excB (K : PySem.W.Frag) (C : Addr) : Bool := He.eqO (PySem.W.findIn K (.ref C) "__getattribute__") (some (some (.builtin "BaseException.__getattribute__"))) && (He.eqO (PySem.W.findIn K (.ref C) "__getattr__") (some none) && (decide (PySem.W.subIn K (.ref C) (.type "BaseException") = some true) && (PySem.W.hasDictIn K C &&
  (He.eqO (PySem.W.findIn K (.ref C) "__class__") (some (some (.builtin "object.__class__"))) && (He.eqO (PySem.W.specialIn K (.builtin "object.__class__") "__get__") (some (some (.builtin "getset_descriptor.__get__"))) && (decide (PySem.W.takesIn K (.builtin "object.__class__") = some true) && decide (PySem.W.mroIn K C (.type "object") = some true)))))))
theorem excB_ok {K : PySem.W.Frag} {C : Addr} (h : excB K C = true) : ExcC K C := by
  obtain ⟨h1, h⟩ := He.ba h
  obtain ⟨h2, h⟩ := He.ba h
  obtain ⟨h3, h⟩ := He.ba h
  obtain ⟨h4, h⟩ := He.ba h
  obtain ⟨h5, h⟩ := He.ba h
  obtain ⟨h6, h⟩ := He.ba h
  obtain ⟨h7, h8⟩ := He.ba h
  exact ⟨He.eqO_ok h1, He.eqO_ok h2, of_decide_eq_true h3, h4, He.eqO_ok h5, He.eqO_ok h6, of_decide_eq_true h7, of_decide_eq_true h8⟩
def insB (K : PySem.W.Frag) (C : Addr) : Bool := He.eqO (PySem.W.findIn K (.ref C) "__class__") (some (some (.builtin "object.__class__"))) && (He.eqO (PySem.W.specialIn K (.builtin "object.__class__") "__get__") (some (some (.builtin "getset_descriptor.__get__"))) && (decide (PySem.W.takesIn K (.builtin "object.__class__") = some true) &&
  (decide (PySem.W.mroIn K C (.type "object") = some true) && (decide (PySem.W.kitOne K (.ref C) (.ref C) = some true) && decide (PySem.W.kitOne K (.ref C) (.type "str") = some false)))))
theorem insB_ok {K : PySem.W.Frag} {C : Addr} (h : insB K C = true) (cl : Cls K C) (nE : NoAttr K C "entries") (nN : NoAttr K C "_nexts") : TX K C := by
  obtain ⟨h1, h⟩ := He.ba h
  obtain ⟨h2, h⟩ := He.ba h
  obtain ⟨h3, h⟩ := He.ba h
  obtain ⟨h4, h⟩ := He.ba h
  obtain ⟨h5, h6⟩ := He.ba h
  exact ⟨⟨cl, He.eqO_ok h1, He.eqO_ok h2, of_decide_eq_true h3, of_decide_eq_true h4, of_decide_eq_true h5⟩, nE, nN, of_decide_eq_true h6⟩
def tkB (K : PySem.W.Frag) (C : Addr) : Bool := decide (PySem.W.kitOne K (.ref C) (.type "list") = some false) && decide (PySem.W.kitOne K (.ref C) (.type "tuple") = some false)
theorem tkB_ok {K : PySem.W.Frag} {C : Addr} (h : tkB K C = true) : TK K C := by
  obtain ⟨h1, h2⟩ := He.ba h
  exact ⟨of_decide_eq_true h1, of_decide_eq_true h2⟩
def ntB (K : PySem.W.Frag) (C : Addr) : Bool := decide (PySem.W.kitOne K (.ref C) (.ref C) = some true) && (decide (PySem.W.kitOne K (.type "NoneType") (.ref C) = some false) && (decide (PySem.W.kitOne K (.type "int") (.ref C) = some false) && (decide (PySem.W.kitOne K (.type "str") (.ref C) = some false) &&
  (decide (PySem.W.kitOne K (.type "bool") (.ref C) = some false) && (decide (PySem.W.kitOne K (.type "tuple") (.ref C) = some false) && decide (PySem.W.kitOne K (.type "dict") (.ref C) = some false))))))
theorem ntB_ok {K : PySem.W.Frag} {C : Addr} (h : ntB K C = true) : NT K C := by
  obtain ⟨h1, h⟩ := He.ba h
  obtain ⟨h2, h⟩ := He.ba h
  obtain ⟨h3, h⟩ := He.ba h
  obtain ⟨h4, h⟩ := He.ba h
  obtain ⟨h5, h⟩ := He.ba h
  obtain ⟨h6, h7⟩ := He.ba h
  exact ⟨of_decide_eq_true h1, of_decide_eq_true h2, of_decide_eq_true h3, of_decide_eq_true h4, of_decide_eq_true h5, of_decide_eq_true h6, of_decide_eq_true h7⟩
def ek4B (K : PySem.W.Frag) (C CN CA CB CW : Addr) (n a b w : Bool) : Bool := excB K C && (decide (PySem.W.kitOne K (.ref C) (.type "ValueError") = some true) && (decide (PySem.W.kitOne K (.ref C) (.ref CN) = some n) && (decide (PySem.W.kitOne K (.ref C) (.ref CA) = some a) && (decide (PySem.W.kitOne K (.ref C) (.ref CB) = some b) && decide (PySem.W.kitOne K (.ref C) (.ref CW) = some w)))))
theorem ek4B_ok {K : PySem.W.Frag} {C CWi CN CA CB CW : Addr} {n a b w : Bool} (h : ek4B K C CN CA CB CW n a b w = true) (x : PySem.W.exmOne K (.ref C) (.ref CWi) = some true) : EK4 K C CWi CN CA CB CW n a b w := by
  obtain ⟨h1, h⟩ := He.ba h
  obtain ⟨h2, h⟩ := He.ba h
  obtain ⟨h3, h⟩ := He.ba h
  obtain ⟨h4, h⟩ := He.ba h
  obtain ⟨h5, h6⟩ := He.ba h
  exact ⟨excB_ok h1, x, of_decide_eq_true h2, of_decide_eq_true h3, of_decide_eq_true h4, of_decide_eq_true h5, of_decide_eq_true h6⟩
def ekfB (K : PySem.W.Frag) (C CWi CN : Addr) : Bool := excB K C && (decide (PySem.W.kitOne K (.ref C) (.ref CWi) = some true) && decide (PySem.W.kitOne K (.ref C) (.ref CN) = some false))
theorem ekfB_ok {K : PySem.W.Frag} {C CWi CN : Addr} (h : ekfB K C CWi CN = true) : EKf K C CWi CN := by
  obtain ⟨h1, h⟩ := He.ba h
  obtain ⟨h2, h3⟩ := He.ba h
  exact ⟨excB_ok h1, of_decide_eq_true h2, of_decide_eq_true h3⟩
def exB (K : PySem.W.Frag) (C : Addr) : Bool := (match K.lookup C with
  | some o => (match o.cls, o.data, o.slots.toList with
    | .type t, .cls cd, [_, _, _, _, some (.builtin n), _] => decide (t = "type") && (decide (n = "ValueError.__new__") && (cd.hasDict && (!cd.hasDel && (match cd.mro with
      | .ref c :: bm => decide (c = C) && PySem.HandSPX.refsVE bm
      | _ => false))))
    | _, _, _ => false)
  | none => false) && (He.eqO (PySem.W.findIn K (.ref C) "__setattr__") (some (some (.builtin "object.__setattr__"))) && (decide (PySem.W.subIn K (.ref C) (.type "BaseException") = some true) && (decide (PySem.W.typeIn K (.ref C) = some (.type "type")) && (PySem.W.keepIn K (.ref C) && xfB K C))))
theorem exB_ok {K : PySem.W.Frag} {C : Addr} (h : exB K C = true) : OexC K C ∧ XfC K C := by
  unfold exB at h
  obtain ⟨h1, h⟩ := He.ba h
  obtain ⟨h2, h⟩ := He.ba h
  obtain ⟨h3, h⟩ := He.ba h
  obtain ⟨h4, h⟩ := He.ba h
  obtain ⟨h5, h6⟩ := He.ba h
  refine ⟨⟨?_, He.eqO_ok h2, of_decide_eq_true h3, of_decide_eq_true h4, h5⟩, xfB_ok h6⟩
  cases hl : K.lookup C with
  | none =>
    rw [hl] at h1
    cases h1
  | some o =>
    rw [hl] at h1
    obtain ⟨oc, od, dt, ⟨sl⟩⟩ := o
    dsimp only at h1
    split at h1
    · rename_i t cd k0 k1 k2 k3 n k5
      obtain ⟨z1, h1⟩ := He.ba h1
      obtain ⟨z2, h1⟩ := He.ba h1
      obtain ⟨z3, h1⟩ := He.ba h1
      obtain ⟨z4, h1⟩ := He.ba h1
      split at h1
      · rename_i c bm hm
        obtain ⟨z5, z6⟩ := He.ba h1
        obtain ⟨x1, x2, x3, x4, x5, x6, x7, x8, x9, x10, x11⟩ := cd
        dsimp only at z3 z4 hm
        have y1 := of_decide_eq_true z1
        have y2 := of_decide_eq_true z2
        have y5 := of_decide_eq_true z5
        have y4 : x11 = false := by simpa using z4
        subst y1 y2 y5 y4 z3 hm
        exact ⟨x1, x5, x4, x2, bm, x7, x8, x9, x10, od, k0, k1, k2, k3, k5, rfl, z6⟩
      · cases h1
    · cases h1
/-! a def with defaults -/
def dD (x : Str) (i : Nat) (ds : List He.Dv) : He.DefD := ⟨(x, none), x, x, defArgs (top i), defBody (top i), defScope (top i), ds, []⟩
theorem mg_full {K : PySem.W.Frag} {f : Addr} {fd : FuncData} (F : FnMg K f fd) : Binds K fd ["worths", "ahead"] [] := by
  obtain ⟨ds, v, b⟩ := FunD.binds1 (ps := ["worths", "ahead"]) F 2 1 (by simp) rfl fun T kV doc pm an cdv ct us its hl hi => match us, hl, its, hi with | [_, _], _, [_], _ => ⟨_, rfl, rfl⟩
  cases v
  exact b
theorem mg_one {K : PySem.W.Frag} {f : Addr} {fd : FuncData} (F : FnMg K f fd) : ∃ ds, Vals [V.str ""] ds ∧ Binds K fd ["worths", "ahead"] ds :=
  FunD.binds1 (ps := ["worths", "ahead"]) F 1 0 (by simp) rfl fun T kV doc pm an cdv ct us its hl hi => match us, hl, its, hi with | [_], _, [_], _ => ⟨_, rfl, rfl⟩
end Wk

set_option Elab.async false
set_option linter.all false
set_option maxRecDepth 100000
set_option maxHeartbeats 0
namespace Wk
open PySem PySem.Spec PyProof.Rows L2 Evl
def fn : List He.DefD := ([dG "is_integer" 10, dG "is_between" 11, dG "is_row" 12, dG "is_tuple_of" 13, dG "is_router" 14, dG "refuse_no_router" 15, dG "is_range" 18, dG "is_address" 19, dG "addresses" 20, dG "beginnings" 21, dG "covered" 22, dD "merged" 23 [.str ""], dG "fewest_ranges" 24, dG "refuse_wrong_entries" 30, dG "is_entry" 31, dG "is_end" 32, dG "refuse_no_ranges" 33, dG "refuse_wrong_tables" 37, dG "is_onto" 38, dG "fate" 39, dG "least_first" 40, dG "all_fates" 41, dG "fates" 42, dG "least_address" 43, dG "holes" 44, dG "_law_pool" 46, dG "_law_draw" 47, dG "_law_bits" 48, dG "_law_entries" 49, dG "_law_rows" 50] : List He.DefD) ++ ([dG "_law_bad_table" 51, dG "_law_made" 52, dG "_law_call" 53, dG "_law_error" 54, dG "_law_no_routers" 55, dG "_law_bad_things" 56, dG "law" 57, dM "Table" "__init__" "Table.__init__" 29 0, dM "Table" "__eq__" "Table.__eq__" 29 1, dM "Table" "onward" "Table.onward" 29 2, dM "Field" "__init__" "Field.__init__" 36 0, dM "Field" "table" "Field.table" 36 1, dM "NoRouter" "__init__" "NoRouter.__init__" 2 0, dM "BadField" "__init__" "BadField.__init__" 6 0] : List He.DefD)
def fa : List He.Fa := ([.glo "is_integer", .glo "is_between", .glo "is_row", .glo "is_tuple_of", .glo "is_router", .glo "refuse_no_router", .glo "is_range", .glo "is_address", .glo "addresses", .glo "beginnings", .glo "covered", .glo "merged", .glo "fewest_ranges", .glo "refuse_wrong_entries", .glo "is_entry", .glo "is_end", .glo "refuse_no_ranges", .glo "refuse_wrong_tables", .glo "is_onto", .glo "fate", .glo "least_first", .glo "all_fates", .glo "fates", .glo "least_address", .glo "holes", .glo "_law_pool", .glo "_law_draw", .glo "_law_bits", .glo "_law_entries", .glo "_law_rows"] : List He.Fa) ++ ([.glo "_law_bad_table", .glo "_law_made", .glo "_law_call", .glo "_law_error", .glo "_law_no_routers", .glo "_law_bad_things", .glo "law", .free "isinstance", .free "len", .free "tuple", .free "list", .free "int", .free "bool", .free "str", .free "all", .free "set", .free "enumerate", .free "range", .free "abs", .free "min", .free "repr", .free "sorted", .free "ValueError", .free "any", .free "zip", .int "MOST_ROUTERS" 8, .int "ADDRESS_LENGTH" 10, .int "MOST_ENTRIES" 24, .glo "Table", .cls "Table"] : List He.Fa) ++ ([.mkr "Table", .meth "Table" "onward", .meth "Table" "__eq__", .noat "Table" "entries", .noat "Table" "_nexts", .glo "Field", .cls "Field", .mkr "Field", .meth "Field" "table", .noat "Field" "size", .noat "Field" "_tables", .str "HERE" "here", .str "DROP" "drop", .str "ROUND" "round", .glo "WishError", .glo "NoRouter", .glo "BadField", .glo "BadAddress", .glo "BadRanges", .glo "BadWord", .exm "NoRouter" "NoRouter" true, .exm "BadField" "BadField" true, .exm "NoRouter" "WishError" true, .exm "BadAddress" "WishError" true, .exm "BadRanges" "WishError" true, .exm "BadWord" "WishError" true, .noat "NoRouter" "router", .noat "BadField" "router", .meth "NoRouter" "__init__", .meth "BadField" "__init__"] : List He.Fa)
def eb (K : PySem.W.Frag) : Bool := decide ((He.ga K "Field") ≠ (He.ga K "Table")) && (insB K (He.ga K "Table") && (tkB K (He.ga K "Table") && (ntB K (He.ga K "Table") && (exB K (He.ga K "NoRouter") && (exB K (He.ga K "BadField") && (errB K (He.ga K "BadAddress") && (errB K (He.ga K "BadRanges") && (errB K (He.ga K "BadWord") && (ek4B K (He.ga K "NoRouter") (He.ga K "NoRouter") (He.ga K "BadAddress") (He.ga K "BadRanges") (He.ga K "BadWord") true false false false && (ek4B K (He.ga K "BadAddress") (He.ga K "NoRouter") (He.ga K "BadAddress") (He.ga K "BadRanges") (He.ga K "BadWord") false true false false && (ek4B K (He.ga K "BadRanges") (He.ga K "NoRouter") (He.ga K "BadAddress") (He.ga K "BadRanges") (He.ga K "BadWord") false false true false && (ek4B K (He.ga K "BadWord") (He.ga K "NoRouter") (He.ga K "BadAddress") (He.ga K "BadRanges") (He.ga K "BadWord") false false false true && (ekfB K (He.ga K "BadField") (He.ga K "WishError") (He.ga K "NoRouter"))))))))))))))
abbrev R : PySem.W.OpenRow := PySem.W.OpenLaw.row PySem.Challenge.rw_wishreels_k88_fields_kept_and_refused
abbrev hk : PySem.W.Hook := hookX 4 fa fn eb
def ob (s : PySem.W.SharedT) : AlX := obsX 4 fa fn eb (HandSHeadRun.getT s)
theorem ob_eq (s : PySem.W.SharedT) : ob s = hk.obs s.abs := obsX_eq (HandSHeadRun.getT_eq s)
def loose0 : List Str := ["__name__", "WishError", "NoRouter", "BadTable", "BadAddress", "BadRanges", "BadField", "BadWord", "MOST_ROUTERS", "is_integer", "is_between", "is_row", "is_tuple_of", "is_router", "refuse_no_router", "ADDRESS_LENGTH", "is_range", "is_address", "addresses", "beginnings", "covered", "merged", "fewest_ranges", "MOST_ENTRIES", "HERE", "DROP", "Table", "refuse_wrong_entries", "is_entry", "is_end"]
def loose1 : List Str := ["refuse_no_ranges", "ROUND", "Field", "refuse_wrong_tables", "is_onto", "fate", "least_first", "all_fates", "fates", "least_address", "holes", "_law_pool", "_law_draw", "_law_bits", "_law_entries", "_law_rows", "_law_bad_table", "_law_made", "_law_call", "_law_error", "_law_no_routers", "_law_bad_things"]
def loose : List Str := loose0 ++ loose1
theorem run (w : World) : HandSHeadRun.RunEq R (PySem.W.view R.prog [57]) hk ob 9000 loose w := by
  intro os
  kernel_rfl
end Wk

set_option Elab.async false
set_option linter.all false
set_option maxRecDepth 100000
set_option maxHeartbeats 4000000
namespace Wk
open PySem PySem.Spec PyProof.Rows L2 Evl
theorem facts {P : Program} {w : World} {K : PySem.W.Frag} {h : Heap} {mg : Str → Option Value} {f : Addr} (X : K.In h) (G : h.Ns mainGlobals mg) (hfa : mg ("law" : Str) = some (.ref f)) (c : He.SaysD fa fn K) (cx : eb K = true) :
    ∃ fd : FuncData, (∀ (t : Shared) (u : Value), BindsTo t fd ⟨[u], []⟩ [("_law_script", u)]) ∧ ∀ base : Heap, K.In base → base.Ns mainGlobals mg → FnOk P w K mg base CX0 18 f fd ["_law_script"] (spLaw K) := by
  obtain ⟨d0, F0⟩ := c.def_ 0 (d := dG "is_integer" 10) rfl
  obtain ⟨d1, F1⟩ := c.def_ 1 (d := dG "is_between" 11) rfl
  obtain ⟨d2, F2⟩ := c.def_ 2 (d := dG "is_row" 12) rfl
  obtain ⟨d3, F3⟩ := c.def_ 3 (d := dG "is_tuple_of" 13) rfl
  obtain ⟨d4, F4⟩ := c.def_ 4 (d := dG "is_router" 14) rfl
  obtain ⟨d5, F5⟩ := c.def_ 5 (d := dG "refuse_no_router" 15) rfl
  obtain ⟨d6, F6⟩ := c.def_ 6 (d := dG "is_range" 18) rfl
  obtain ⟨d7, F7⟩ := c.def_ 7 (d := dG "is_address" 19) rfl
  obtain ⟨d8, F8⟩ := c.def_ 8 (d := dG "addresses" 20) rfl
  obtain ⟨d9, F9⟩ := c.def_ 9 (d := dG "beginnings" 21) rfl
  obtain ⟨d10, F10⟩ := c.def_ 10 (d := dG "covered" 22) rfl
  obtain ⟨d11, F11⟩ := c.def_ 11 (d := dD "merged" 23 [.str ""]) rfl
  obtain ⟨d12, F12⟩ := c.def_ 12 (d := dG "fewest_ranges" 24) rfl
  obtain ⟨d13, F13⟩ := c.def_ 13 (d := dG "refuse_wrong_entries" 30) rfl
  obtain ⟨d14, F14⟩ := c.def_ 14 (d := dG "is_entry" 31) rfl
  obtain ⟨d15, F15⟩ := c.def_ 15 (d := dG "is_end" 32) rfl
  obtain ⟨d16, F16⟩ := c.def_ 16 (d := dG "refuse_no_ranges" 33) rfl
  obtain ⟨d17, F17⟩ := c.def_ 17 (d := dG "refuse_wrong_tables" 37) rfl
  obtain ⟨d18, F18⟩ := c.def_ 18 (d := dG "is_onto" 38) rfl
  obtain ⟨d19, F19⟩ := c.def_ 19 (d := dG "fate" 39) rfl
  obtain ⟨d20, F20⟩ := c.def_ 20 (d := dG "least_first" 40) rfl
  obtain ⟨d21, F21⟩ := c.def_ 21 (d := dG "all_fates" 41) rfl
  obtain ⟨d22, F22⟩ := c.def_ 22 (d := dG "fates" 42) rfl
  obtain ⟨d23, F23⟩ := c.def_ 23 (d := dG "least_address" 43) rfl
  obtain ⟨d24, F24⟩ := c.def_ 24 (d := dG "holes" 44) rfl
  obtain ⟨d25, F25⟩ := c.def_ 25 (d := dG "_law_pool" 46) rfl
  obtain ⟨d26, F26⟩ := c.def_ 26 (d := dG "_law_draw" 47) rfl
  obtain ⟨d27, F27⟩ := c.def_ 27 (d := dG "_law_bits" 48) rfl
  obtain ⟨d28, F28⟩ := c.def_ 28 (d := dG "_law_entries" 49) rfl
  obtain ⟨d29, F29⟩ := c.def_ 29 (d := dG "_law_rows" 50) rfl
  obtain ⟨d30, F30⟩ := c.def_ 30 (d := dG "_law_bad_table" 51) rfl
  obtain ⟨d31, F31⟩ := c.def_ 31 (d := dG "_law_made" 52) rfl
  obtain ⟨d32, F32⟩ := c.def_ 32 (d := dG "_law_call" 53) rfl
  obtain ⟨d33, F33⟩ := c.def_ 33 (d := dG "_law_error" 54) rfl
  obtain ⟨d34, F34⟩ := c.def_ 34 (d := dG "_law_no_routers" 55) rfl
  obtain ⟨d35, F35⟩ := c.def_ 35 (d := dG "_law_bad_things" 56) rfl
  obtain ⟨d36, F36⟩ := c.def_ 36 (d := dG "law" 57) rfl
  obtain ⟨d37, F37⟩ := c.def_ 37 (d := dM "Table" "__init__" "Table.__init__" 29 0) rfl
  obtain ⟨d38, F38⟩ := c.def_ 38 (d := dM "Table" "__eq__" "Table.__eq__" 29 1) rfl
  obtain ⟨d39, F39⟩ := c.def_ 39 (d := dM "Table" "onward" "Table.onward" 29 2) rfl
  obtain ⟨d40, F40⟩ := c.def_ 40 (d := dM "Field" "__init__" "Field.__init__" 36 0) rfl
  obtain ⟨d41, F41⟩ := c.def_ 41 (d := dM "Field" "table" "Field.table" 36 1) rfl
  obtain ⟨d42, F42⟩ := c.def_ 42 (d := dM "NoRouter" "__init__" "NoRouter.__init__" 2 0) rfl
  obtain ⟨d43, F43⟩ := c.def_ 43 (d := dM "BadField" "__init__" "BadField.__init__" 6 0) rfl
  have e := hfa.symm.trans (He.glo_ok X G (c.fact 36 (f := .glo "law") rfl))
  cases e
  have bL := FunD.bindsA (ps := ["_law_script"]) F36 fun _ _ _ _ _ _ us hl => match us, hl with | [_], _ => rfl
  have B : Bl mg := ⟨He.free_ok X G (c.fact 37 rfl), He.free_ok X G (c.fact 38 rfl), He.free_ok X G (c.fact 39 rfl), He.free_ok X G (c.fact 40 rfl), He.free_ok X G (c.fact 41 rfl), He.free_ok X G (c.fact 42 rfl), He.free_ok X G (c.fact 43 rfl), He.free_ok X G (c.fact 44 rfl), He.free_ok X G (c.fact 45 rfl), He.free_ok X G (c.fact 46 rfl), He.free_ok X G (c.fact 47 rfl), He.free_ok X G (c.fact 48 rfl), He.free_ok X G (c.fact 49 rfl), He.free_ok X G (c.fact 50 rfl)⟩
  have hso : mg "sorted" = none := He.free_ok X G (c.fact 51 (f := .free "sorted") rfl)
  have hVE : mg "ValueError" = none := He.free_ok X G (c.fact 52 (f := .free "ValueError") rfl)
  have hany : mg "any" = none := He.free_ok X G (c.fact 53 (f := .free "any") rfl)
  have hzip : mg "zip" = none := He.free_ok X G (c.fact 54 (f := .free "zip") rfl)
  obtain ⟨t8, m8⟩ := He.int_ok X G (c.fact 55 (f := .int "MOST_ROUTERS" 8) rfl)
  obtain ⟨tA, mA⟩ := He.int_ok X G (c.fact 56 (f := .int "ADDRESS_LENGTH" 10) rfl)
  obtain ⟨tE, mE⟩ := He.int_ok X G (c.fact 57 (f := .int "MOST_ENTRIES" 24) rfl)
  obtain ⟨tH, mH⟩ := He.str_ok X G (c.fact 71 (f := .str "HERE" "here") rfl)
  obtain ⟨tD, mD⟩ := He.str_ok X G (c.fact 72 (f := .str "DROP" "drop") rfl)
  obtain ⟨tR, mR⟩ := He.str_ok X G (c.fact 73 (f := .str "ROUND" "round") rfl)
  obtain ⟨x0, y0⟩ := He.ba cx
  obtain ⟨x1, y1⟩ := He.ba y0
  obtain ⟨x2, y2⟩ := He.ba y1
  obtain ⟨x3, y3⟩ := He.ba y2
  obtain ⟨x4, y4⟩ := He.ba y3
  obtain ⟨x5, y5⟩ := He.ba y4
  obtain ⟨x6, y6⟩ := He.ba y5
  obtain ⟨x7, y7⟩ := He.ba y6
  obtain ⟨x8, y8⟩ := He.ba y7
  obtain ⟨x9, y9⟩ := He.ba y8
  obtain ⟨x10, y10⟩ := He.ba y9
  obtain ⟨x11, y11⟩ := He.ba y10
  obtain ⟨x12, x13⟩ := He.ba y11
  have hne := of_decide_eq_true x0
  have TXx : TX K (He.ga K "Table") := insB_ok x1 (He.cls_ok (c.fact 59 (f := .cls "Table") rfl)) (He.noat_ok (c.fact 63 (f := .noat "Table" "entries") rfl)) (He.noat_ok (c.fact 64 (f := .noat "Table" "_nexts") rfl))
  have FXx : FXc K (He.ga K "Field") := ⟨He.cls_ok (c.fact 66 (f := .cls "Field") rfl), (He.noat_ok (c.fact 69 (f := .noat "Field" "size") rfl)), (He.noat_ok (c.fact 70 (f := .noat "Field" "_tables") rfl))⟩
  have TKx := tkB_ok x2
  have NTx := ntB_ok x3
  obtain ⟨oN, fN⟩ := exB_ok x4
  obtain ⟨oF, fF⟩ := exB_ok x5
  have TA := errB_ok (x := "BadAddress") x6 (He.glo_ok X G (c.fact 77 (f := .glo "BadAddress") rfl))
  have TR := errB_ok (x := "BadRanges") x7 (He.glo_ok X G (c.fact 78 (f := .glo "BadRanges") rfl))
  have TW := errB_ok (x := "BadWord") x8 (He.glo_ok X G (c.fact 79 (f := .glo "BadWord") rfl))
  have EN := ek4B_ok x9 (He.exm_ok (c.fact 82 (f := .exm "NoRouter" "WishError" true) rfl))
  have EA := ek4B_ok x10 (He.exm_ok (c.fact 83 (f := .exm "BadAddress" "WishError" true) rfl))
  have ER := ek4B_ok x11 (He.exm_ok (c.fact 84 (f := .exm "BadRanges" "WishError" true) rfl))
  have EW := ek4B_ok x12 (He.exm_ok (c.fact 85 (f := .exm "BadWord" "WishError" true) rfl))
  have EF := ekfB_ok x13
  have nN : PySem.W.findIn K (.ref (He.ga K "NoRouter")) "router" = some none := (He.noat_ok (c.fact 86 (f := .noat "NoRouter" "router") rfl))
  have iN := He.meth_ok (c.fact 88 (f := .meth "NoRouter" "__init__") rfl)
  have nF : PySem.W.findIn K (.ref (He.ga K "BadField")) "router" = some none := (He.noat_ok (c.fact 87 (f := .noat "BadField" "router") rfl))
  have iF := He.meth_ok (c.fact 89 (f := .meth "BadField" "__init__") rfl)
  refine ⟨d36, fun t u => bL t [u] rfl, fun base _ _ => ?_⟩
  have XN : ErrF P w K mg base "NoRouter" (He.ga K "NoRouter") "router" := ⟨(He.glo_ok X G (c.fact 75 (f := .glo "NoRouter") rfl)), oN, fN, nN, He.exm_ok (c.fact 80 (f := .exm "NoRouter" "NoRouter" true) rfl), ⟨_, d42, iN.at_, beq_iff_eq.mp iN.fn, ok_xn oN nN F42, F42.bindsN fun _ _ _ _ _ _ us hl => match us, hl with | [_, _], _ => rfl⟩⟩
  have XF : ErrF P w K mg base "BadField" (He.ga K "BadField") "router" := ⟨(He.glo_ok X G (c.fact 76 (f := .glo "BadField") rfl)), oF, fF, nF, He.exm_ok (c.fact 81 (f := .exm "BadField" "BadField" true) rfl), ⟨_, d43, iF.at_, beq_iff_eq.mp iF.fn, ok_xf oF nF F43, F43.bindsN fun _ _ _ _ _ _ us hl => match us, hl with | [_, _], _ => rfl⟩⟩
  have C0 : Cal P w K mg base "is_integer" ["thing"] 1 spIsInt := calOf F0 (ok_isInt B F0) (He.glo_ok X G (c.fact 0 rfl)) (F0.bindsN fun _ _ _ _ _ _ us hl => match us, hl with | [_], _ => rfl)
  have C1 : Cal P w K mg base "is_between" ["least", "most", "thing"] 2 spBetween := calOf F1 (ok_between B C0 F1) (He.glo_ok X G (c.fact 1 rfl)) (F1.bindsN fun _ _ _ _ _ _ us hl => match us, hl with | [_, _, _], _ => rfl)
  have C2 : Cal P w K mg base "is_router" ["size", "thing"] 3 spRouter := calOf F4 (ok_router C1 F4) (He.glo_ok X G (c.fact 4 rfl)) (F4.bindsN fun _ _ _ _ _ _ us hl => match us, hl with | [_, _], _ => rfl)
  have C3 : Cal P w K mg base "is_row" ["thing"] 1 spIsRow := calOf F2 (ok_isRow B F2) (He.glo_ok X G (c.fact 2 rfl)) (F2.bindsN fun _ _ _ _ _ _ us hl => match us, hl with | [_], _ => rfl)
  have C3b : Cal P w K mg base "is_row" ["thing"] 1 (spRow3 K) := calOf F2 (ok_row3 B F2) (He.glo_ok X G (c.fact 2 rfl)) (F2.bindsN fun _ _ _ _ _ _ us hl => match us, hl with | [_], _ => rfl)
  have C4 : Cal P w K mg base "is_tuple_of" ["many", "thing"] 1 spTupOf2 := calOf F3 (ok_tupOf2 B F3) (He.glo_ok X G (c.fact 3 rfl)) (F3.bindsN fun _ _ _ _ _ _ us hl => match us, hl with | [_, _], _ => rfl)
  have C5 : Cal P w K mg base "is_range" ["thing"] 1 (spRange K) := calOf F6 (ok_range B mA F6) (He.glo_ok X G (c.fact 6 rfl)) (F6.bindsN fun _ _ _ _ _ _ us hl => match us, hl with | [_], _ => rfl)
  have C6 : Cal P w K mg base "is_address" ["thing"] 2 (spAddr K) := calOf F7 (ok_addr B mA C5 F7) (He.glo_ok X G (c.fact 7 rfl)) (F7.bindsN fun _ _ _ _ _ _ us hl => match us, hl with | [_], _ => rfl)
  have C7 : Cal P w K mg base "beginnings" ["address"] 1 spBeg := calOf F9 (ok_beg B mA F9) (He.glo_ok X G (c.fact 9 rfl)) (F9.bindsN fun _ _ _ _ _ _ us hl => match us, hl with | [_], _ => rfl)
  have C8 : Cal P w K mg base "is_end" ["thing"] 1 (spEnd K) := calOf F15 (ok_end B mH mD F15) (He.glo_ok X G (c.fact 15 rfl)) (F15.bindsN fun _ _ _ _ _ _ us hl => match us, hl with | [_], _ => rfl)
  have C8w : Cal P w K mg base "is_end" ["thing"] 1 spEndW := calOf F15 (ok_endW B mH mD F15) (He.glo_ok X G (c.fact 15 rfl)) (F15.bindsN fun _ _ _ _ _ _ us hl => match us, hl with | [_], _ => rfl)
  have C9 : Cal P w K mg base "is_entry" ["thing"] 4 spEntry := calOf F14 (ok_entry m8 C4 C5 C2 C8 F14) (He.glo_ok X G (c.fact 14 rfl)) (F14.bindsN fun _ _ _ _ _ _ us hl => match us, hl with | [_], _ => rfl)
  have CA : Cal P w K mg base "refuse_wrong_entries" ["entries"] 5 spRWE := calOf F13 (ok_rwe B mE C3 C9 F13) (He.glo_ok X G (c.fact 13 rfl)) (F13.bindsN fun _ _ _ _ _ _ us hl => match us, hl with | [_], _ => rfl)
  have CB : Cal P w K mg base "is_onto" ["size", "onto"] 4 spOnto2 := calOf F18 (ok_onto2 C8w C2 F18) (He.glo_ok X G (c.fact 18 rfl)) (F18.bindsN fun _ _ _ _ _ _ us hl => match us, hl with | [_, _], _ => rfl)
  have CC : Cal P w K mg base "refuse_no_router" ["size", "thing"] 4 spRNR := calOf F5 (ok_rnr C2 F5) (He.glo_ok X G (c.fact 5 rfl)) (F5.bindsN fun _ _ _ _ _ _ us hl => match us, hl with | [_, _], _ => rfl)
  have CCx : CalX P w K mg base "refuse_no_router" ["size", "thing"] 4 (spRNRx (He.ga K "NoRouter")) := ⟨⟨_, d5, ok_rnrx XN C2 F5, He.glo_ok X G (c.fact 5 rfl), F5.kp, (F5.bindsN fun _ _ _ _ _ _ us hl => match us, hl with | [_, _], _ => rfl)⟩⟩
  have CD : CalX P w K mg base "refuse_wrong_tables" ["tables"] 5 (spRWTx K (He.ga K "Table") (He.ga K "BadField")) := ⟨⟨_, d17, ok_rwtx B m8 TXx NTx.self (He.glo_ok X G (c.fact 58 (f := .glo "Table") rfl)) XF CB F17, He.glo_ok X G (c.fact 17 rfl), F17.kp, (F17.bindsN fun _ _ _ _ _ _ us hl => match us, hl with | [_], _ => rfl)⟩⟩
  have MT : MkT P w K mg base (He.ga K "Table") := ⟨(He.glo_ok X G (c.fact 58 (f := .glo "Table") rfl)), ⟨_, d37, He.mkr_ok (c.fact 60 (f := .mkr "Table") rfl), ok_init B hso TXx CA F37, F37.bindsN fun _ _ _ _ _ _ us hl => match us, hl with | [_, _], _ => rfl⟩⟩
  have MQ : MqT P w K mg base (He.ga K "Table") := ⟨⟨_, d38, He.meth_ok (c.fact 62 (f := .meth "Table" "__eq__") rfl), ok_eq B TXx (He.glo_ok X G (c.fact 58 (f := .glo "Table") rfl)) F38, F38.bindsN fun _ _ _ _ _ _ us hl => match us, hl with | [_, _], _ => rfl⟩⟩
  have MO : MskO P w K mg base (He.ga K "Table") "onward" ["self", "address"] 3 (spOnw0 (He.ga K "Table")) := ⟨⟨_, d39, He.meth_ok (c.fact 61 (f := .meth "Table" "onward") rfl), ok_onw0 mD TXx C6 C7 F39, F39.bindsN fun _ _ _ _ _ _ us hl => match us, hl with | [_, _], _ => rfl⟩⟩
  have MOx : MskX P w K mg base (He.ga K "Table") "onward" ["self", "address"] 3 (spOnw K (He.ga K "Table") (He.ga K "BadAddress")) := ⟨⟨_, d39, He.meth_ok (c.fact 61 (f := .meth "Table" "onward") rfl), ok_onw mD TXx TA C6 C7 F39, F39.bindsN fun _ _ _ _ _ _ us hl => match us, hl with | [_, _], _ => rfl⟩⟩
  have MF : MkFx P w K mg base (He.ga K "Field") (He.ga K "Table") (He.ga K "BadField") := ⟨(He.glo_ok X G (c.fact 65 (f := .glo "Field") rfl)), ⟨_, d40, He.mkr_ok (c.fact 67 (f := .mkr "Field") rfl), ok_fInx B hne FXx CD F40, F40.bindsN fun _ _ _ _ _ _ us hl => match us, hl with | [_, _], _ => rfl⟩⟩
  have MB : MskO P w K mg base (He.ga K "Field") "table" ["self", "router"] 5 (spTab (He.ga K "Field") (He.ga K "Table")) := ⟨⟨_, d41, He.meth_ok (c.fact 68 (f := .meth "Field" "table") rfl), ok_tab FXx CC F41, F41.bindsN fun _ _ _ _ _ _ us hl => match us, hl with | [_, _], _ => rfl⟩⟩
  have MBx : MskX P w K mg base (He.ga K "Field") "table" ["self", "router"] 5 (spTabx (He.ga K "Field") (He.ga K "Table") (He.ga K "NoRouter")) := ⟨⟨_, d41, He.meth_ok (c.fact 68 (f := .meth "Field" "table") rfl), ok_tabx FXx CCx F41, F41.bindsN fun _ _ _ _ _ _ us hl => match us, hl with | [_, _], _ => rfl⟩⟩
  have CE : Cal P w K mg base "least_first" ["row"] 1 spLF := calOf F20 (ok_lf B F20) (He.glo_ok X G (c.fact 20 rfl)) (F20.bindsN fun _ _ _ _ _ _ us hl => match us, hl with | [_], _ => rfl)
  have FT : Cal P w K mg base "fate" ["field", "start", "address"] 6 (spFate (He.ga K "Field") (He.ga K "Table")) := calOf F19 (ok_fate B mR TXx FXx MB MO C8w CE F19) (He.glo_ok X G (c.fact 19 rfl)) (F19.bindsN fun _ _ _ _ _ _ us hl => match us, hl with | [_, _, _], _ => rfl)
  have FTx : CalX P w K mg base "fate" ["field", "start", "address"] 6 (spFatex K (He.ga K "Field") (He.ga K "Table") (He.ga K "NoRouter") (He.ga K "BadAddress")) := ⟨⟨_, d19, ok_fatex TXx FXx MBx MOx F19, He.glo_ok X G (c.fact 19 rfl), F19.kp, (F19.bindsN fun _ _ _ _ _ _ us hl => match us, hl with | [_, _, _], _ => rfl)⟩⟩
  have FTo : CalX P w K mg base "fate" ["field", "start", "address"] 6 (fun vs H Q E => spFate (He.ga K "Field") (He.ga K "Table") vs H Q E ∨ spFatex K (He.ga K "Field") (He.ga K "Table") (He.ga K "NoRouter") (He.ga K "BadAddress") vs H Q E) := ⟨⟨_, d19, fnOk_or (fnOk_up (ok_fate B mR TXx FXx MB MO C8w CE F19)) (ok_fatex TXx FXx MBx MOx F19), He.glo_ok X G (c.fact 19 rfl), F19.kp, (F19.bindsN fun _ _ _ _ _ _ us hl => match us, hl with | [_, _, _], _ => rfl)⟩⟩
  have AD : Cal P w K mg base "addresses" [] 1 spAds := calOf F8 (ok_ads B mA F8) (He.glo_ok X G (c.fact 8 rfl)) (F8.bindsN fun _ _ _ _ _ _ us hl => match us, hl with | [], _ => rfl)
  have CV : Cal P w K mg base "covered" ["ranges"] 2 spCov := calOf F10 (ok_cov B hany C7 AD F10) (He.glo_ok X G (c.fact 10 rfl)) (F10.bindsN fun _ _ _ _ _ _ us hl => match us, hl with | [_], _ => rfl)
  have FM : FnMg K (He.ga K "merged") d11 := F11
  obtain ⟨dsM, vM, bM⟩ := mg_one FM
  have CM : CalD P w K mg base "merged" ["worths", "ahead"] [V.str ""] 12 (spM (WFt K) 10) := ⟨_, d11, dsM, mg_step B (ok_mg (W := WFt K) B (He.glo_ok X G (c.fact 11 rfl)) FM.kp (mg_full FM) FM 10) FM, (He.glo_ok X G (c.fact 11 rfl)), FM.kp, bM, vM⟩
  have CMb : CalD P w K mg base "merged" ["worths", "ahead"] [V.str ""] 12 (spM (WB K) 10) := ⟨_, d11, dsM, mg_step B (ok_mg (W := WB K) B (He.glo_ok X G (c.fact 11 rfl)) FM.kp (mg_full FM) FM 10) FM, (He.glo_ok X G (c.fact 11 rfl)), FM.kp, bM, vM⟩
  have FW : Cal P w K mg base "fewest_ranges" ["flags"] 13 spFew := calOf F12 (ok_few B CMb F12) (He.glo_ok X G (c.fact 12 rfl)) (F12.bindsN fun _ _ _ _ _ _ us hl => match us, hl with | [_], _ => rfl)
  have RG : CalX P w K mg base "refuse_no_ranges" ["thing"] 3 (spRNG K (He.ga K "BadRanges")) := ⟨⟨_, d16, ok_rng B TR C3b C5 F16, He.glo_ok X G (c.fact 16 rfl), F16.kp, (F16.bindsN fun _ _ _ _ _ _ us hl => match us, hl with | [_], _ => rfl)⟩⟩
  have AF : Cal P w K mg base "all_fates" ["field", "start"] 7 (spAF (He.ga K "Field") (He.ga K "Table")) := calOf F21 (ok_af AD FT F21) (He.glo_ok X G (c.fact 21 rfl)) (F21.bindsN fun _ _ _ _ _ _ us hl => match us, hl with | [_, _], _ => rfl)
  have AFx : CalX P w K mg base "all_fates" ["field", "start"] 7 (spAFx (He.ga K "Field") (He.ga K "Table") (He.ga K "NoRouter")) := ⟨⟨_, d21, ok_afx AD FTx F21, He.glo_ok X G (c.fact 21 rfl), F21.kp, (F21.bindsN fun _ _ _ _ _ _ us hl => match us, hl with | [_, _], _ => rfl)⟩⟩
  have FS : CalX P w K mg base "fates" ["field", "start"] 13 (fun vs H Q E => spFts K (He.ga K "Field") (He.ga K "Table") vs H Q E ∨ spFtsx (He.ga K "Field") (He.ga K "Table") (He.ga K "NoRouter") vs H Q E) := ⟨⟨_, d22, fnOk_or (fnOk_up (ok_fts CM AF F22)) (ok_ftsx CM AFx F22), He.glo_ok X G (c.fact 22 rfl), F22.kp, (F22.bindsN fun _ _ _ _ _ _ us hl => match us, hl with | [_, _], _ => rfl)⟩⟩
  have LA : CalX P w K mg base "least_address" ["field", "start", "word"] 8 (spLA K (He.ga K "Field") (He.ga K "Table") (He.ga K "NoRouter") (He.ga K "BadWord")) := ⟨⟨_, d23, ok_la B hzip mH mD mR FXx TW CCx AD AF F23, He.glo_ok X G (c.fact 23 rfl), F23.kp, (F23.bindsN fun _ _ _ _ _ _ us hl => match us, hl with | [_, _, _], _ => rfl)⟩⟩
  have HO : CalX P w K mg base "holes" ["field", "start", "ranges"] 14 (spHo K (He.ga K "Field") (He.ga K "Table") (He.ga K "NoRouter") (He.ga K "BadRanges")) := ⟨⟨_, d24, ok_ho B hzip mH FXx CCx RG CV FW AF F24, He.glo_ok X G (c.fact 24 rfl), F24.kp, (F24.bindsN fun _ _ _ _ _ _ us hl => match us, hl with | [_, _, _], _ => rfl)⟩⟩
  have D0 : Cal P w K mg base "_law_pool" ["_law_script"] 1 (spPool K) := calOf F25 (ok_pool B F25) (He.glo_ok X G (c.fact 25 rfl)) (F25.bindsN fun _ _ _ _ _ _ us hl => match us, hl with | [_], _ => rfl)
  have D1 : Cal P w K mg base "_law_draw" ["_law_pool_here", "_law_many"] 1 spDrw := calOf F26 (ok_drw B F26) (He.glo_ok X G (c.fact 26 rfl)) (F26.bindsN fun _ _ _ _ _ _ us hl => match us, hl with | [_, _], _ => rfl)
  have D2 : Cal P w K mg base "_law_bits" ["_law_pool_here", "_law_most"] 2 spBits := calOf F27 (ok_bits B D1 F27) (He.glo_ok X G (c.fact 27 rfl)) (F27.bindsN fun _ _ _ _ _ _ us hl => match us, hl with | [_, _], _ => rfl)
  have D3 : Cal P w K mg base "_law_entries" ["_law_pool_here", "_law_many", "_law_nexts"] 3 spEnt := calOf F28 (ok_ent B hso D1 D2 F28) (He.glo_ok X G (c.fact 28 rfl)) (F28.bindsN fun _ _ _ _ _ _ us hl => match us, hl with | [_, _, _], _ => rfl)
  have D4 : Cal P w K mg base "_law_rows" ["_law_pool_here", "_law_size", "_law_most"] 4 spRows := calOf F29 (ok_rows B D1 D3 F29) (He.glo_ok X G (c.fact 29 rfl)) (F29.bindsN fun _ _ _ _ _ _ us hl => match us, hl with | [_, _, _], _ => rfl)
  have D5 : Cal P w K mg base "_law_bad_table" ["_law_pool_here", "_law_rows_here", "_law_router"] 8 (spBT (He.ga K "Table")) := calOf F30 (ok_bt B MT D1 D2 F30) (He.glo_ok X G (c.fact 30 rfl)) (F30.bindsN fun _ _ _ _ _ _ us hl => match us, hl with | [_, _, _], _ => rfl)
  have D6 : Cal P w K mg base "_law_made" ["_law_tables"] 8 (spMd K (He.ga K "Field") (He.ga K "Table")) := calOf F31 (ok_md B hne MF XF EF (He.glo_ok X G (c.fact 74 (f := .glo "WishError") rfl)) (He.glo_ok X G (c.fact 75 (f := .glo "NoRouter") rfl)) F31) (He.glo_ok X G (c.fact 31 rfl)) (F31.bindsN fun _ _ _ _ _ _ us hl => match us, hl with | [_], _ => rfl)
  have D7 : CalX P w K mg base "_law_call" ["_law_field", "_law_which", "_law_start", "_law_thing"] 15 (spLC K (He.ga K "Field") (He.ga K "Table") (He.ga K "NoRouter") (He.ga K "BadAddress") (He.ga K "BadRanges") (He.ga K "BadWord")) := ⟨⟨_, d32, ok_lc FXx MBx FTo FS LA HO F32, He.glo_ok X G (c.fact 32 rfl), F32.kp, (F32.bindsN fun _ _ _ _ _ _ us hl => match us, hl with | [_, _, _, _], _ => rfl)⟩⟩
  have D8 : Cal P w K mg base "_law_error" ["_law_field", "_law_which", "_law_start", "_law_thing"] 16 (spLE K (He.ga K "Field") (He.ga K "Table")) := calOf F33 (ok_le B hVE (He.glo_ok X G (c.fact 74 (f := .glo "WishError") rfl)) XN (He.glo_ok X G (c.fact 77 (f := .glo "BadAddress") rfl)) (He.glo_ok X G (c.fact 78 (f := .glo "BadRanges") rfl)) (He.glo_ok X G (c.fact 79 (f := .glo "BadWord") rfl)) EN EA ER EW D7 F33) (He.glo_ok X G (c.fact 33 rfl)) (F33.bindsN fun _ _ _ _ _ _ us hl => match us, hl with | [_, _, _, _], _ => rfl)
  have D9 : Cal P w K mg base "_law_no_routers" ["_law_field", "_law_start", "_law_thing"] 17 (spNRs (He.ga K "Field") (He.ga K "Table")) := calOf F34 (ok_nrs B D8 F34) (He.glo_ok X G (c.fact 34 rfl)) (F34.bindsN fun _ _ _ _ _ _ us hl => match us, hl with | [_, _, _], _ => rfl)
  have DA : Cal P w K mg base "_law_bad_things" ["_law_pool_here", "_law_field"] 17 (spBTh (He.ga K "Field") (He.ga K "Table")) := calOf F35 (ok_bth B TXx TKx FXx MT D1 D8 F35) (He.glo_ok X G (c.fact 35 rfl)) (F35.bindsN fun _ _ _ _ _ _ us hl => match us, hl with | [_, _], _ => rfl)
  exact ok_law B TXx TKx FXx NTx (He.glo_ok X G (c.fact 58 (f := .glo "Table") rfl)) ⟨D0, D1, D4, D5, D6, D9, DA, MT, MB, MQ⟩ F36
end Wk
open PySem PySem.W PySem.Calls PyProof.Rows
set_option maxHeartbeats 0
theorem PySem.Challenge.cw_wishreels_k88_fields_kept_and_refused_holds : PySem.Challenge.rw_wishreels_k88_fields_kept_and_refused.Holds := by
  w_on; o_law
  refine HandSHeadRun.head_any (r := Wk.R) (q := view Wk.R.prog [57]) (H := Wk.hk) (ob := Wk.ob) (M := 9000) (loose := Wk.loose) (d := HandSHeadRun.topDef Wk.R.prog 57) (kwd := []) Wk.ob_eq
    (by kernel_rfl) (fun s => by kernel_rfl) Wk.run (by kernel_rfl) (by kernel_rfl) (by kernel_rfl) (by rfl) (by first | assumption | decide +kernel) (by decide +kernel) ⟨rfl, rfl, rfl, rfl, rfl, by decide +kernel⟩ ?hw ?hc
  case hw => w_witness2
  case hc =>
    refine L2.walk_ofE (l := PySem.Challenge.rw_wishreels_k88_fields_kept_and_refused) (n := 63) (k := 18) (x := "_law_script") (CX := L2.CX0) rfl (by decide) (by kernel_rfl) ⟨rfl, by decide, by decide⟩ ?F (fun _ _ _ _ z => z)
    intro w mg fa h Y G hmg0
    obtain ⟨K, kx, c, cx⟩ := Y
    have hmg : mg ("law" : PySem.Str) = some (.ref fa) := by
      have e : (HandSHeadRun.topDef Wk.R.prog 57).name = ("law" : PySem.Str) := by kernel_rfl
      rw [← e]
      exact hmg0
    obtain ⟨fd, hb, hF⟩ := Wk.facts (P := (PySem.Challenge.rw_wishreels_k88_fields_kept_and_refused).prog) (w := w) kx G hmg c cx
    exact ⟨K, fd, Wk.spLaw K, kx, hb, fun H a ns hl _ hS => ⟨a, ns, rfl, hS, hl, fun _ => rfl⟩, hF⟩

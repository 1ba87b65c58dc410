import PyProof.Rows.All
import Wide.All
import OpenK.AllK
import Wide.FinOn
import KE.KStateDown
import HandS.ForMost
import HandS.More
import HandS.WordsExc
import HandS.Defaults
import HandS.Deep
import HandS.IsInst
import HandS.Evl
import HandS.Walk
import HandS.TupSets
import HandS.TupAny
import HandS.Conv
import PyProof.P3In
import HandS.SetFor
import HandS.Strs
import KE.GoesMore
import KE.GoesEnum
import HandS.ExcInit
import HandS.ExcField
import HandS.ExcOwn
import PyProof.NeKinds
import PyProof.EqKinds
import PyProof.FactsAll.subtypes_4
import PyProof.FactsAll.dict_1
import HandS.DictComp
import HandS.Comp
import HandS.TryOnly
import HandS.TryMany
import HandS.ExcIs
import HandS.ExcBuiltin
import HandS.Dict
import HandS.WordsDict
import HandS.WideBits
import HandS.Wide
import HandS.Small
import HandS.Codes
import HandS.SortRule
import HandS.ExcValue
import KE.DataFind
import PyProof.ListStr
import PyProof.P3Eq
import HandS.HeadHook3
import HandS.HeadHook4
import HandS.HeadWalk
import HandS.Head0
import HandS.Head1
import HandS.Head2
import HandS.HeadEnd
import HandS.HeadHook1
import HandS.HeadHook2
import HandS.IntHex
import PyProof.StrBlock2
import HandS.Nested
import KE.DataMinKey
import HandS.OwnEq
import PySem.Challenge.RW_wishreels_k85_whole_fewest_entries_of_sm
set_option Elab.async false
set_option linter.all false
set_option maxRecDepth 100000
set_option maxHeartbeats 2000000
namespace Wk
open PySem PySem.Spec PyProof.Rows L2 Evl
/-! data that stand in a heap -/
mutual
inductive Dq (G : Hp) : V → PyData → Prop
  | non : Dq G .non .none
  | bl (b : Bool) : Dq G (.bl b) (.bool b)
  | int (i : Int) : Dq G (.int i) (.int i)
  | str (x : Str) : Dq G (.str x) (.str x)
  | lst {a : Addr} {xs : List V} {ds : List PyData} : G a = some (.lst xs) → DqA G xs ds → Dq G (.ref a) (.list ds)
  | tup {a : Addr} {xs : List V} {ds : List PyData} : G a = some (.tup xs) → DqA G xs ds → Dq G (.ref a) (.tuple ds)
  | dic {a : Addr} : G a = some (.dK []) → Dq G (.ref a) (.dict [])
inductive DqA (G : Hp) : List V → List PyData → Prop
  | nil : DqA G [] []
  | cons {v : V} {vs : List V} {d : PyData} {ds : List PyData} : Dq G v d → DqA G vs ds → DqA G (v :: vs) (d :: ds)
end

mutual
theorem Dq.mono {G H : Hp} (e : Ex G H) : ∀ {d : PyData} {v : V}, Dq G v d → Dq H v d
  | .none, _, .non => .non
  | .bool _, _, .bl b => .bl b
  | .int _, _, .int i => .int i
  | .str _, _, .str x => .str x
  | .list _, _, .lst h a => .lst (e _ _ h) (DqA.mono e a)
  | .tuple _, _, .tup h a => .tup (e _ _ h) (DqA.mono e a)
  | .dict _, _, .dic h => .dic (e _ _ h)
theorem DqA.mono {G H : Hp} (e : Ex G H) : ∀ {ds : List PyData} {vs : List V}, DqA G vs ds → DqA H vs ds
  | [], _, .nil => .nil
  | _ :: _, _, .cons h t => .cons (Dq.mono e h) (DqA.mono e t)
end

mutual
theorem Dq.dp {K : PySem.W.Frag} {G : Hp} : ∀ {d : PyData} {v : V}, d.canLay0 = true → Dq G v d → Dp K G v d
  | .none, _, _, .non => .non
  | .bool _, _, _, .bl b => .bl b
  | .int _, _, _, .int i => .int i
  | .str _, _, _, .str x => .str x
  | .list ds, _, c, .lst h a => .lst (sq_of h) (DqA.dp (by simpa [PyData.canLay0] using c) a)
  | .tuple ds, _, c, .tup h a => .tup (st_of h) (DqA.dp (by simpa [PyData.canLay0] using c) a)
  | .dict _, _, c, .dic h => by simp [PyData.canLay0] at c
theorem DqA.dp {K : PySem.W.Frag} {G : Hp} : ∀ {ds : List PyData} {vs : List V}, PyData.canLayAll0 ds = true → DqA G vs ds → DpAll K G vs ds
  | [], _, _, .nil => .nil
  | d :: ds, _, c, .cons h t => by
    have c' : d.canLay0 = true ∧ PyData.canLayAll0 ds = true := by simpa [PyData.canLayAll0] using c
    exact .cons (Dq.dp c'.1 h) (DqA.dp c'.2 t)
end
theorem DqA.length {G : Hp} : ∀ {ds : List PyData} {vs : List V}, DqA G vs ds → vs.length = ds.length
  | [], _, .nil => rfl
  | _ :: _, _, .cons _ t => congrArg Nat.succ t.length
theorem DqA.get {G : Hp} : ∀ {ds : List PyData} {vs : List V} {i : Nat} {v : V}, DqA G vs ds → vs[i]? = some v → ∃ d, ds[i]? = some d ∧ Dq G v d
  | [], _, i, v, .nil, e => by simp at e
  | d :: _, _, 0, v, .cons h t, e => ⟨d, rfl, by simp at e; subst e; exact h⟩
  | _ :: _, _, i + 1, v, .cons h t, e => by
    obtain ⟨d, e1, e2⟩ := t.get (i := i) (by simpa using e)
    exact ⟨d, by simpa using e1, e2⟩
theorem DqA.at {G : Hp} {ds : List PyData} {vs : List V} {i : Nat} {d : PyData} (h : DqA G vs ds) (e : ds[i]? = some d) : ∃ v, vs[i]? = some v ∧ Dq G v d := by
  have hl := h.length
  obtain ⟨hi, _⟩ := List.getElem?_eq_some_iff.mp e
  have hv : vs[i]? = some (vs[i]'(by omega)) := List.getElem?_eq_getElem (by omega)
  obtain ⟨d', e1, e2⟩ := h.get hv
  rw [e] at e1
  cases e1
  exact ⟨_, hv, e2⟩
theorem DqA.append {G : Hp} : ∀ {ds es : List PyData} {vs us : List V}, DqA G vs ds → DqA G us es → DqA G (vs ++ us) (ds ++ es)
  | [], _, _, _, .nil, h => h
  | _ :: _, _, _, _, .cons h t, u => .cons h (t.append u)
theorem DqA.take {G : Hp} : ∀ {ds : List PyData} {vs : List V} (n : Nat), DqA G vs ds → DqA G (vs.take n) (ds.take n)
  | [], _, n, .nil => by simp; exact .nil
  | _ :: _, _, 0, .cons h t => .nil
  | _ :: _, _, n + 1, .cons h t => .cons h (t.take n)
theorem DqA.drop {G : Hp} : ∀ {ds : List PyData} {vs : List V} (n : Nat), DqA G vs ds → DqA G (vs.drop n) (ds.drop n)
  | [], _, n, .nil => by simp; exact .nil
  | _ :: _, _, 0, .cons h t => .cons h t
  | _ :: _, _, n + 1, .cons h t => t.drop n
theorem DqA.ints {G : Hp} : ∀ (ns : List Int), DqA G (ns.map V.int) (ns.map PyData.int)
  | [] => .nil
  | n :: ns => .cons (.int n) (DqA.ints ns)
theorem DqA.int_inv {G : Hp} : ∀ {ns : List Int} {vs : List V}, DqA G vs (ns.map PyData.int) → vs = ns.map V.int
  | [], _, .nil => rfl
  | _ :: _, _, .cons (.int n) t => by
    have := DqA.int_inv t
    subst this
    rfl
/-- the name of a datum's type -/
def tyN : PyData → String
  | .none => "NoneType"
  | .bool _ => "bool"
  | .int _ => "int"
  | .str _ => "str"
  | .list _ => "list"
  | .tuple _ => "tuple"
  | .dict _ => "dict"
theorem Dq.ty {K : PySem.W.Frag} {G : Hp} {d : PyData} {v : V} (h : Dq G v d) : TyX K G v (.type (tyN d)) := by
  cases h with
  | non => exact .base .non
  | bl b => exact .base (.bl b)
  | int i => exact .base (.int i)
  | str x => exact .base (.str x)
  | lst h _ => exact .base (.lst h)
  | tup h _ => exact .base (.tup h)
  | dic h => exact .base (.dK h)
/-- a call's callee: the def that a global name holds -/
structure Cal (P : Program) (w : World) (K : PySem.W.Frag) (mg : Str → Option Value) (base : Heap) (x : Str) (ps : List Str) (k : Nat) (sp : Sp) : Prop where
  ex : ∃ (f : Addr) (fd : FuncData), FnOk P w K mg base CX0 k f fd ps sp ∧ mg x = some (.ref f) ∧ PySem.W.keepIn K (.ref f) = true ∧ Binds K fd ps []
section
variable {X : Cx}
theorem pe_cal {x : Str} {p pos : Pos} {e : Expr} {es : List Expr} {ps : List Str} {k j : Nat} {sp : Sp} {t : TA} (C : Cal X.prog X.w X.K X.mg X.base x ps k sp) (hr : Room j X.A) (hg : Gl X x) (ha : PA X (e :: es) t) (hk : k ≤ j := by decide)
    (hdb : (x == ("__debug__" : Str)) = false := by decide) (he : starEach (e :: es) X.env = (false, eval e X.env) :: starEach es X.env := by rfl) (hpl : (backTo pos (starEach es X.env)).any (·.1) = false := by rfl) :
    PE X (.Call (.Name x p) (e :: es) [] pos) (tCall sp [] E0 t) := by
  obtain ⟨f, fd, F, g, kp, b⟩ := C.ex
  exact pe_call F (hr.mono hk) hg g kp b .nil pass0 ha hdb he hpl
end
section
variable {K : PySem.W.Frag} {σ : L2.St} {H : Hp} {ta tb tc te : TE}
/-- isinstance(x, T), T a built-in type -/
theorem ev_isi {v : V} {d : PyData} {n : String} {b : Bool} (h : Ev ta σ H v) (hd : Dq H v d) (hk : kitB (tyN d) n = some b) : Ev (tCB (rIsi K) (tCons ta (tCons (tC (.ty n)) tNil))) σ H (.bl b) := fun H1 e Q q =>
  h H1 e _ fun H2 e2 => ⟨v, .ty n, .type (tyN d), .type n, b, rfl, .ty n, (hd.mono (e.trans e2)).ty, kit_ty hk, q H2 e2⟩
/-- a <= b <= c of ints -/
theorem ev_chain {i j k : Int} {r r' : R2} {b1 b2 : Bool} (ha : Ev ta σ H (.int i)) (hb : Ev tb σ H (.int j)) (hc : Ev tc σ H (.int k)) (h1 : RV r (.int i) (.int j) H (.bl b1)) (h2 : RV r' (.int j) (.int k) H (.bl b2)) :
    Ev (tChain r r' ta tb tc) σ H (.bl (b1 && b2)) := fun H1 e Q q =>
  ha H1 e _ fun H2 e2 => hb H2 (e.trans e2) _ fun H3 e3 => h1 H3 ((e.trans e2).trans e3) _ fun H4 e4 => ⟨b1, rfl, by
    cases b1 with
    | false => exact q H4 ((e2.trans e3).trans e4)
    | true => exact hc H4 (((e.trans e2).trans e3).trans e4) _ fun H5 e5 => h2 H5 ((((e.trans e2).trans e3).trans e4).trans e5) _ fun H6 e6 => q H6 ((((e2.trans e3).trans e4).trans e5).trans e6)⟩
end
end Wk

set_option Elab.async false
set_option linter.all false
set_option maxRecDepth 100000
set_option maxHeartbeats 4000000
namespace Wk
open PySem PySem.Spec PyProof.Rows L2 Evl
/-! how many are unlike -/
theorem nd_le {α : Type} [DecidableEq α] : ∀ (l D : List α), l.Nodup → (∀ x ∈ l, x ∈ D) → l.length ≤ D.length
  | [], _, _, _ => Nat.zero_le _
  | x :: l, D, hn, hs => by
    have hn' := List.nodup_cons.mp hn
    have hx : x ∈ D := hs x List.mem_cons_self
    have ih := nd_le l (D.erase x) hn'.2 fun y hy => (List.mem_erase_of_ne (fun (e : y = x) => hn'.1 (by rw [← e]; exact hy))).2 (hs y (List.mem_cons_of_mem _ hy))
    have e := List.length_erase_of_mem hx
    have hp : 0 < D.length := List.length_pos_of_mem hx
    simp only [List.length_cons]
    omega
theorem dup_less {α : Type} [DecidableEq α] : ∀ (D : List α), ¬ D.Nodup → ∃ D' : List α, (∀ x ∈ D, x ∈ D') ∧ D'.length < D.length
  | [], h => absurd List.nodup_nil h
  | x :: D, h => by
    by_cases hx : x ∈ D
    · exact ⟨D, fun y hy => (List.mem_cons.mp hy).elim (fun e => by rw [e]; exact hx) id, Nat.lt_succ_self _⟩
    · have hD : ¬ D.Nodup := fun z => h (List.nodup_cons.mpr ⟨hx, z⟩)
      obtain ⟨D', h1, h2⟩ := dup_less D hD
      exact ⟨x :: D', fun y hy => (List.mem_cons.mp hy).elim (fun e => by rw [e]; exact List.mem_cons_self) (fun e => List.mem_cons_of_mem _ (h1 y e)), Nat.succ_lt_succ h2⟩
theorem nd_iff {α : Type} [DecidableEq α] {l D : List α} (hn : l.Nodup) (h : ∀ x, x ∈ l ↔ x ∈ D) : l.length = D.length ↔ D.Nodup := by
  constructor
  · intro e
    apply Classical.byContradiction
    intro hD
    obtain ⟨D', h1, h2⟩ := dup_less D hD
    have := nd_le l D' hn fun x hx => h1 x ((h x).mp hx)
    omega
  · intro hD
    have h1 := nd_le l D hn fun x hx => (h x).mp hx
    have h2 := nd_le D l hD fun x hx => (h x).mpr hx
    omega
section
variable {X : Cx}
/-- len(set(t)), t a tuple of ints -/
def tLenSU (K : PySem.W.Frag) (ta : TE) : TE := fun σ H Q => ta σ H fun x H1 => ∃ (l : Addr) (ns : List Int), x = V.ref l ∧ SqT K H1 l (ns.map V.int) ∧ ns.length < 64 ∧ ∀ n : Nat, (n = ns.length ↔ ns.Nodup) → Q (.int n) H1
theorem pe_lenSU {a : Expr} {ta : TE} {p p2 q pos : Pos} (hc : X.calm = true) (hg : Gl X "len") (hm : X.mg "len" = none) (hg2 : Gl X "set") (hm2 : X.mg "set" = none) (ha : PE X a ta)
    (na : starEach [a] X.env = (false, eval a X.env) :: starEach [] X.env := by rfl) : PE X (.Call (.Name "len" p) [.Call (.Name "set" p2) [a] [] q] [] pos) (tLenSU X.K ta) := by
  refine ⟨fun pins s σ H Q I h => ?_⟩
  refine Call_ (ld_blt I hg hm PySem.boot_len ?_)
  refine PyProof.Rows.callWith_builtin1 (PyProof.Rows.args_cons ?_ rfl) rfl rfl
  refine Call_ (ld_blt I hg2 hm2 PyProof.Rows.boot_set ?_)
  refine PyProof.Rows.callWith_type1 (PyProof.Rows.args_cons (thn (ha.run pins s σ H _ I h) fun v s1 hh => PyProof.Rows.args_nil ?_) na) na rfl
  obtain ⟨x, H1, I1, r1, l, ns, rfl, hq, hlt, q1⟩ := hh
  cases r1
  obtain ⟨its, r, pl, hz⟩ := I1.tuple hq
  refine call_set_tupI (w := X.w) ns (I1.ok.hd hc) pl (by simpa using r.ints) (by unfold scanBound; omega) fun h' tk c hS hc2 hk => ?_
  refine PyProof.Rows.args_nil ?_
  obtain ⟨o, es, ep, t, ho, hex, hd, _, hnd, hiff, _, hf, hn, _⟩ := hS
  have I2 : Inv X pins σ H1 { s1 with heap := h', toks := tk } := I1.kept fun b o e => hk b o e
  refine call_len_set ho hex hd hf (by rw [hn] <;> omega) ⟨.int es.size, H1, I2.tok _, ⟨_, rfl⟩, q1 es.size ?_⟩
  have hl : (es.toList.map keyOf).length = es.size := by simp
  rw [← hl]
  exact nd_iff hnd fun k => by
    have := hiff k
    simp only [decide_eq_true_eq] at this
    exact this.symm
end
/-- the set that set() lays -/
abbrev sO (w : World) : Obj := { cls := .type "set", dict := none, data := .set #[] 0 (.fresh 0 0 (!w.params.followText "set-order")) }
section
variable {P : Program} {w : World} {A : Around} {E : Value → Shared → Prop} {s : Shared}
/-- set(t), t a tuple of tuples of ints -/
theorem set_of_tup2 {l : Addr} {its : Array Value} (ks : List (Addr × List Int)) {Q : Value → Shared → Prop} (nh : A.handled = none) (tl : s.heap.IsTuple l its) (eq : its.toList = ks.map fun p => Value.ref p.1)
    (ki : ∀ p ∈ ks, IsT P w s.heap p.2 p.1) (few : ks.length < 64) (un : A.units + 3 < cLine)
    (fin : ∀ (h' : Heap) (tk : Nat) L es ep t, SetTR P w h' s.heap.objs.size L es ep t → Got ks ks.length L → (∀ b o, s.heap.get? b = some o → h'.get? b = some o) → Q (.ref s.heap.objs.size) { s with heap := h', toks := tk }) :
    wpAny (model P w) A (call (.type "set") [.ref l]) Q E s := by
  have size : its.size = ks.length := by have q := congrArg List.length eq; simpa using q
  obtain ⟨c, rest, mro⟩ := F.called_set.mro
  have made := F.called_set.made; have sub := F.called_set.sub
  refine wpAny_call (codeAny_of_tree (show wpAny _ _ (callAny (.type "set") _) _ _ _ from ?_))
  refine wpAny_pure ⟨Code.quiet_builtin _ (by decide +kernel), codeAny_builtin F.entry_type_call (by
    rw [Around.under_plain (weight_type_call_type "set" [.ref l] []) rfl]
    have nt := F.called_set.notType; have cc := F.called_set.canCreate; have tc := F.typeCall_set_1 (.ref l)
    repeat (any_goals (first | assumption | wp_step))
    refine codeAny_mono (code_set_led1 (.ref l) (E := E) (Q₁ := fun ob s1 => ob = .ref s.heap.objs.size ∧ s1 = { s with heap := s.heap.push (sO w) }) ⟨rfl, rfl⟩) fun r s1 hr => ?_
    cases r with
    | error e => exact hr
    | ok fl =>
      cases fl with
      | ret ob =>
        obtain ⟨rfl, rfl⟩ := hr
        have hS : (s.heap.push (sO w)).get? s.heap.objs.size = some (sO w) := Heap.get?_push_size _ rfl
        have hT : Shared.TypeIs { s with heap := s.heap.push (sO w) } (.ref s.heap.objs.size) "set" := ⟨_, hS, rfl⟩
        have li := F.called_set.init.lookup; have bi := F.called_set.init.bind (.ref s.heap.objs.size)
        repeat (any_goals (first | assumption | wp_step))
        refine codeAny_mono (codeAny_call_builtin (R := wants (fun r s2 => r = .none ∧ ∃ h' tk L es ep t, s2 = { s with heap := h', toks := tk } ∧ SetTR P w h' s.heap.objs.size L es ep t ∧ Got ks ks.length L ∧ (∀ b o, s.heap.get? b = some o → h'.get? b = some o)) E)
          F.called_set.init.plain F.entry_set_init (check_set_init_1 hT ?_)) fun r2 s2 hr2 => ?_
        · obtain ⟨⟨oc, od, dt, sl⟩, ol, cl, n, dl⟩ := tl
          simp only at cl dl; subst cl; subst dl
          have ol1 : (s.heap.push (sO w)).get? l = some { cls := .type "tuple", dict := od, data := .seq its n, slots := sl } := Heap.get?_push_of_some _ ol
          have b1 := F.sub_tuple_set; have b2 := F.sub_tuple_frozenset
          have b3 : (Value.type "tuple" == Value.type "dict") = false := by decide
          have tl1 : (s.heap.push (sO w)).IsTuple l its := ⟨_, ol1, rfl, n, rfl⟩
          unfold Builtin.«set.__init__» noKeywords Builtin.Frozenset.updateFrom
          generalize hPI : pyIter = PI
          wp_walk
          subst hPI
          refine wpAny_pyIter_tuple tl1 (wpAny_bind (wpAny_runValue ?_))
          have lt : l < s.heap.objs.size := Heap.lt_size ol
          have nh3 : A.in1.in1.in1.handled = none := by simp [nh]
          have ne1 : l ≠ (s.heap.push (sO w)).objs.size := by rw [Heap.size_push]; exact Nat.ne_of_lt (Nat.lt_succ_of_lt lt)
          have nin : s.heap.objs.size ∉ [(s.heap.push (sO w)).objs.size, l] := by
            rw [Heap.size_push]
            intro z
            rcases List.mem_cons.mp z with z | z
            · exact absurd z (Nat.ne_of_lt (Nat.lt_succ_self _))
            · exact absurd (List.mem_singleton.mp z) (Nat.ne_of_gt lt)
          have val : ∀ (i : Nat) (v : Value), its[i]? = some v → ∃ p, ks[i]? = some p ∧ v = .ref p.1 := fun i v hv => by
            have q : its.toList[i]? = some v := (Array.getElem?_toList ..).trans hv
            rw [eq, List.getElem?_map] at q
            cases hq : ks[i]? with
            | none => rw [hq] at q; cases q
            | some p => rw [hq] at q; exact ⟨p, rfl, (Option.some.inj q).symm⟩
          have out : ∀ b, s.heap.objs.size ≤ b → s.heap.get? b = none := fun b hb => by
            cases q : s.heap.get? b with
            | none => rfl
            | some o => exact absurd (Nat.lt_of_lt_of_le (Heap.lt_size q) hb) (Nat.lt_irrefl _)
          refine set_update_tups ((Walks.tuple nh3 _ l ne1 its).toS) s.heap.objs.size nin ks size few val s.heap ki (out _ (Nat.le_refl _)) (fun b hb => out b (by rw [List.mem_singleton.mp hb, Heap.size_push]; exact Nat.le_succ _)) un (its.size - 0) 0 _ (by omega) (Nat.zero_le _)
            ⟨⟨_, Heap.get?_push_size _ rfl, rfl, rfl⟩, (tl1.push _)⟩ (fun b o e => Heap.get?_push_of_some _ (Heap.get?_push_of_some _ e)) ⟨[], #[], 0, _, setTR_fresh (Heap.get?_push_of_some _ hS), Got.zero ks⟩ ?_
          intro s' L es ep t hm hS' g' kp
          obtain ⟨h', g2, d', tk', os'⟩ := s'
          have eg : g2 = s.gens := hm.gens
          have ed : d' = s.drawn := hm.drawn
          have eo : os' = s.os := hm.os
          subst eg; subst ed; subst eo
          show wpAny _ _ _ _ _ _
          refine wpAny_pure (show wpAny _ _ (ret Value.none) _ _ _ from ?_)
          rw [size] at g'
          exact wpAny_pure ⟨rfl, h', tk', L, es, ep, t, rfl, hS', g', kp⟩
        · cases r2 with
          | error e => exact hr2
          | ok fl2 =>
            cases fl2 with
            | ret r =>
              obtain ⟨rfl, h', tk, L, es, ep, t, rfl, hS', g', k'⟩ := hr2
              repeat (any_goals (first | assumption | wp_step))
              exact fin _ _ _ _ _ _ hS' g' k'
            | _ => exact hr2.elim
      | _ => exact hr.elim)⟩
end
section
variable {X : Cx}
/-- len(set(t)), t a tuple of tuples of ints -/
def tLenSUU (K : PySem.W.Frag) (ta : TE) : TE := fun σ H Q => ta σ H fun x H1 => ∃ (l : Addr) (ks : List (Addr × List Int)), x = V.ref l ∧ SqT K H1 l (ks.map fun p => V.ref p.1) ∧ (∀ p ∈ ks, SqT K H1 p.1 (p.2.map V.int)) ∧ ks.length < 64 ∧
  ∀ n : Nat, (n = ks.length ↔ (ks.map (·.2)).Nodup) → Q (.int n) H1
theorem pe_lenSUU {a : Expr} {ta : TE} {p p2 q pos : Pos} (hc : X.calm = true) (hu : X.A.units + 64 < cLine) (hg : Gl X "len") (hm : X.mg "len" = none) (hg2 : Gl X "set") (hm2 : X.mg "set" = none) (ha : PE X a ta)
    (na : starEach [a] X.env = (false, eval a X.env) :: starEach [] X.env := by rfl) : PE X (.Call (.Name "len" p) [.Call (.Name "set" p2) [a] [] q] [] pos) (tLenSUU X.K ta) := by
  refine ⟨fun pins s σ H Q I h => Call_ (ld_blt I hg hm PySem.boot_len (PyProof.Rows.callWith_builtin1 (PyProof.Rows.args_cons (Call_ (ld_blt I hg2 hm2 PyProof.Rows.boot_set ?_)) rfl) rfl rfl))⟩
  refine PyProof.Rows.callWith_type1 (PyProof.Rows.args_cons (thn (ha.run pins s σ H _ I h) fun v s1 hh => PyProof.Rows.args_nil ?_) na) na rfl
  obtain ⟨x, H1, I1, r1, l, ks, rfl, hq, hk, few, q1⟩ := hh
  cases r1
  obtain ⟨its, r, pl, hz⟩ := I1.tuple hq
  refine set_of_tup2 (P := X.prog) (w := X.w) ks (I1.ok.hd hc) pl (by simpa using refs_of_vals r) (fun p hp => I1.isT (hk p hp)) few (by omega) fun h' tk L es ep t R g k => PyProof.Rows.args_nil ?_
  have I2 : Inv X pins σ H1 { s1 with heap := h', toks := tk } := I1.kept fun b o e => k b o e
  have hes : es.size = L.length := R.size (s := { s1 with heap := h', toks := tk })
  have hf := R.fits (s := { s1 with heap := h', toks := tk })
  obtain ⟨o, ho, hex, hd⟩ := R.ob
  refine call_len_set (s := { s1 with heap := h', toks := tk }) ho hex hd hf (by have := R.few; omega) ⟨.int es.size, H1, I2.tok _, ⟨_, rfl⟩, q1 es.size ?_⟩
  have e1 : (L.map (·.2)).length = es.size := by simp [hes]
  have e2 : (ks.map (·.2)).length = ks.length := by simp
  rw [← e1, ← e2]
  refine nd_iff R.nd fun k => ⟨fun z => ?_, fun z => ?_⟩
  · obtain ⟨p, hp, rfl⟩ := List.mem_map.mp z
    exact List.mem_map.mpr ⟨p, List.mem_of_mem_take (g.sub p hp), rfl⟩
  · obtain ⟨p, hp, rfl⟩ := List.mem_map.mp z
    exact g.all p (by rw [List.take_length]; exact hp)
end
end Wk

set_option Elab.async false
set_option linter.all false
set_option maxRecDepth 100000
set_option maxHeartbeats 4000000
namespace Wk
open PySem PySem.Spec PyProof.Rows L2 Evl
/-- the walk of a tuple's iterator under an enumerate -/
abbrev itO (l : Addr) : Obj := { cls := .type "tuple_iterator", data := .fields #[.ref l, .int 0 0] }
abbrev enO (it : Addr) : Obj := { cls := .type "enumerate", data := .fields #[.none, .bool false, .ref it, rawInt 0, .none, .none] }
theorem enumNewT (l : Addr) (its : Array Value) (n : Nat) (od : Option Addr) (sl : Array (Option Value)) :
    Meets (Builtin.«enumerate.__new__» ⟨[.type "enumerate", .ref l], []⟩) (fun _ R s => s.heap.get? l = some { cls := .type "tuple", dict := od, data := .seq its n, slots := sl } ∧
      R (.ok (.ret (.ref (s.heap.push (itO l)).objs.size))) { s with heap := (s.heap.push (itO l)).push (enO s.heap.objs.size) }) :=
  .of_wp fun prog w A R s h => by
    obtain ⟨hp, g, d, tk, os⟩ := s; obtain ⟨hl, h⟩ := h
    have su := sub_enumerate
    have tl : Heap.IsTuple (Shared.heap ⟨hp, g, d, tk, os⟩) l its := ⟨_, hl, rfl, n, rfl⟩
    wp_walk using wpAny_loadPart' hl
    refine wpAny_stack_any fun st => wpAny_pure ?_
    split
    · rename_i c _ _ _ _ _
      cases (c == Value.type "enumerate") <;> (wp_walk using wpAny_loadPart' hl, wpAny_pyIter_tuple tl; exact ⟨_, rfl, h⟩)
    · wp_walk using wpAny_loadPart' hl, wpAny_pyIter_tuple tl
      exact ⟨_, rfl, h⟩
section
variable {prog : Program} {w : World} {A : Around} {E : Value → Shared → Prop} {s : Shared}
theorem enumT_call {l : Addr} {its : Array Value} {Q : Value → Shared → Prop} (tl : s.heap.IsTuple l its)
    (h : ∀ h', IsEnum h' (s.heap.objs.size + 1) s.heap.objs.size 0 .none → h'.IsTupleIter s.heap.objs.size l 0 → h'.objs.size = s.heap.objs.size + 2 → (∀ b o, s.heap.get? b = some o → h'.get? b = some o) → Q (.ref (s.heap.objs.size + 1)) { s with heap := h' }) :
    wpAny (model prog w) A (call (.type "enumerate") [.ref l]) Q E s := by
  obtain ⟨⟨c, od, dt, sl⟩, hl, hc, n, hd⟩ := tl
  replace hc : c = .type "tuple" := hc
  replace hd : dt = .seq its n := hd
  subst hc hd
  refine callType_new F.called_enumerate (by decide) (F.typeCall_enumerate_1 _) (F.newCall_enumerate_1 _) (fun ob => F.args_object_init_2 ob _) F.entry_enumerate_new (enumNewT l its n od sl) ⟨hl, ?_⟩
  have hz : (s.heap.push (itO l)).objs.size = s.heap.objs.size + 1 := Heap.size_push ..
  show _ ∧ _
  rw [hz]
  have he : IsEnum ((s.heap.push (itO l)).push (enO s.heap.objs.size)) (s.heap.objs.size + 1) s.heap.objs.size 0 .none := by
    have q := Heap.get?_push_size (s.heap.push (itO l)) (o := enO s.heap.objs.size) rfl
    rw [hz] at q; exact q
  exact ⟨⟨_, he, rfl⟩, h _ he ⟨_, Heap.get?_push_of_some _ (Heap.get?_push_size _ rfl), rfl, rfl⟩ (by rw [Heap.size_push, hz]) fun b o x => Heap.get?_push_of_some _ (Heap.get?_push_of_some _ x)⟩
end
/-- the tuple at a, each item in a new pair with its place -/
def IteT (K : PySem.W.Frag) (a : Addr) : It :=
  ⟨fun i H => ∃ (xs : List V) (x : V), SqT K H a xs ∧ xs[i]? = some x, fun i H v H' => ∃ T x, v = .ref T ∧ H T = none ∧ H' = upd H T (.tup [.int (i : Nat), x]) ∧ ∀ xs, SqT K H a xs → xs[i]? = some x, fun i H => ∃ xs : List V, SqT K H a xs ∧ xs.length = i⟩
theorem turn_enumT {P : Program} {w : World} {K : PySem.W.Frag} {elts : List Expr} {kk : Nat} {tpos : Pos} (a e it : Addr) :
    Turn P w K (.Tuple elts kk tpos) (IteT K a) [e, it] e (fun i h => (∃ old, IsEnum h e it ((i : Nat) : Int) old) ∧ h.IsTupleIter it a i ∧ e ≠ it) where
  mem := List.mem_cons_self
  obj := fun i h st b hb => by
    obtain ⟨⟨old, he⟩, ⟨o, ho, hc, hd⟩, _⟩ := st
    rcases List.mem_cons.mp hb with z | z
    · rw [z]; exact ⟨_, he, fun v q => nomatch q⟩
    · rw [List.mem_singleton.mp z]; exact ⟨o, ho, fun v q => by rw [hd] at q; cases q⟩
  keep := fun i h h' st k => by
    obtain ⟨⟨old, he⟩, ⟨o, ho, r⟩, hne⟩ := st
    exact ⟨⟨old, k e (by simp) _ he⟩, ⟨o, k it (by simp) o ho, r⟩, hne⟩
  item := by
    intro X hP hw hK hc i pins s σ H E I hf st hg
    subst hP hw hK
    obtain ⟨⟨old, he⟩, hit, hne⟩ := st
    obtain ⟨xs, x, hq, hx⟩ := hg
    obtain ⟨its, rv, p, hz⟩ := I.tuple hq
    obtain ⟨u, hu, ru⟩ := rv.get hx
    have el : e < s.heap.objs.size := Heap.lt_size he
    have il : it < s.heap.objs.size := by obtain ⟨_, q, _⟩ := hit; exact Heap.lt_size q
    have nai : a ≠ it := fun z => by
      obtain ⟨o, ho, oc, _⟩ := p
      obtain ⟨o2, ho2, oc2, _⟩ := hit
      rw [z, ho2] at ho
      cases ho
      rw [oc2] at oc
      injection oc with q
      exact absurd q (by decide)
    have nae : e ≠ a := fun z => by
      obtain ⟨o, ho, oc, _⟩ := p
      have he2 := he
      unfold IsEnum at he2
      rw [z, ho] at he2
      cases he2
      injection oc with q
      exact absurd q (by decide)
    have hi : i < its.toArray.size := by
      have q := (List.getElem?_eq_some_iff.mp hu).1
      simpa using q
    refine wpAny_pyNext_enum_itemD (Draws.tuple (by simpa using I.ok.hd hc) it a nai its.toArray) he ⟨hit, p⟩ hi hne (by simp [hne, nae]) fun y h' tk hy ho hst hT hsz hk => ?_
    have ey : y = u := by
      have q : its.toArray[i]? = some y := hy
      rw [List.getElem?_toArray, hu] at q
      exact (Option.some.inj q).symm
    subst ey
    refine ⟨_, rfl, wpAny_letOwnedTupleGo_enum (s := { s with heap := h', toks := tk + 1 }) ho fun h2 he' sb => ?_⟩
    have hT2 : h2.get? s.heap.objs.size = some { cls := .type "tuple", data := .seq #[.int i tk, y] } := (sb.2 _ (Nat.ne_of_gt el)).trans hT
    have nw : ObjOk X.prog X.w (upd H s.heap.objs.size (.tup [.int (i : Nat), x])) h2 s.heap.objs.size (.tup [.int (i : Nat), x]) := ⟨by show 2 ≤ sizeLine; decide, [.int i tk, y], .cons ⟨_, rfl⟩ (.cons ru .nil), ⟨_, hT2, rfl, _, rfl⟩⟩
    have I1 : Inv X pins σ (upd H s.heap.objs.size (.tup [.int (i : Nat), x])) { s with heap := h2, toks := tk + 1 } := I.turnedNew (ch := [e, it]) (fun b ob hb q => by
        have b1 : b ≠ e := fun z => hb (by simp [z])
        have b2 : b ≠ it := fun z => hb (by simp [z])
        exact (sb.2 b b1).trans (hk b ob b1 b2 q)) hf (Nat.le_refl _) nw
    refine ⟨.ref s.heap.objs.size, _, I1, rfl, ⟨_, x, rfl, I.hok.fresh (Nat.le_refl _), rfl, fun ys hy => by rw [I.tuple_inj hy hq]; exact hx⟩, ⟨⟨y, ?_⟩, ?_, hne⟩, fun b hb => ?_⟩
    · rw [show ((i + 1 : Nat) : Int) = (i : Int) + 1 by omega]; exact he'
    · obtain ⟨o, ho2, r2⟩ := hst.1
      exact ⟨o, (sb.2 it (Ne.symm hne)).trans ho2, r2⟩
    · have hb2 : b < s.heap.objs.size := by
        rcases List.mem_cons.mp hb with z | z
        · rw [z]; exact el
        · rw [List.mem_singleton.mp z]; exact il
      rw [upd_ne (Nat.ne_of_lt hb2)]
      exact (hf b hb).1
  done := by
    intro X hP hw hK hc i pins s σ H E I hf st hg
    subst hP hw hK
    obtain ⟨⟨old, he⟩, hit, hne⟩ := st
    obtain ⟨xs, hq, hx⟩ := hg
    obtain ⟨its, rv, p, hz⟩ := I.tuple hq
    obtain ⟨f0, f1, f2, f3, f4, f5⟩ := hf it (by simp)
    have hl := rv.length
    have ei : i = its.toArray.size := by simp; omega
    have nai : a ≠ it := fun z => by
      obtain ⟨o, ho, oc, _⟩ := p
      obtain ⟨o2, ho2, oc2, _⟩ := hit
      rw [z, ho2] at ho
      cases ho
      rw [oc2] at oc
      injection oc with q
      exact absurd q (by decide)
    subst ei
    exact wpAny_pyNext_enum_endD (Draws.tuple (by simpa using I.ok.hd hc) it a nai its.toArray) he ⟨hit, p⟩ fun h' eb => ⟨rfl, I.turned (t' := s.toks) (fun b o hb q => eb b o hb q) f0 f1 f3 f4 f5⟩
  self := fun A i s Q E st h => let ⟨⟨_, he⟩, _⟩ := st; wpAny_pyIter_enum he h

def iEnumT (K : PySem.W.Frag) (ta : TA) : TI := fun σ H R => ta σ H fun vs H1 => ∃ a xs, vs = [.ref a] ∧ SqT K H1 a xs ∧ R (IteT K a) H1
/-- for i, x in enumerate(t), t a tuple -/
theorem pi_enumT {X : Cx} {e : Expr} {ta : TA} {p pos tpos : Pos} {elts : List Expr} {kk : Nat} (hg : Gl X "enumerate") (hm : X.mg "enumerate" = none) (ha : PA X [e] ta) (hs : starEach [e] X.env = [(false, eval e X.env)] := by rfl) :
    PI X (.Tuple elts kk tpos) (.Call (.Name "enumerate" p) [e] [] pos) (iEnumT X.K ta) := by
  refine ⟨fun pins s σ H R I h => Call_ (ld_blt I hg hm boot_enumerate (PyProof.Rows.callWith_type1 (thn (ha.run pos pins s σ H _ I h) fun us s1 hh => ?_) hs rfl))⟩
  obtain ⟨vs, H1, I1, r1, a, xs, rfl, hq, q⟩ := hh
  cases r1 with
  | cons r rr =>
    cases rr
    cases r
    obtain ⟨its, rv, pt, hz⟩ := I1.tuple hq
    refine enumT_call pt fun h' he hit hsz hk => wpAny_pyIter_enum he ?_
    refine ⟨s1.heap.objs.size + 1, [s1.heap.objs.size + 1, s1.heap.objs.size], _, _, H1, rfl, I1.kept (t' := s1.toks) hk, turn_enumT a (s1.heap.objs.size + 1) s1.heap.objs.size, ⟨⟨.none, he⟩, hit, Nat.succ_ne_self _⟩, fun b hb => ?_, q⟩
    have hle : s1.heap.objs.size ≤ b := by
      rcases List.mem_cons.mp hb with z | z
      · rw [z]; exact Nat.le_add_right _ _
      · rw [List.mem_singleton.mp z]; exact Nat.le_refl _
    exact I1.fpOk hle (I1.hok.fresh hle)
theorem walk_enumT {K : PySem.W.Frag} {a : Addr} {xs : List V} : Walk (IteT K a) xs.length (fun H => SqT K H a xs) (YPair (fun i => some (.int (i : Nat))) (fun i => xs[i]?)) := by
  refine ⟨fun i _ hi q => ⟨xs, xs[i], q, by simp [hi]⟩, fun _ q => ⟨xs, q, rfl⟩, fun i H v H' _ q y => ?_⟩
  obtain ⟨T, x, h1, h2, h3, h4⟩ := y
  exact ⟨T, .int (i : Nat), x, h1, h2, h3, rfl, h4 xs q⟩
section
variable {K : PySem.W.Frag} {σ : L2.St} {H : Hp} {t : TT} {te : TE}
/-- [e for x in t], t a tuple -/
theorem el_lcT {a : Addr} {xs : List V} {tl : TE} {j : Nat} {vs : List Nat} (f : Nat → Bool) (v : Nat → V) (h : Ev tl σ H (.ref a)) (hx : SqT K H a xs) (hz : xs.length ≤ 40000) (hw : ∀ x, wipe ((wipe σ vs).set j (some x)) vs = wipe σ vs)
    (ht : ∀ (i : Nat) (x : V) H1, Ex H H1 → xs[i]? = some x → EvT t ((wipe σ vs).set j (some x)) H1 (f i)) (he : ∀ (i : Nat) (x : V) H1, Ex H H1 → xs[i]? = some x → f i = true → Ev te ((wipe σ vs).set j (some x)) H1 (v i)) :
    EvL (tLc (iTup K tl) (gName j) t te vs) σ H (given xs.length f v) := fun H0 e Q q => h H0 e _ fun H1 e1 => ⟨a, rfl, ⟨xs, ex_t (e.trans e1) hx⟩, fun Dl hD =>
  lc_it (walk_tup (K := K) (a := a) (xs := xs)) (Cw H1 f v Dl) ⟨hD, Ex.new hD, upd_same⟩ (fun i H' _ p => ex_t ((e.trans e1).trans p.2.1) hx)
    (fun i x H' H2 hi p y => by
      obtain ⟨rfl, hxi⟩ := y
      exact ⟨hw x, cw_turn p (by omega) (ht i x H1 (e.trans e1) hxi) (fun hf => he i x H1 (e.trans e1) hxi hf)⟩)
    (fun H' p => q Dl H' (fresh_back e1 p.1) (e1.trans p.2.1) p.2.2)⟩
theorem given_all (n : Nat) (v : Nat → V) : given n (fun _ => true) v = (List.range n).map v := by
  unfold given
  rw [List.filter_eq_self.mpr (fun _ _ => rfl)]
theorem et_yes : EvT tYes σ H true := fun H1 _ _ q => q H1 (Ex.refl H1)
/-- all([..]) of flags -/
theorem ev_allL {bs : List Bool} {ta : TE} (h : EvL ta σ H (bs.map V.bl)) : Ev (tCB (rAll K) (tCons ta tNil)) σ H (.bl (bs.all id)) := fun H1 e Q q =>
  h H1 e _ fun p H2 _ e2 hp => ⟨p, bs, rfl, sq_of hp, q H2 e2⟩
/-- all([test(x) for x in t]) -/
theorem ev_allT {a : Addr} {xs : List V} {tl : TE} {j : Nat} {vs : List Nat} (g : Nat → Bool) (h : Ev tl σ H (.ref a)) (hx : SqT K H a xs) (hz : xs.length ≤ 40000) (hw : ∀ x, wipe ((wipe σ vs).set j (some x)) vs = wipe σ vs)
    (he : ∀ (i : Nat) (x : V) H1, Ex H H1 → xs[i]? = some x → Ev te ((wipe σ vs).set j (some x)) H1 (.bl (g i))) :
    Ev (tCB (rAll K) (tCons (tLc (iTup K tl) (gName j) tYes te vs) tNil)) σ H (.bl (((List.range xs.length).map g).all id)) :=
  ev_allL (by
    have q := el_lcT (K := K) (te := te) (fun _ => true) (fun i => .bl (g i)) h hx hz hw (fun _ _ _ _ _ => et_yes) fun i x H1 e hxi _ => he i x H1 e hxi
    rw [given_all] at q
    rw [List.map_map]
    exact q)
end
section
variable {K : PySem.W.Frag} {σ : L2.St} {H : Hp} {ta tb te : TE}
theorem ev_lenT {p : Addr} {xs : List V} (ha : Ev ta σ H (.ref p)) (h : SqT K H p xs) : Ev (tCB (rLenS K) (tCons ta tNil)) σ H (.int (xs.length : Int)) := fun H1 e Q q =>
  ha H1 e _ fun H2 e2 => ⟨p, xs, rfl, Or.inr (ex_t (e.trans e2) h), q H2 e2⟩
theorem all_get {α : Type} (ds : List α) (p : α → Bool) : ((List.range ds.length).map (fun i => ((ds[i]?).map p).getD false)).all id = ds.all p := by
  have e : (List.range ds.length).map (fun i => ((ds[i]?).map p).getD false) = ds.map p := by
    apply List.ext_getElem
    · simp
    · intro i h1 h2
      have hi : i < ds.length := by simpa using h1
      simp [hi]
  rw [e, List.all_map]
  rfl
end
section
variable {K : PySem.W.Frag} {σ : L2.St} {H : Hp} {g : TG} {tu tz : TS} {D : Ends}
/-- for i, x in enumerate(t) -/
theorem s_forEn {a : Addr} {xs : List V} {tl : TE} (h : Ev tl σ H (.ref a)) (hx : SqT K H a xs) (Pv : Nat → L2.St → Hp → Prop) (h0 : ∀ H1, Ex H H1 → Pv 0 σ H1) (hl : ∀ i σ' H', i ≤ xs.length → Pv i σ' H' → SqT K H' a xs)
    (hs : ∀ i y T σ' H', xs[i]? = some y → Pv i σ' H' → H' T = none → g (.ref T) σ' (upd H' T (.tup [.int (i : Nat), y])) fun σ2 H2 => tu { D with nx := Pv (i + 1), ct := Pv (i + 1), bk := D.nx } σ2 H2) (hd : ∀ σ' H', Pv xs.length σ' H' → D.nx σ' H') : tFor (iEnumT K (tCons tl tNil)) g tu D σ H :=
  h H (Ex.refl H) _ fun H1 e => ⟨a, xs, rfl, ex_t e hx, for_it (walk_enumT (K := K) (a := a) (xs := xs)) Pv (h0 H1 e) hl (fun i x σ' H2 H3 hi p y => by
    obtain ⟨T, u, y, rfl, hT, rfl, hu, hy⟩ := y
    cases hu
    exact hs i y T σ' H2 hy p hT) hd⟩
theorem q_forEn {a : Addr} {xs : List V} {tl : TE} (h : Ev tl σ H (.ref a)) (hx : SqT K H a xs) (Pv : Nat → L2.St → Hp → Prop) (h0 : ∀ H1, Ex H H1 → Pv 0 σ H1) (hl : ∀ i σ' H', i ≤ xs.length → Pv i σ' H' → SqT K H' a xs)
    (hs : ∀ i y T σ' H', xs[i]? = some y → Pv i σ' H' → H' T = none → g (.ref T) σ' (upd H' T (.tup [.int (i : Nat), y])) fun σ2 H2 => tu { D with nx := Pv (i + 1), ct := Pv (i + 1), bk := tz D } σ2 H2) (hd : ∀ σ' H', Pv xs.length σ' H' → tz D σ' H') : tSeq (tFor (iEnumT K (tCons tl tNil)) g tu) tz D σ H :=
  s_forEn (D := { D with nx := tz D }) h hx Pv h0 hl hs hd
end
end Wk

set_option Elab.async false
set_option linter.all false
set_option maxRecDepth 100000
set_option maxHeartbeats 2000000
namespace Wk
open PySem PySem.Spec PyProof.Rows L2 Evl
def top (i : Nat) : Stmt := PySem.Challenge.pw_wishreels_k85_whole_fewest_entries_of_sm.main.body.getD i (.Pass ⟨0, 0, 0, 0⟩)
abbrev FnP (K : PySem.W.Frag) (x : Str) (st : Stmt) (f : Addr) (fd : FuncData) : Prop := FunD K x x (defArgs st) (defBody st) (defScope st) [] [] f fd
/-- names that are the built-in ones -/
structure Bl (mg : Str → Option Value) : Prop where
  isi : mg "isinstance" = none
  len : mg "len" = none
  tuple : mg "tuple" = none
  list : mg "list" = none
  int : mg "int" = none
  bool : mg "bool" = none
  str : mg "str" = none
  all : mg "all" = none
  set : mg "set" = none
  enum : mg "enumerate" = none
  range : mg "range" = none
  abs : mg "abs" = none
  min : mg "min" = none
  repr : mg "repr" = none
/-- a pure promise: a plain value, what stood stays -/
def spP (R : Hp → List V → V → Prop) : Sp := fun vs H Q _ => ∃ z, R H vs z ∧ ∀ H', Ex H H' → Q z H'
theorem spP_v {R : Hp → List V → V → Prop} {vs : List V} {H : Hp} {z : V} (h : ∀ H1, Ex H H1 → R H1 vs z) : SpV (spP R) vs H z := fun H1 e Q q E => ⟨z, h H1 e, fun H2 e2 => q H2 e2⟩
def isI : PyData → Bool
  | .int _ => true
  | _ => false
/-- what a datum is worth as an int -/
def valI : PyData → Int
  | .int i => i
  | _ => 0
theorem isI_eq {d : PyData} (h : isI d = true) : d = .int (valI d) := by
  cases d <;> first | rfl | (simp [isI] at h)
theorem kit_int (d : PyData) : ∃ b, kitB (tyN d) "int" = some b ∧ (b = true → ∃ c, kitB (tyN d) "bool" = some c ∧ (b && !c) = isI d) ∧ (b = false → isI d = false) := by
  cases d with
  | none => exact ⟨false, show kitB "NoneType" "int" = some false by decide +kernel, fun h => (by cases h), fun _ => rfl⟩
  | bool b => exact ⟨true, show kitB "bool" "int" = some true by decide +kernel, fun _ => ⟨true, show kitB "bool" "bool" = some true by decide +kernel, rfl⟩, fun h => (by cases h)⟩
  | int i => exact ⟨true, show kitB "int" "int" = some true by decide +kernel, fun _ => ⟨false, show kitB "int" "bool" = some false by decide +kernel, rfl⟩, fun h => (by cases h)⟩
  | str z => exact ⟨false, show kitB "str" "int" = some false by decide +kernel, fun h => (by cases h), fun _ => rfl⟩
  | list ds => exact ⟨false, show kitB "list" "int" = some false by decide +kernel, fun h => (by cases h), fun _ => rfl⟩
  | tuple ds => exact ⟨false, show kitB "tuple" "int" = some false by decide +kernel, fun h => (by cases h), fun _ => rfl⟩
  | dict ds => exact ⟨false, show kitB "dict" "int" = some false by decide +kernel, fun h => (by cases h), fun _ => rfl⟩
def isTu : PyData → Bool
  | .tuple _ => true
  | _ => false
def itemsT : PyData → List PyData
  | .tuple ds => ds
  | _ => []
theorem kit_tup (d : PyData) : kitB (tyN d) "tuple" = some (isTu d) := by
  cases d with
  | none => exact show kitB "NoneType" "tuple" = some false by decide +kernel
  | bool b => exact show kitB "bool" "tuple" = some false by decide +kernel
  | int i => exact show kitB "int" "tuple" = some false by decide +kernel
  | str z => exact show kitB "str" "tuple" = some false by decide +kernel
  | list ds => exact show kitB "list" "tuple" = some false by decide +kernel
  | tuple ds => exact show kitB "tuple" "tuple" = some true by decide +kernel
  | dict ds => exact show kitB "dict" "tuple" = some false by decide +kernel
def isR (n : Int) (d : PyData) : Bool := isI d && (decide (0 ≤ valI d) && decide (valI d ≤ n - 1))
section
variable {P : Program} {w : World} {K : PySem.W.Frag} {mg : Str → Option Value} {base : Heap} {f : Addr} {fd : FuncData}
/-! is_integer, _law_is_int -/
abbrev spIsInt : Sp := spP fun H vs z => ∃ v d, vs = [v] ∧ Dq H v d ∧ z = .bl (isI d)
abbrev sIsInt : Stmt := top 6
theorem scIsInt : FnScope ["thing"] ["thing"] (defScope sIsInt) := ⟨rfl, rfl, rfl, by decide +kernel, rfl, by decide +kernel, by decide +kernel⟩
theorem ok_isInt (B : Bl mg) (F : FnP K "is_integer" sIsInt f fd) : FnOk P w K mg base CX0 1 f fd ["thing"] spIsInt := by
  refine F.ok scIsInt (fun vs H Q E h => ?_) (fun cdv A outer s H vs Q E hr h => ?_)
  · obtain ⟨z, ⟨v, d, rfl, _⟩, _⟩ := h
    rfl
  · obtain ⟨z, ⟨v, d, rfl, hd, rfl⟩, k⟩ := h
    refine ⟨_, pss_one (ps_ret (pe_and (pe_callB call_isi (by rfl) B.isi boot_isinstance (pa_cons (pv 0) (pa_cons (pe_bltn (v := .ty "int") (by rfl) B.int PyProof.Rows.boot_int rfl) pa_nil)))
      (pe_one (pe_not (pe_callB call_isi (by rfl) B.isi boot_isinstance (pa_cons (pv 0) (pa_cons (pe_bltn (v := .ty "bool") (by rfl) B.bool PyProof.Rows.boot_bool rfl) pa_nil))))))), ?_⟩
    obtain ⟨b, hb, h1, h2⟩ := kit_int d
    have v0 : Ev (tVar 0) (start ["thing"] [v]) H v := ev_var rfl
    cases b with
    | true =>
      obtain ⟨c, hc, e⟩ := h1 rfl
      rw [← e] at k
      exact s_ret (ev_andV (ev_isi v0 hd hb) fun _ => ev_notV (ev_isi v0 hd hc)) k
    | false =>
      rw [h2 rfl] at k
      exact s_ret (ev_andV (b := false) (ev_isi v0 hd hb) fun z => (by cases z)) k

/-! is_between, is_router -/
abbrev spBetween : Sp := spP fun H vs z => ∃ (a b : Int) (v : V) (d : PyData), vs = [.int a, .int b, v] ∧ Dq H v d ∧ z = .bl (isI d && (decide (a ≤ valI d) && decide (valI d ≤ b)))
abbrev sBetween : Stmt := top 7
theorem scBetween : FnScope ["least", "most", "thing"] ["least", "most", "thing"] (defScope sBetween) := ⟨rfl, rfl, rfl, by decide +kernel, rfl, by decide +kernel, by decide +kernel⟩
theorem ok_between (B : Bl mg) (C : Cal P w K mg base "is_integer" ["thing"] 1 spIsInt) (F : FnP K "is_between" sBetween f fd) : FnOk P w K mg base CX0 2 f fd ["least", "most", "thing"] spBetween := by
  refine F.ok scBetween (fun vs H Q E h => ?_) (fun cdv A outer s H vs Q E hr h => ?_)
  · obtain ⟨z, ⟨a, b, v, d, rfl, _⟩, _⟩ := h
    rfl
  · obtain ⟨z, ⟨a, b, v, d, rfl, hd, rfl⟩, k⟩ := h
    refine ⟨_, pss_one (ps_ret (pe_and (pe_cal C hr (by rfl) (pa_cons (pv 2) pa_nil)) (pe_one (pe_chain op_le op_le (pv 0) (pv 2) (pv 1))))), ?_⟩
    have v0 : Ev (tVar 0) (start ["least", "most", "thing"] [.int a, .int b, v]) H (.int a) := ev_var rfl
    have v1 : Ev (tVar 1) (start ["least", "most", "thing"] [.int a, .int b, v]) H (.int b) := ev_var rfl
    have v2 : Ev (tVar 2) (start ["least", "most", "thing"] [.int a, .int b, v]) H v := ev_var rfl
    refine s_ret (ev_andV (a := isI d) (ev_call (ea_cons v2 ea_nil) (spP_v fun H1 e => ⟨v, d, rfl, hd.mono e, rfl⟩)) fun hi => ?_) k
    rw [isI_eq hi] at hd
    cases hd
    exact ev_chain v0 v2 v1 rv_I0 rv_I0
abbrev spRouter : Sp := spP fun H vs z => ∃ (n : Int) (v : V) (d : PyData), vs = [.int n, v] ∧ Dq H v d ∧ z = .bl (isR n d)
abbrev sRouter : Stmt := top 10
theorem scRouter : FnScope ["size", "thing"] ["size", "thing"] (defScope sRouter) := ⟨rfl, rfl, rfl, by decide +kernel, rfl, by decide +kernel, by decide +kernel⟩
theorem ok_router (C : Cal P w K mg base "is_between" ["least", "most", "thing"] 2 spBetween) (F : FnP K "is_router" sRouter f fd) : FnOk P w K mg base CX0 3 f fd ["size", "thing"] spRouter := by
  refine F.ok scRouter (fun vs H Q E h => ?_) (fun cdv A outer s H vs Q E hr h => ?_)
  · obtain ⟨z, ⟨n, v, d, rfl, _⟩, _⟩ := h
    rfl
  · obtain ⟨z, ⟨n, v, d, rfl, hd, rfl⟩, k⟩ := h
    refine ⟨_, pss_one (ps_ret (pe_cal C hr (by rfl) (pa_cons pe_int (pa_cons (pe_op op_sub (pv 0) pe_int) (pa_cons (pv 1) pa_nil))))), ?_⟩
    exact s_ret (ev_call (ea_cons ev_c (ea_cons (ev_op (ev_var rfl) ev_c rv_I0) (ea_cons (ev_var rfl) ea_nil))) (spP_v fun H1 e => ⟨0, n - 1, v, d, rfl, hd.mono e, rfl⟩)) k
end
end Wk

set_option Elab.async false
set_option linter.all false
set_option maxRecDepth 100000
set_option maxHeartbeats 4000000
namespace Wk
open PySem PySem.Spec PyProof.Rows L2 Evl
/-! an object made, a method called, where what is raised is wished for at the caller's slots -/
section
variable {X : Cx} {CX : CXT} {k : Nat} {f C : Addr} {fd : FuncData} {ps : List Str} {sp : Sp} {W : L2.St → XK} {x m : Str} {p pos apos : Pos} {e o : Expr} {es : List Expr} {ta : TE} {t : TA}
def tMkAt (C : Addr) (sp : Sp) (W : L2.St → XK) (t : TA) : TE := fun σ H Q => t σ H fun vs H1 => ∀ x dx, H1 x = none → H1 dx = none → dx ≠ x → sp (.ref x :: vs) (upd (upd H1 dx (.own x)) x (.ins C dx [])) (fun v H2 => v = .non ∧ Q (.ref x) H2) (W σ)
theorem pe_mkAt (M : Mk X.K C f) (Fn : FnOk X.prog X.w X.K X.mg X.base CX k f fd ps sp) (hr : Room (k + 1) X.A) (hg : Gl X x) (hm : X.mg x = some (.ref C)) (hb : Binds X.K fd ps []) (hx : ∀ σ, PassesAt CX X σ (W σ)) (ha : PA X (e :: es) t)
    (hdb : (x == ("__debug__" : Str)) = false := by decide) (he : starEach (e :: es) X.env = (false, eval e X.env) :: starEach es X.env := by rfl) (hpl : (backTo pos (starEach es X.env)).any (·.1) = false := by rfl) :
    PE X (.Call (.Name x p) (e :: es) [] pos) (tMkAt C sp W t) := by
  refine ⟨fun pins s σ H Q I h => wpAny_Call_Name_kw (ld_glob I hg hm (PySem.W.callWith_K (h₀ := X.base) I.ok.mod.kin M.kp (thn (ha.run pos pins s σ H _ I h) fun us s1 hh => ?_) he hpl) hdb)⟩
  obtain ⟨vs, H1, I1, r, q⟩ := hh
  refine ⟨I1.kIn, ?_⟩
  have hq := q (s1.heap.objs.size + 1) s1.heap.objs.size (I1.hok.fresh (Nat.le_succ _)) (I1.hok.fresh (Nat.le_refl _)) (Nat.ne_of_lt (Nat.lt_succ_self _))
  have J := Inv.made (C := C) I1
  have rr : Vals (V.ref (s1.heap.objs.size + 1) :: vs) (Value.ref (s1.heap.objs.size + 1) :: us) := .cons rfl r
  have hl : (Value.ref (s1.heap.objs.size + 1) :: us).length = ps.length := rr.length.symm.trans (Fn.len _ _ _ _ hq)
  have bd := hb _ (Value.ref (s1.heap.objs.size + 1) :: us) J.kIn (by rw [List.append_nil]; exact hl)
  rw [List.append_nil] at bd
  refine wpAny_call (make_map (f := f) I1.kIn M.makes M.init (beq_iff_eq.mp M.fn) (codeAny_mono (Fn.run _ X.stack _ _ ⟨_, []⟩ _ _ _ (W σ) (hr.make C us []) (J.env0.make C us []) bd rr hq) fun r s' out => ?_))
  cases r with
  | error er => exact hx σ pins _ _ er s' J out
  | ok fl =>
    cases fl with
    | ret u =>
      obtain ⟨v, H', I3, rv, ev, q3⟩ := J.after out
      subst ev
      exact ⟨rv, ⟨V.ref (s1.heap.objs.size + 1), H', I3, rfl, q3⟩⟩
    | next => exact False.elim out
    | brk => exact False.elim out
    | cont => exact False.elim out
def tMeAt (C : Addr) (m : Str) (sp : Sp) (W : L2.St → XK) (ta : TE) (t : TA) : TE := fun σ H Q => ta σ H fun x H1 => ∃ a dx fs, x = .ref a ∧ H1 a = some (.ins C dx fs) ∧ fs.lookup m = none ∧ t σ H1 fun vs H2 => sp (x :: vs) H2 Q (W σ)
theorem pe_meAt {pl : Sem Bool} (ho : PE X o ta) (c : Cls X.K C) (hm : Meth X.K C m f) (Fn : FnOk X.prog X.w X.K X.mg X.base CX k f fd ps sp) (hr : Room k X.A) (hb : Binds X.K fd ps []) (hx : ∀ σ, PassesAt CX X σ (W σ)) (ha : PA X (e :: es) t)
    (hst : starEach (e :: es) X.env = (false, eval e X.env) :: starEach es X.env := by rfl) (hpl : (backTo pos (starEach es X.env)).any (·.1) = false := by rfl)
    (ht : eval (.Call (.Attribute o m apos) (e :: es) [] pos) X.env = (do
      let ov ← eval o X.env
      standAt apos.atName
      let (f, first) ← holding [ov] (getMethod ov m pl)
      callWith pos f first (backTo pos (starEach (e :: es) X.env)) (backToKw pos (keywordEach [] X.env))) := by rfl) :
    PE X (.Call (.Attribute o m apos) (e :: es) [] pos) (tMeAt C m sp W ta t) := by
  refine ⟨fun pins s σ H Q I h => PySem.W.methodCall_KW (pl := pl) (thn (ho.run pins s σ H _ I h) fun u s1 hh => ?_) ht⟩
  obtain ⟨x, H1, I1, rx, a, dx, fs, ex, ea, l, q⟩ := hh
  subst ex
  obtain rfl : u = Value.ref a := rx
  refine getmeth_ok I1 ea c hm l (PySem.W.callWith_K (first := [.ref a]) (h₀ := X.base) I.ok.mod.kin hm.kp (thn (ha.run pos pins s1 σ H1 _ I1 q) fun us s2 hh => ?_) hst hpl)
  obtain ⟨vs, H2, I2, r, q2⟩ := hh
  exact ⟨I2.kIn, run_fnS (us := .ref a :: us) (vs := .ref a :: vs) Fn hr hb (hx σ) I2 (.cons rfl r) q2⟩
end
/-! an own error with one field -/
/-- __init__ of such an error: self.router = router -/
def spXI (C : Addr) : Sp := fun vs H Q _ => ∃ (a : Addr) (y : V), vs = [.ref a, y] ∧ H a = some (exo a C none) ∧ ∀ dx, H dx = none → dx ≠ a → Q .non (upd (upd H dx (exd dx [("router", y)])) a (exo a C (some dx)))
/-- X(e) is made: where the error's dict is -/
theorem mk_err {C : Addr} {te : TE} {σ : L2.St} {H : Hp} {y : V} {W : XK} (h : Ev te σ H y) (k : ∀ d H', H d = none → Ex H H' → H' d = some (.xd [("router", y)]) → W (.ref C) (some d) H') : tMkO C (spXI C) [] (tCons te tNil) σ H W := by
  refine h H (Ex.refl H) _ fun H1 e => ⟨by show 1 ≤ 1000; decide, fun a ha => ?_⟩
  refine ⟨a, y, rfl, upd_same, fun dx hd hne => ⟨rfl, dx, [("router", y)], upd_same, by rw [upd_ne hne, upd_same], ?_, ?_⟩⟩
  · rw [upd_ne hne] at hd
    exact hd
  · have hd1 : H1 dx = none := by rw [upd_ne hne] at hd; exact hd
    refine k dx _ (fresh_back e hd1) (fun b o hb => ?_) upd_same
    have hb1 := e b o hb
    have nb : b ≠ dx := ne_of_none hb1 hd1
    have na : b ≠ a := ne_of_none hb1 ha
    rw [upd_ne nb, del_ne na, upd_ne na, upd_ne nb, upd_ne na]
    exact hb1
/-! parts of tuples -/
section
variable {K : PySem.W.Frag} {σ : L2.St} {H : Hp} {ta tb te : TE}
/-- what stands in a tuple (an old one or a new one) -/
def EvS (te : TE) (σ : L2.St) (H : Hp) (xs : List V) : Prop := ∀ H1, Ex H H1 → ∀ Q : VK, (∀ p H2, Ex H1 H2 → H2 p = some (.tup xs) → Q (.ref p) H2) → te σ H1 Q
theorem es_sl {a : Addr} {xs : List V} {tl th : TO} {lo hi : Option Int} (h : Ev te σ H (.ref a)) (h1 : EvO tl σ H lo) (h2 : EvO th σ H hi) (hs : H a = some (.tup xs)) : EvS (tSl (rSlA K) te tl th) σ H (cutV xs lo hi) := fun H1 e Q q =>
  h H1 e _ fun H2 e2 => h1 H2 (e.trans e2) _ fun H3 e3 => h2 H3 ((e.trans e2).trans e3) _ fun H4 e4 => by
    have hs4 := (((e.trans e2).trans e3).trans e4) _ _ hs
    refine ⟨a, xs, rfl, st_of hs4, fun hw => ?_, fun hw p hp => q p _ (((e2.trans e3).trans e4).trans (Ex.new hp)) upd_same⟩
    have ec : cutV xs lo hi = xs := by
      unfold cutV
      rw [hw.1, hw.2]
      simp
    rw [ec] at q
    exact q a H4 ((e2.trans e3).trans e4) hs4
theorem es_cat {xs ys : List V} (ha : EvS ta σ H xs) (hb : EvS tb σ H ys) (hz : xs.length + ys.length ≤ 100000) : EvS (tOp (rCatA K) ta tb) σ H (xs ++ ys) := fun H1 e Q q =>
  ha H1 e _ fun p H2 e2 hp => hb H2 (e.trans e2) _ fun p' H3 e3 hp' => by
    have hp3 := e3 _ _ hp
    refine ⟨p, p', xs, ys, rfl, rfl, st_of hp3, st_of hp', sz_of hz, fun hx => ?_, fun _ hy => ?_, fun _ _ r hr => q r _ ((e2.trans e3).trans (Ex.new hr)) upd_same⟩
    · rw [hx] at q
      exact q p' H3 (e2.trans e3) hp'
    · rw [hy, List.append_nil] at q
      exact q p H3 (e2.trans e3) hp3
theorem es_tup {t : TA} {xs : List V} (h : EvA t σ H xs) (hz : xs.length ≤ 100000) : EvS (tTup t) σ H xs := fun H1 e Q q => eu_tup h hz H1 e Q fun p H2 _ e2 hp => q p H2 e2 hp
theorem es_var {a : Addr} {xs : List V} (h : Ev te σ H (.ref a)) (hs : H a = some (.tup xs)) : EvS te σ H xs := fun H1 e Q q => h H1 e _ fun H2 e2 => q a H2 e2 ((e.trans e2) _ _ hs)
theorem es_mono {xs : List V} {H' : Hp} (e : Ex H H') (h : EvS te σ H xs) : EvS te σ H' xs := fun H1 e1 Q q => h H1 (e.trans e1) Q q
end
/-! x in t, t a tuple of data -/
section
variable {X : Cx}
def rInU (K : PySem.W.Frag) : R2 := fun x y H Q => ∃ d ds, Dp K H x d ∧ Dp K H y (.tuple ds) ∧ SeqAt.shaped d = true ∧ PyData.canLayAll0 ds = true ∧ Q (.bl (ds.any fun z => PyData.eqv z d)) H
def rNotInU (K : PySem.W.Frag) : R2 := fun x y H Q => ∃ d ds, Dp K H x d ∧ Dp K H y (.tuple ds) ∧ SeqAt.shaped d = true ∧ PyData.canLayAll0 ds = true ∧ Q (.bl (!ds.any fun z => PyData.eqv z d)) H
theorem op_inU (hu : X.A.units + 66 < cLine) : OpR X (compareOp .In) (rInU X.K) := fun pins s σ H x y v u Q I rx ry h => by
  obtain ⟨d, ds, hd, he, sd, se, q⟩ := h
  obtain ⟨as, r1⟩ := Dp.reads I d x v hd rx
  obtain ⟨bs, r2⟩ := Dp.reads I (.tuple ds) y u he ry
  have hdp := SeqAt.depth_of_shaped sd
  exact SeqAt.in_tuple_reads r2 r1 se (SeqAt.canLay_of_shaped sd) (by have := Nat.min_le_right (PyData.depthAll ds) d.depth; omega) ⟨.bl _, H, I, rfl, q⟩
theorem op_notInU (hu : X.A.units + 66 < cLine) : OpR X (compareOp .NotIn) (rNotInU X.K) := fun pins s σ H x y v u Q I rx ry h => by
  obtain ⟨d, ds, hd, he, sd, se, q⟩ := h
  obtain ⟨as, r1⟩ := Dp.reads I d x v hd rx
  obtain ⟨bs, r2⟩ := Dp.reads I (.tuple ds) y u he ry
  have hdp := SeqAt.depth_of_shaped sd
  exact SeqAt.notIn_tuple_reads r2 r1 se (SeqAt.canLay_of_shaped sd) (by have := Nat.min_le_right (PyData.depthAll ds) d.depth; omega) ⟨.bl _, H, I, rfl, q⟩
end
end Wk

set_option Elab.async false
set_option linter.all false
set_option maxRecDepth 100000
set_option maxHeartbeats 4000000
namespace Wk
open PySem PySem.Spec PyProof.Rows L2 Evl SeqAt
/-! == of a sequence and the empty one: by the lengths alone -/
section
variable {X : Cx}
def rEqEL (K : PySem.W.Frag) : R2 := fun x y H Q => ∃ a b xs, x = .ref a ∧ y = .ref b ∧ SqL K H a xs ∧ SqL K H b [] ∧ Q (.bl xs.isEmpty) H
theorem op_eqEL (hu : X.A.units < cLine) : OpR X (compareOp .Eq) (rEqEL X.K) := fun pins s σ H x y v u Q I rx ry h => by
  obtain ⟨a, b, xs, rfl, rfl, ha, hb, q⟩ := h
  cases rx
  cases ry
  obtain ⟨its, r1, p1, _⟩ := I.list ha
  obtain ⟨its2, r2, p2, _⟩ := I.list hb
  cases r2
  cases r1 with
  | nil => exact eq_listAt (e := fun _ => true) p1.isList p2.isList rfl hu (fun j h1 _ => absurd h1 (by simp)) ⟨.bl true, H, I, rfl, q⟩
  | cons r rr => exact eq_list_lengthsAt p1.isList p2.isList (by simp) hu ⟨.bl false, H, I, rfl, q⟩
def rEqEU (K : PySem.W.Frag) : R2 := fun x y H Q => ∃ a b xs, x = .ref a ∧ y = .ref b ∧ SqT K H a xs ∧ SqT K H b [] ∧ Q (.bl xs.isEmpty) H
theorem op_eqEU (hu : X.A.units < cLine) : OpR X (compareOp .Eq) (rEqEU X.K) := fun pins s σ H x y v u Q I rx ry h => by
  obtain ⟨a, b, xs, rfl, rfl, ha, hb, q⟩ := h
  cases rx
  cases ry
  obtain ⟨its, r1, p1, _⟩ := I.tuple ha
  obtain ⟨its2, r2, p2, _⟩ := I.tuple hb
  cases r2
  refine eq_tupleAt (e := fun _ => true) p1 p2 hu (fun j _ h2 => absurd h2 (by simp)) ⟨.bl xs.isEmpty, H, I, ?_, q⟩
  cases r1 <;> rfl
def rNeEU (K : PySem.W.Frag) : R2 := fun x y H Q => ∃ a b xs, x = .ref a ∧ y = .ref b ∧ SqT K H a xs ∧ SqT K H b [] ∧ Q (.bl (!xs.isEmpty)) H
theorem op_neEU (hu : X.A.units < cLine) : OpR X (compareOp .NotEq) (rNeEU X.K) := fun pins s σ H x y v u Q I rx ry h => by
  obtain ⟨a, b, xs, rfl, rfl, ha, hb, q⟩ := h
  cases rx
  cases ry
  obtain ⟨its, r1, p1, _⟩ := I.tuple ha
  obtain ⟨its2, r2, p2, _⟩ := I.tuple hb
  cases r2
  refine RcNeAt.tuples (e := fun _ => true) p1 p2 hu (fun j _ h2 => absurd h2 (by simp)) X.prog X.w _ _ ⟨.bl (!xs.isEmpty), H, I, ?_, q⟩
  cases r1 <;> rfl
end
/-! a dict and a tuple are unlike -/
theorem dictEqTup (l b : Addr) (o : Obj) (hoc : o.cls = .type "dict") (its : Array Value) (n : Nat) (dd : Option Addr) (sl : Array (Option Value)) :
    Meets (Builtin.«dict.__eq__» ⟨[.ref l, .ref b], []⟩) (fun _ R s => s.heap.get? l = some o ∧ s.heap.get? b = some { cls := .type "tuple", dict := dd, data := .seq its n, slots := sl } ∧ R (.ok (.ret .notImplemented)) s) :=
  .of_wp fun prog w A R s h => by
    obtain ⟨hp, g, d, tk, os⟩ := s
    obtain ⟨hl, hb, h⟩ := h
    obtain ⟨oc, od, dt, os2⟩ := o
    simp only at hoc
    subst hoc
    have f1 := F.sub_tuple_dict
    wp_walk using wpAny_loadPart' hl, wpAny_loadPart' hb
    exact ⟨_, rfl, h⟩
theorem tupEqDict (l b : Addr) (o : Obj) (hoc : o.cls = .type "dict") (its : Array Value) (n : Nat) (dd : Option Addr) (sl : Array (Option Value)) :
    Meets (Builtin.«tuple.__eq__» ⟨[.ref b, .ref l], []⟩) (fun _ R s => s.heap.get? b = some { cls := .type "tuple", dict := dd, data := .seq its n, slots := sl } ∧ s.heap.get? l = some o ∧ R (.ok (.ret .notImplemented)) s) :=
  .of_wp fun prog w A R s h => by
    obtain ⟨hp, g, d, tk, os⟩ := s
    obtain ⟨hb, hl, h⟩ := h
    obtain ⟨oc, od, dt, os2⟩ := o
    simp only at hoc
    subst hoc
    have f1 := F.sub_dict_tuple
    wp_walk using wpAny_loadPart' hl, wpAny_loadPart' hb
    exact ⟨_, rfl, h⟩
section
variable {A : Around} {s : Shared}
theorem eqAt_dictTup {l b : Addr} {o : Obj} {its : Array Value} (hl : s.heap.get? l = some o) (hoc : o.cls = .type "dict") (hb : s.heap.IsTuple b its) (hu : A.units < cLine) : EqAt A s (.ref l) (.ref b) false := by
  obtain ⟨⟨c2, dd, dt, sl⟩, ho2, hc2, n, hd2⟩ := hb
  simp only at hc2 hd2
  subst hc2 hd2
  have hne : l ≠ b := fun z => by
    rw [z, ho2] at hl
    cases hl
    exact absurd hoc (by simp)
  refine EqAt.of_refs hne fun prog w E Q h => ?_
  exact rc_eq_decline_or (k := false) ⟨_, hl, hoc⟩ ⟨_, ho2, rfl⟩ (by decide) F.sub_tuple_dict F.slot_dict_eq F.slot_tuple_eq_refl
    (fun _ hq => call_meets F.slot_dict_eq ⟨_, hl, hoc⟩ F.entry_dict_eq (F.args_dict_eq_2 _ _) (dictEqTup l b o hoc its n dd sl) ⟨hl, ho2, hq⟩)
    (fun _ hq => call_meets F.slot_tuple_eq_refl ⟨_, ho2, rfl⟩ F.entry_tuple_eq (F.args_tuple_eq_2 _ _) (tupEqDict l b o hoc its n dd sl) ⟨ho2, hl, hq⟩)
    (fun _ hq => wpAny_isSame_ref_other hne hl ho2 (by rw [hoc]; simp) hq) (.inr hu) h
end
/-- an item of an edited row -/
def Itm (d : PyData) : Prop := d = .dict [] ∨ (d.canLay0 = true ∧ d.depth ≤ 8)
section
variable {X : Cx}
/-- x not in l, l a list of such items, x a tuple: a flag -/
def rNotInX (K : PySem.W.Frag) : R2 := fun x y H Q => ∃ a p ds vs es, x = .ref a ∧ y = .ref p ∧ H p = some (.lst vs) ∧ DqA H vs ds ∧ (∀ d ∈ ds, Itm d) ∧ Dq H (.ref a) (.tuple es) ∧ PyData.canLay0 (.tuple es) = true ∧ ∀ b : Bool, Q (.bl b) H
theorem op_notInX (hu : X.A.units + 66 < cLine) : OpR X (compareOp .NotIn) (rNotInX X.K) := fun pins s σ H x y v u Q I rx ry h => by
  obtain ⟨a, p, ds, vs, es, rfl, rfl, hp, hds, hi, hx, cx, q⟩ := h
  cases rx
  cases ry
  obtain ⟨its, r1, p1, _⟩ := I.list (sq_of hp)
  have hxp := hx
  cases hxp with
  | tup h1 h2 =>
    obtain ⟨as, rx⟩ := Dp.reads I (.tuple es) (.ref a) (.ref a) (Dq.dp (K := X.K) cx hx) rfl
    obtain ⟨its2, r2, p2, _⟩ := I.tuple (st_of h1)
    have key : ∀ y ∈ its, ∃ b, EqAt X.A.in1 s y (.ref a) b := fun y hy => by
      obtain ⟨i, hiy⟩ := List.mem_iff_getElem?.mp hy
      have hil : i < vs.length := by
        have := (List.getElem?_eq_some_iff.mp hiy).1
        rw [r1.length]; exact this
      have hv : vs[i]? = some vs[i] := List.getElem?_eq_getElem hil
      obtain ⟨u2, hu2, ru⟩ := r1.get hv
      rw [hiy] at hu2
      cases hu2
      obtain ⟨d, ed, hd⟩ := hds.get hv
      rcases hi d (List.mem_of_getElem? ed) with z | ⟨z, zd⟩
      · subst z
        generalize hvv : vs[i] = vv at *
        cases hd with
        | dic hdd =>
          cases ru
          obtain ⟨_, _, vs2, _, o, es2, ep, g1, g2, _⟩ := (show ObjOk X.prog X.w H s.heap _ (.dK []) from I.hok _ _ hdd)
          exact ⟨false, eqAt_dictTup g1 g2.1 p2 (by show X.A.in1.units < cLine; simp; omega)⟩
      · obtain ⟨bs, ry⟩ := Dp.reads I d vs[i] y (Dq.dp (K := X.K) z hd) ru
        exact ⟨_, eqAt_reads d (.tuple es) X.A.in1 s y (.ref a) bs as ry rx z cx (by
          have hm := Nat.min_le_left d.depth (PyData.tuple es).depth
          show X.A.in1.units + _ < cLine
          simp
          omega)⟩
    have key2 : ∃ e : Value → Bool, ∀ y, y ∈ its.toArray → EqAt X.A.in1 s y (.ref a) (e y) := by
      refine ⟨fun y => @decide (EqAt X.A.in1 s y (.ref a) true) (Classical.propDecidable _), fun y hy => ?_⟩
      obtain ⟨b, hb⟩ := key y (by simpa using hy)
      by_cases c : EqAt X.A.in1 s y (.ref a) true
      · simp only [c, decide_true]
      · simp only [c, decide_false]
        cases b with
        | false => exact hb
        | true => exact absurd hb c
    obtain ⟨e, he⟩ := key2
    exact notIn_listAt e p1.isList he ⟨.bl _, H, I, rfl, q _⟩
end
end Wk

set_option Elab.async false
set_option linter.all false
set_option maxRecDepth 100000
set_option maxHeartbeats 2000000
namespace Wk
open PySem PySem.Spec PyProof.Rows L2 Evl
theorem cut_to (xs : List V) (i : Nat) (h : i ≤ xs.length) : cutV xs none (some (i : Int)) = xs.take i := by
  unfold cutV
  rw [HT.sIx_none, HT.sIx_nat, Nat.min_eq_left h]
  simp
theorem flat_ints (ns : List Int) : (ns.map V.int).all flatV = true := by
  rw [List.all_map, List.all_eq_true]
  intro x _
  rfl
theorem cut_from (xs : List V) (i : Nat) (h : i ≤ xs.length) : cutV xs (some (i : Int)) none = xs.drop i := by
  unfold cutV
  rw [HT.sIx_nat, HT.sIx_none, Nat.min_eq_left h]
  exact List.take_of_length_le (by simp)
theorem seqIx {k n : Nat} (h : k < n) : seqIndex? (k : Int) n = some k := by
  have q := ixN_seq (n := n) (i := (k : Int)) (j := k) (by
    unfold ixN
    rw [if_pos (by omega), if_pos (by omega)]
    simp)
  exact q.1
theorem ix_listK {X : Cx} {K : PySem.W.Frag} (hK : X.K = K) : IxR X (rIxL K) := by
  subst hK
  exact ix_list
theorem ixNat {n : Nat} {x : Int} (h0 : 0 ≤ x) (h1 : x < n) : ixN n x = some x.toNat := by
  unfold ixN
  rw [if_pos h0, if_pos h1]
theorem at_ints {os : List Int} {j : Nat} (h : j < os.length) : atI (os.map V.int) (j : Int) = some (.int os[j]) := atI_nat (by rw [List.getElem?_map, List.getElem?_eq_getElem h]; rfl)
theorem g_name {i : Nat} {x : V} {σ : L2.St} {H : Hp} {k : L2.St → Hp → Prop} (h : k (σ.set i (some x)) H) : gName i x σ H k := h
theorem asg_lst1 {te : TE} {g : TG} {D : Ends} {σ : L2.St} {H : Hp} (h : te σ H fun x H1 => 1 ≤ sizeLine ∧ ∀ b, H1 b = none → g (.ref b) σ (upd H1 b (.lst [x])) D.nx) : tAsg (tLst (tCons te tNil)) g D σ H := h
theorem cb1 {r : List V → Hp → VK → Prop} {ta : TE} {σ : L2.St} {H : Hp} {Q : VK} (h : ta σ H fun x H1 => r [x] H1 Q) : tCB r (tCons ta tNil) σ H Q := h
theorem q_c {i : Nat} {v : V} {tz : TS} {D : Ends} {σ : L2.St} {H : Hp} (h : tz D (σ.set i (some v)) H) : tSeq (tAsg (tC v) (gName i)) tz D σ H := h
theorem call_tupleK {X : Cx} {K : PySem.W.Frag} (hK : X.K = K) : CallR X (.type "tuple") (fun xs H Q => ∃ p ys, xs = [.ref p] ∧ ((SqL K H p ys ∧ ∀ l, H l = none → Q (.ref l) (upd H l (.tup ys))) ∨ (SqT K H p ys ∧ Q (.ref p) H))) := by
  subst hK
  exact call_tuple_of
theorem ret_cb {r : List V → Hp → VK → Prop} {ta : TE} {D : Ends} {σ : L2.St} {H : Hp} (h : ta σ H fun x H1 => r [x] H1 D.rt) : tRet (tCB r (tCons ta tNil)) D σ H := h
theorem ret_op {r : R2} {ta tb : TE} {D : Ends} {σ : L2.St} {H : Hp} (h : ta σ H fun x H1 => tb σ H1 fun y H2 => r x y H2 D.rt) : tRet (tOp r ta tb) D σ H := h
theorem call_listK2 {X : Cx} {K : PySem.W.Frag} (hK : X.K = K) : CallR X (.type "list") (fun xs H Q => ∃ p ys, xs = [.ref p] ∧ (SqL K H p ys ∨ SqT K H p ys) ∧ ∀ l, H l = none → Q (.ref l) (upd H l (.lst ys))) := by
  subst hK
  exact call_list_of
theorem take_snoc {α : Type} {l : List α} {i : Nat} {x : α} (h : l[i]? = some x) : l.take (i + 1) = l.take i ++ [x] := by
  rw [List.take_add_one, h]
  rfl
theorem ev_inS {K : PySem.W.Frag} {σ : L2.St} {H : Hp} {ta tb : TE} {x : V} {xs : List V} (ha : Ev ta σ H x) (hb : EvS tb σ H xs) (hx : flatV x = true) (hf : xs.all flatV = true) : Ev (tOp (rIn K false) ta tb) σ H (.bl (inV x xs)) := fun H1 e Q q =>
  ha H1 e _ fun H2 e2 => hb H2 (e.trans e2) _ fun p H3 e3 hp => ⟨p, xs, rfl, .inr (st_of hp), hx, hf, q H3 (e2.trans e3)⟩
theorem modP (a b : Int) (h : 0 < b) : 0 ≤ a % b ∧ a % b < b := ⟨Int.emod_nonneg _ (by omega), Int.emod_lt_of_pos _ h⟩
theorem q_asgW {te : TE} {tz : TS} {D : Ends} {σ : L2.St} {H : Hp} {i : Nat} (h : te σ H fun x H1 => tz D (σ.set i (some x)) H1) : tSeq (tAsg te (gName i)) tz D σ H := h
end Wk


set_option Elab.async false
set_option linter.all false
set_option maxRecDepth 100000
set_option maxHeartbeats 2000000
namespace Wk
open L2 PySem PySem.Spec PyProof.Rows
section
variable {X : Cx}
/-- one entry more by a comprehension, in a dict of either kind of keys -/
theorem put_dp {ps : List (Addr × Obj)} {σ : L2.St} {H Hn : Hp} {s : Shared} {D : Addr} {y z : V} {u r : Value}
    {E : Value → Shared → Prop} {Q : Unit → Shared → Prop} (hu : X.A.units < cLine) (I : Inv X ps σ H s)
    (g : DPut H D y z Hn) (ry : L2.RelV y u) (rz : L2.RelV z r) (h : ∀ s', Inv X ps σ Hn s' → Q () s') :
    wpAny (model X.prog X.w) X.A (dictSet D u r) Q E s := by
  rcases g with ⟨kvs, k, e, rfl, l, rfl⟩ | ⟨kvs, k, b, e, rfl, eb, l, rfl⟩
  · exact d_dictSet I e l ry rz h
  · obtain rfl : u = Value.ref b := ry
    obtain ⟨z1, nd, xs, rel, dd⟩ := dt_of I.hok e
    have l1 := length_putK kvs k z
    refine wpAny_dictSet_heap (hsz := by rw [← Paired.length rel]; exact z1) hu (key_of I.hok eb) dd
      fun h1 d1 sb => h _ ?_
    obtain ⟨q, es, ep, hq, a1, a2, a3, _, a4⟩ := d1
    refine d_write I (by rw [e]; trivial) sb ⟨q, hq⟩ ⟨by omega, nd, _, (rel.put k eb rz).keeps ?_, q, es, ep, hq, a1, a2, a3, a4⟩
    intro c ys ec
    exact (upd_ne (ne_of ec e (by intro z; cases z))).trans ec
end
/-- what one item does: the target, the tests, then key, value and the entry -/
def dqStep (g : TG) (tt : TT) (tk tv : TE) (vs : List Nat) (D : Addr) (Nx : Hp → Prop) (σ : L2.St) (x : V) (H : Hp) : Prop :=
  g x (wipe σ vs) H fun σa Ha => wipe σa vs = wipe σ vs ∧ tt σa Ha fun b Hb =>
    if b = true then tk σa Hb fun y Hc => tv σa Hc fun z Hd => ∃ Hn, DPut Hd D y z Hn ∧ Nx Hn
    else Nx Hb
/-- the walk of such a comprehension by a measure -/
def dqWalk (J : It) (step : (Hp → Prop) → V → Hp → Prop) (Qs : Hp → Prop) (W : Nat → Nat → Hp → Prop) : Prop :=
  ∀ i m H, W i m H → (J.stop i H ∧ Qs H) ∨
    (J.go i H ∧ ∃ Nx : Hp → Prop, (∀ Ha, Nx Ha → ∃ k, k < m ∧ W (i + 1) k Ha) ∧ ∀ x Ha, J.yld i H x Ha → step Nx x Ha)
theorem dq_loop {Y : Cx} {σ : L2.St} {vs : List Nat} {R : Result → Shared → Prop} {J : It} {fp : List Addr} {it D : Addr}
    {tn : Nat → Heap → Prop} {kx vx tg iter : Expr} {ifs : List Expr} {scope : Scope} {pos : Pos} {g : TG} {tt : TT} {tk tv : TE}
    {W : Nat → Nat → Hp → Prop} {Qs : Hp → Prop} (hc : Y.calm = true) (hx : Y.xe = fun _ _ => False) (hu : Y.A.units < cLine)
    (T : Turn Y.prog Y.w Y.K tg J fp it tn) (pg : PG Y tg g) (pt : PTs Y ifs tt) (pk : PE Y kx tk) (pv : PE Y vx tv)
    (own : ∀ {σ' : L2.St} {H' : Hp} {s' : Shared}, Inv Y [] σ' H' s' → (∀ b ∈ fp, H' b = none) → ∀ b ∈ fp, FpOk Y [] H' b)
    (walk : dqWalk J (fun Nx x H => dqStep g tt tk tv vs D Nx σ x H) Qs W)
    (last : ∀ H s, Inv Y [] (wipe σ vs) H s → Qs H → R (.ok .next) s)
    {m : Nat} {H : Hp} {s : Shared} (I : Inv Y [] (wipe σ vs) H s) (st : tn 0 s.heap) (nf : ∀ b ∈ fp, H b = none) (w : W 0 m H) :
    codeAny (model Y.prog Y.w) Y.A
      (.compLoop (.DictComp kx vx [⟨tg, iter, ifs, 0⟩] scope pos) 0 (.ref it) (.ref D) Y.env) R s := by
  refine compLoop_anyD (fun k s1 => ∃ i H1, Inv Y [] (wipe σ vs) H1 s1 ∧ tn i s1.heap ∧ (∀ b ∈ fp, H1 b = none) ∧ W i k H1)
    (fun k s1 hk => ?_) m ⟨0, H, I, st, nf, w⟩
  obtain ⟨i, H1, I1, st1, nf1, w1⟩ := hk
  cases walk i k H1 w1 with
  | inl e =>
    refine thnF (T.done Y rfl rfl rfl hc i [] s1 _ H1 (fun _ _ => False) I1 (own I1 nf1) st1 e.1) ?_
    rintro _ s2 ⟨rfl, I2⟩
    exact last H1 s2 I2 e.2
  | inr e =>
    obtain ⟨go, Nx, less, step⟩ := e
    refine thnF (T.item Y rfl rfl rfl hc i [] s1 _ H1 (fun _ _ => False) I1 (own I1 nf1) st1 go) ?_
    rintro _ s2 ⟨u, rfl, it2⟩
    refine thnF it2 ?_
    rintro _ s3 ⟨x, H3, I3, rx, yx, st3, nf3⟩
    have pin := I3.pinned (own I3 nf3) (T.obj _ _ st3)
    have t1 := pg.run _ s3 _ H3 x u _ pin rx (step x H3 yx)
    rw [hx] at t1
    refine thnF t1 ?_
    rintro _ s4 ⟨σ4, H4, I4, ew, q4⟩
    have back : ∀ {s9 : Shared} {H9 : Hp}, Inv Y ([] ++ pinsAt fp s3.heap) σ4 H9 s9 → Nx H9 →
        ∃ j, j < k ∧ ∃ i' H', Inv Y [] (wipe σ vs) H' s9 ∧ tn i' s9.heap ∧ (∀ b ∈ fp, H' b = none) ∧ W i' j H' := by
      intro s9 H9 I9 nx
      obtain ⟨j, lt, wj⟩ := less H9 nx
      have same : ∀ b ∈ fp, ∀ o, s3.heap.get? b = some o → s9.heap.get? b = some o ∧ H9 b = none := by
        intro b hb o eo
        have a := I9.pin (b, o) (List.mem_append_right _ (List.mem_append_right _ (mem_pinsAt hb eo)))
        exact ⟨a.1, a.2.1⟩
      refine ⟨j, lt, i + 1, H9, ?_, T.keep _ _ _ st3 fun b hb o eo => (same b hb o eo).1, ?_, wj⟩
      · refine (I9.unpinned (pins := [])).weak (by rw [← ew, wipe_length]) ?_
        intro n v en
        rw [← ew] at en
        exact (wipe_some en).1
      · intro b hb
        obtain ⟨o, eo, _⟩ := T.obj _ _ st3 b hb
        exact (same b hb o eo).2
    have t2 := pt.run _ s4 σ4 H4 _ I4 q4
    rw [hx] at t2
    refine thnF t2 ?_
    rintro b s5 ⟨H5, I5, q5⟩
    cases b with
    | false => exact back I5 q5
    | true =>
      have t3 := pk.run _ s5 σ4 H5 _ I5 q5
      rw [hx] at t3
      refine thnF t3 ?_
      rintro ky s6 ⟨y, H6, I6, ry, q6⟩
      have t4 := pv.run _ s6 σ4 H6 _ I6 q6
      rw [hx] at t4
      refine thnF t4 ?_
      rintro vy s7 ⟨z, H7, I7, rz, Hn, put, nx⟩
      exact put_dp hu I7 put ry rz fun s8 I8 => back I8 nx
/-- {k: v for .. in .. if ..}, keys tuples -/
def tDq (wi : TI) (g : TG) (tt : TT) (tk tv : TE) (vs : List Nat) : TE := fun σ H Q => wi σ H fun J H1 => ∀ D, H1 D = none →
  ∃ W : Nat → Nat → Hp → Prop, (∃ m, W 0 m (upd H1 D (.dT []))) ∧
    dqWalk J (fun Nx x Ha => dqStep g tt tk tv vs D Nx σ x Ha) (fun Ha => Q (.ref D) Ha) W
/-- the context of the block -/
abbrev Bq (X : Cx) (scope : Scope) (s : Shared) (H : Hp) (C : Addr) (cl : List (Str × Addr)) (fp : List Addr) : Cx :=
  X.blk s H scope (compEnvC scope cl C X.env) fp
theorem pe_dq {X : Cx} {kx vx tg iter : Expr} {ifs : List Expr} {scope : Scope} {own : List (Str × Nat)} {pos : Pos}
    {wi : TI} {g : TG} {tt : TT} {tk tv : TE} (hc : X.calm = true) (hu : X.A.units + 1 < cLine) (hN : X.N.Nodup)
    (hi : PI X tg iter wi) (ok : BlkOk X.N X.env.scope scope own) (hg : ∀ s H C cl fp, PG (Bq X scope s H C cl fp) tg g)
    (ht : ∀ s H C cl fp, PTs (Bq X scope s H C cl fp) ifs tt) (hk : ∀ s H C cl fp, PE (Bq X scope s H C cl fp) kx tk)
    (he : ∀ s H C cl fp, PE (Bq X scope s H C cl fp) vx tv) (hs : ∀ x, foldedSetIterable iter X.env x = pure x := by intro _; rfl) :
    PE X (.DictComp kx vx [⟨tg, iter, ifs, 0⟩] scope pos) (tDq wi g tt tk tv (own.map (·.2))) := by
  constructor
  intro ps s σ H Q I h
  rw [arm_eval_DictComp]
  have look : ∀ y ∈ scope.names, y.2 = .free → ∃ c, X.env.cells.lookup y.1 = some c := by
    intro y hy e
    exact I.ok.has _ (ok.free y hy e)
  refine wpAny_comprehension_free (use := none) rfl hs (closure_ok look) ok.kind (fun y hy e => (ok.uniq y hy).trans (by rw [e])) ?_
  refine thn (hi.run ps s σ H _ I h) ?_
  intro xv s1 h1
  refine thn h1 ?_
  rintro _ s2 ⟨it, fp, tn, J, H2, rfl, I2, T, st2, f2, q⟩
  refine wpAny_newObj_type ?_
  refine newEnv_comp ?_
  obtain ⟨D, hD⟩ : ∃ D, D = s2.heap.objs.size := ⟨_, rfl⟩
  rw [← hD]
  obtain ⟨W, ⟨m0, w0⟩, walk⟩ := q D (I2.hok.fresh (Nat.le_of_eq hD.symm))
  obtain ⟨s3, e3⟩ : ∃ s3 : Shared, s3 = { s2 with heap := s2.heap.push { cls := .type "dict", data := .dict #[] } } := ⟨_, rfl⟩
  have g3 : ∀ b o, s2.heap.get? b = some o → s3.heap.get? b = some o := by
    intro b o e
    rw [e3]
    exact Heap.get?_push_of_some _ (by exact e)
  have I3 : Inv X ps σ (upd H2 D (.dT [])) s3 := by
    rw [e3, hD]
    exact I2.laid (t' := s2.toks) (fun b o e => Heap.get?_push_of_some _ e) (Nat.le_refl _) (dt_empty s2.heap I2.big)
  rw [← e3]
  obtain ⟨H3, eH3⟩ : ∃ H3, H3 = upd H2 D (.dT []) := ⟨_, rfl⟩
  rw [← eH3] at I3 w0
  have f3 : ∀ b ∈ fp, FpOk X ps H3 b ∧ b < s3.heap.objs.size := by
    intro b hb
    obtain ⟨o, e, _⟩ := T.obj 0 _ st2 b hb
    refine ⟨⟨?_, (f2 b hb).2⟩, Heap.lt_size (g3 b o e)⟩
    rw [eH3, upd_ne (by rw [hD]; exact Nat.ne_of_lt (Heap.lt_size e))]
    exact (f2 b hb).1
  have st3 : tn 0 s3.heap := T.keep _ _ _ st2 fun b _ o e => g3 b o e
  have Ib := block_start I3 ok hN f3
  obtain ⟨C, hC⟩ : ∃ C, C = s3.heap.objs.size := ⟨_, rfl⟩
  rw [← hC] at Ib ⊢
  obtain ⟨cl, ecl⟩ : ∃ cl, cl = cellsFrom (C + 1) scope.names (cloFrom X.env.cells scope.names []) := ⟨_, rfl⟩
  rw [← ecl] at Ib ⊢
  have st4 : tn 0 (pushCells (s3.heap.push { cls := .type "dict", data := .dict #[] }) scope.names) := T.keep _ _ _ st3 fun b _ o e =>
    pushCells_keeps _ _ _ _ (Heap.get?_push_of_some _ e)
  have loop : codeAny (model X.prog X.w) X.A
      (.compLoop (.DictComp kx vx [⟨tg, iter, ifs, 0⟩] scope pos) 0 (.ref it) (.ref D) (compEnvC scope cl C X.env))
      (compPost (model X.prog X.w) X.A X.xe none (EP X ps σ Q) (.ref D) C)
      { s3 with heap := pushCells (s3.heap.push { cls := .type "dict", data := .dict #[] }) scope.names } := by
    refine dq_loop (Y := Bq X scope s3 H3 C cl fp) (σ := σ) hc rfl (Nat.lt_of_succ_lt hu) T (hg s3 H3 C cl fp)
      (ht s3 H3 C cl fp) (hk s3 H3 C cl fp) (he s3 H3 C cl fp) ?_ walk ?_ Ib st4 (fun b hb => (f3 b hb).1.1) w0
    · intro σ' H' s' I' nf b hb
      refine ⟨nf b hb, (I'.ok.exf b hb).1, I'.ok.exfs b hb, .inl hb, fun x c e => (I'.ok.exf b hb).2 x c e, ?_⟩
      intro p hp
      exact absurd (show p ∈ ([] : List (Addr × Obj)) ++ [] from hp) (by simp)
    · intro H6 s6 I6 q6
      have I7 : Inv X ps σ H6 s6 := by
        refine I3.call' (ch := fp) I6.os I6.base I6.hok I6.bare ?_
        intro b hb
        obtain ⟨_, n1, _, n2, n3, n4⟩ := (f3 b hb).1
        exact ⟨n2, n1, n3, n4⟩
      obtain ⟨m, hn, _⟩ := I6.loc
      refine ⟨m, hn, fun h' sb => ?_⟩
      obtain ⟨n0, n1, n2, n3, n4, n5⟩ := I3.fpOk (b := C) (Nat.le_of_eq hC.symm) (show H6 C = none from I6.free)
      refine ⟨.ref D, H6, ?_, rfl, q6⟩
      exact I7.turned (t' := s6.toks) (fun b o hb e => (sb.2 b hb).trans e) n0 n1 n3 n4 n5
  exact codeAny_compStart_dict loop (T.self _ 0 _ _ _ st4 loop)
end Wk

set_option Elab.async false
set_option linter.all false
set_option maxRecDepth 100000
set_option maxHeartbeats 2000000
namespace Wk
open L2 PySem PySem.Spec PyProof.Rows Evl
/-- the items that a comprehension has put, item j of the source by Y j -/
def Grown (Y : Nat → V → Hp → Prop) (H : Hp) : List Nat → List V → Prop
  | [], us => us = []
  | j :: js, us => ∃ u r, us = u :: r ∧ Y j u H ∧ Grown Y H js r
def UpY (Y : Nat → V → Hp → Prop) : Prop := ∀ i u H H', Ex H H' → Y i u H → Y i u H'
theorem Grown.up {Y : Nat → V → Hp → Prop} (hY : UpY Y) {H H' : Hp} (e : Ex H H') : ∀ {js : List Nat} {us : List V}, Grown Y H js us → Grown Y H' js us
  | [], _, h => h
  | j :: js, _, ⟨u, r, h1, h2, h3⟩ => ⟨u, r, h1, hY j u H H' e h2, Grown.up hY e h3⟩
theorem Grown.snoc {Y : Nat → V → Hp → Prop} {H : Hp} {j : Nat} {u : V} (h : Y j u H) : ∀ {js : List Nat} {us : List V}, Grown Y H js us → Grown Y H (js ++ [j]) (us ++ [u])
  | [], _, h0 => by
    rw [show _ = [] from h0]
    exact ⟨u, [], rfl, h, rfl⟩
  | k :: js, _, ⟨v, r, h1, h2, h3⟩ => by
    subst h1
    exact ⟨v, r ++ [u], rfl, h2, Grown.snoc h h3⟩
theorem Grown.len {Y : Nat → V → Hp → Prop} {H : Hp} : ∀ {js : List Nat} {us : List V}, Grown Y H js us → us.length = js.length
  | [], _, h0 => by
    rw [show _ = [] from h0]
    rfl
  | k :: js, _, ⟨v, r, h1, h2, h3⟩ => by
    subst h1
    simp [Grown.len h3]
def upTo (f : Nat → Bool) (i : Nat) : List Nat := (List.range i).filter f
theorem upTo_yes {f : Nat → Bool} {i : Nat} (h : f i = true) : upTo f (i + 1) = upTo f i ++ [i] := by
  unfold upTo
  rw [List.range_succ, List.filter_append]
  simp [h]
theorem upTo_no {f : Nat → Bool} {i : Nat} (h : f i = false) : upTo f (i + 1) = upTo f i := by
  unfold upTo
  rw [List.range_succ, List.filter_append]
  simp [h]
theorem upTo_len (f : Nat → Bool) (i : Nat) : (upTo f i).length ≤ i := by
  unfold upTo
  have h := List.length_filter_le f (List.range i)
  rw [List.length_range] at h
  exact h
/-- what is evaluated is told by Y, the heap may grow -/
def EvY (te : TE) (σ : L2.St) (H : Hp) (Y : V → Hp → Prop) : Prop := ∀ H1, Ex H H1 → ∀ Q : VK, (∀ u H2, Ex H1 H2 → Y u H2 → Q u H2) → te σ H1 Q
def off (D : Addr) (H : Hp) : Hp := fun a => if a = D then none else H a
theorem off_ex {D : Addr} {H H' : Hp} (e : Ex H H') : Ex (off D H) (off D H') := fun a o h => by
  unfold off at h ⊢
  by_cases z : a = D
  · rw [if_pos z] at h
    cases h
  · rw [if_neg z] at h ⊢
    exact e a o h
theorem off_in (D : Addr) (H : Hp) : Ex (off D H) H := fun a o h => by
  unfold off at h
  split at h
  · cases h
  · exact h
theorem off_upd {D : Addr} {H : Hp} {o : HO} : off D (upd H D o) = off D H := by
  funext a
  unfold off upd
  split <;> rfl
theorem off_at {D a : Addr} {H : Hp} (h : a ≠ D) : off D H a = H a := by
  unfold off
  rw [if_neg h]
/-- a word of an item that outlives new objects and does not speak of lists -/
structure GoodY (Y : Nat → V → Hp → Prop) : Prop where
  up : UpY Y
  off : ∀ i u H D l, H D = some (.lst l) → Y i u H → Y i u (Wk.off D H)
def Gw (Y : Nat → V → Hp → Prop) (H : Hp) (f : Nat → Bool) (D : Addr) (i : Nat) (H' : Hp) : Prop :=
  H D = none ∧ Ex H H' ∧ ∃ us, H' D = some (.lst us) ∧ Grown Y (off D H') (upTo f i) us
theorem gw_turn {Y : Nat → V → Hp → Prop} (hY : GoodY Y) {H H' : Hp} {f : Nat → Bool} {D : Addr} {i : Nat} {t : TT} {te : TE} {σ2 : L2.St} (p : Gw Y H f D i H') (hi : i < 50000)
    (ht : EvT t σ2 H' (f i)) (he : f i = true → EvY te σ2 H' (Y i)) :
    t σ2 H' fun b H3 => if b = true then te σ2 H3 fun y H4 => ∃ acc, H4 D = some (.lst acc) ∧ acc.length < sizeLine ∧ Gw Y H f D (i + 1) (upd H4 D (.lst (acc ++ [y])))
      else Gw Y H f D (i + 1) H3 := by
  obtain ⟨p1, p2, us, p3, p4⟩ := p
  refine ht H' (Ex.refl _) _ fun H3 e3 => ?_
  cases hf : f i with
  | false =>
    refine ⟨p1, p2.trans e3, us, e3 _ _ p3, ?_⟩
    rw [upTo_no hf]
    exact p4.up hY.up (off_ex e3)
  | true =>
    refine he hf H3 e3 _ fun u H4 e4 y => ?_
    have d4 := e4 _ _ (e3 _ _ p3)
    have l1 := p4.len
    have l2 := upTo_len f i
    refine ⟨us, d4, sz_lt (by omega), p1, Ex.mut ((p2.trans e3).trans e4) p1, us ++ [u], upd_same, ?_⟩
    rw [upTo_yes hf, off_upd]
    exact Grown.snoc (hY.off i u H4 D us d4 y) (p4.up hY.up (off_ex (e3.trans e4)))
/-- a list comprehension whose items may be new objects -/
theorem grow_lc {J : It} {n : Nat} {Gd : Hp → Prop} {Yx : Nat → V → Prop} {Y : Nat → V → Hp → Prop} {j : Nat} {vs : List Nat} {σ : L2.St} {H : Hp} {D : Addr} {Qd : Hp → Prop} {t : TT} {te : TE}
    (w : Walk J n Gd (fun i H x H' => H' = H ∧ Yx i x)) (hY : GoodY Y) (f : Nat → Bool) (hD : H D = none) (hn : n ≤ 40000) (hG : ∀ H', Ex H H' → Gd H') (hw : ∀ x, wipe ((wipe σ vs).set j (some x)) vs = wipe σ vs)
    (ht : ∀ i x H', Ex H H' → i < n → Yx i x → EvT t ((wipe σ vs).set j (some x)) H' (f i)) (he : ∀ i x H', Ex H H' → i < n → Yx i x → f i = true → EvY te ((wipe σ vs).set j (some x)) H' (Y i))
    (hq : ∀ us H', Ex H H' → H' D = some (.lst us) → Grown Y H' (upTo f n) us → Qd H') :
    ∃ W : Nat → Nat → Hp → Prop, (∃ m, W 0 m (upd H D (.lst []))) ∧ ∀ i m H, W i m H →
      (J.stop i H ∧ Qd H) ∨ (J.go i H ∧ ∃ Nx : Hp → Prop, (∀ H', Nx H' → ∃ m', m' < m ∧ W (i + 1) m' H') ∧ ∀ x H', J.yld i H x H' → gName j x (wipe σ vs) H' fun σ2 H2 => wipe σ2 vs = wipe σ vs ∧ t σ2 H2 fun b H3 =>
        if b = true then te σ2 H3 fun y H4 => ∃ acc, H4 D = some (.lst acc) ∧ acc.length < sizeLine ∧ Nx (upd H4 D (.lst (acc ++ [y]))) else Nx H3) := by
  refine lc_it w (Gw Y H f D) ⟨hD, Ex.new hD, [], upd_same, rfl⟩ (fun i H' _ p => hG H' p.2.1) (fun i x H' H2 hi p y => ?_) (fun H' p => ?_)
  · obtain ⟨rfl, yx⟩ := y
    exact ⟨hw x, gw_turn hY p (by omega) (ht i x _ p.2.1 hi yx) (fun hf => he i x _ p.2.1 hi yx hf)⟩
  · obtain ⟨_, e, us, d, g⟩ := p
    exact hq us H' e d (g.up hY.up (off_in D H'))
/-- the keys of a dict are the first i of k, each with True -/
def KHas (k : Nat → List L2.Key) (i : Nat) (kvs : List (List L2.Key × V)) : Prop :=
  ∀ q, (valV kvs q = some (V.bl true) ∧ ∃ j, j < i ∧ k j = q) ∨ (valV kvs q = none ∧ ∀ j, j < i → k j ≠ q)
/-- the keys that a comprehension has put -/
def Kw (k : Nat → List L2.Key) (H : Hp) (D : Addr) (i : Nat) (H' : Hp) : Prop :=
  H D = none ∧ Ex H H' ∧ ∃ kvs, H' D = some (.dT kvs) ∧ kvs.length ≤ i ∧ KHas k i kvs
/-- {x: True for x in ..}, of tuples of whole numbers or texts -/
theorem grow_dq {J : It} {n : Nat} {Gd : Hp → Prop} {Yx : Nat → V → Prop} {k : Nat → List L2.Key} {j : Nat} {vs : List Nat} {σ : L2.St} {H : Hp} {D : Addr} {Qd : Hp → Prop} {tk tv : TE}
    (w : Walk J n Gd (fun i H x H' => H' = H ∧ Yx i x)) (hD : H D = none) (hn : n ≤ 40000) (hG : ∀ H', Ex H H' → Gd H') (hw : ∀ x, wipe ((wipe σ vs).set j (some x)) vs = wipe σ vs)
    (hk : ∀ i x H', Ex H H' → i < n → Yx i x → EvY tk ((wipe σ vs).set j (some x)) H' (fun u H2 => ∃ b, u = .ref b ∧ H2 b = some (.tup ((k i).map kV))))
    (hv : ∀ i x H', Ex H H' → i < n → Yx i x → Ev tv ((wipe σ vs).set j (some x)) H' (.bl true))
    (hq : ∀ kvs H', Ex H H' → H' D = some (.dT kvs) → KHas k n kvs → Qd H') :
    ∃ W : Nat → Nat → Hp → Prop, (∃ m, W 0 m (upd H D (.dT []))) ∧ dqWalk J (fun Nx x Ha => dqStep (gName j) tYes tk tv vs D Nx σ x Ha) Qd W := by
  refine ⟨fun i m H' => m = n - i ∧ i ≤ n ∧ Kw k H D i H', ⟨n, by simp, Nat.zero_le _, hD, Ex.new hD, [], upd_same, Nat.le_refl _, fun q => .inr ⟨rfl, fun j hj => absurd hj (Nat.not_lt_zero _)⟩⟩, ?_⟩
  rintro i m H1 ⟨rfl, hi, p1, p2, kvs, p3, p4, p5⟩
  by_cases lt : i < n
  · refine .inr ⟨w.goes i H1 lt (hG H1 p2), Kw k H D (i + 1), fun Ha q => ⟨n - (i + 1), by omega, rfl, lt, q⟩, fun x Ha y => ?_⟩
    obtain ⟨rfl, yx⟩ := w.yields i H1 x Ha lt (hG H1 p2) y
    refine ⟨hw x, ?_⟩
    show tk _ _ _
    refine hk i x _ p2 lt yx _ (Ex.refl _) _ fun u H2 e2 hu => ?_
    obtain ⟨b, rfl, hb⟩ := hu
    refine hv i x _ p2 lt yx H2 e2 _ fun H3 e3 => ?_
    have d3 := e3 _ _ (e2 _ _ p3)
    refine ⟨_, DPut.t d3 (e3 _ _ hb) (sz_lt (by omega)), p1, Ex.mut ((p2.trans e2).trans e3) p1, _, upd_same, ?_, fun q => ?_⟩
    · have := length_putK kvs (k i) (V.bl true)
      omega
    · rw [valV_put]
      by_cases e : q = k i
      · rw [if_pos e]
        exact .inl ⟨rfl, i, Nat.lt_succ_self i, e.symm⟩
      · rw [if_neg e]
        rcases p5 q with ⟨z, j', h1, h2⟩ | ⟨z, h2⟩
        · exact .inl ⟨z, j', by omega, h2⟩
        · refine .inr ⟨z, fun j' hj => ?_⟩
          rcases Nat.lt_succ_iff_lt_or_eq.mp hj with h3 | h3
          · exact h2 j' h3
          · subst h3
            exact fun z2 => e z2.symm
  · have e : i = n := by omega
    subst e
    exact .inl ⟨w.stops H1 (hG H1 p2), hq kvs H1 p2 p3 p5⟩
end Wk

set_option Elab.async false
set_option linter.all false
set_option maxRecDepth 100000
set_option maxHeartbeats 2000000
namespace Wk
open PySem PySem.Spec PyProof.Rows L2 Evl
/-! several except clauses, each with the same name for what it caught -/
def unAs (i : Nat) (D : Ends) : Ends := { nx := fun σ' H' => D.nx (σ'.set i none) H', rt := D.rt, bk := fun σ' H' => D.bk (σ'.set i none) H', ct := fun σ' H' => D.ct (σ'.set i none) H' }
/-- what these clauses wish of an exception, one behind the other -/
def wClauses (K : PySem.W.Frag) (i : Nat) (Wo : WX) (D : Ends) : List (Value × (Addr → Value → Option Addr → TS)) → WX
  | [] => Wo
  | y :: r => fun cls d σ H => ∃ b, PySem.W.exmOne K cls y.1 = some b ∧ (b = true → ∀ a, H a = none → y.2 a cls d (unAs i D) (σ.set i (some (.ref a))) H) ∧ (b = false → wClauses K i Wo D r cls d σ H)
inductive Clauses (X : Cx) (n : Str) : List ExceptHandler → List (Value × (Addr → Value → Option Addr → TS)) → Prop
  | nil : Clauses X n [] []
  | cons {x : Str} {c : Value} {ts : Addr → Value → Option Addr → TS} {b₀ : Stmt} {su : List Stmt} {np pos' : Pos} {hs : List ExceptHandler} {l : List (Value × (Addr → Value → Option Addr → TS))} (hc : Names X x c)
      (hsu : ∀ (a : Addr) (oe : Obj) (cls : Value) (d : Option Addr) (pn : List (Addr × Obj)), Zc cls d oe → (∃ vs, oe.data = .fields vs) → PSs (X.suite a ((a, oe) :: pn)) (b₀ :: su) (ts a cls d)) (r : Clauses X n hs l) :
      Clauses X n (.ExceptHandler (some (.Name x np)) (some n) (b₀ :: su) pos' :: hs) ((c, ts) :: l)
section
variable {X : Cx} {n : Str} {i : Nat} {body : List Stmt} {h₀ : ExceptHandler} {hds : List ExceptHandler} {l : List (Value × (Addr → Value → Option Addr → TS))} {pos : Pos} {tb : WX → TS} {Wout : WX}
theorem ps_try_clauses (hs : X.stack = X.env :: X.outer) (hf : X.env.frame = some X.env.locals) (hN : X.N.Nodup) (hi : X.N[i]? = some n) (hln : X.env.kindOf n = some .local) (tk : Takes X Wout)
    (hb : ∀ (W : WX) (pn : List (Addr × Obj)) (xe : Value → Shared → Prop), Takes (X.tr pn xe) W → PassesOwn (model X.prog X.w) X.A X.env xe → PSs (X.tr pn xe) body (tb W))
    (hh : Clauses X n (h₀ :: hds) l) : PS X (.Try body (h₀ :: hds) [] [] pos) (fun D σ H => tb (wClauses X.K i Wout D l) D σ H) := by
  refine ⟨fun pins s σ H D I h => ?_⟩
  have ok := I.ok
  have hfr : X.A.frames = some (X.env :: X.outer) := by rw [ok.frames, hs]
  have hloc : Loc X.env.scope n := .inl hln
  refine wpAny_Try_except (wpAny_mono ((hb (wClauses X.K i Wout D l) (X.pn ++ pins) (fun e s₁ => wpAny (model X.prog X.w) X.A (noteFrame e X.env) (fun _ s₂ => wpAny (model X.prog X.w) X.A (setFlight e none) (fun _ s₃ =>
    wpAny (model X.prog X.w) X.A (handleBy e X.env (h₀ :: hds)) (SP X pins D) X.xe s₃) X.xe s₂) X.xe s₁) ?air PassesOwn.looking).run [] s σ H D (I.toTry _) h) ?fine (fun _ _ he => he))
  case fine =>
    intro f s1 hsp
    cases f with
    | next => obtain ⟨σ', H', J', q⟩ := hsp; exact wpAny_execs_nil ⟨σ', H', J'.ofTry ok, q⟩
    | brk => obtain ⟨σ', H', J', q⟩ := hsp; exact ⟨σ', H', J'.ofTry ok, q⟩
    | cont => obtain ⟨σ', H', J', q⟩ := hsp; exact ⟨σ', H', J'.ofTry ok, q⟩
    | ret u => obtain ⟨v, σ', H', J', r, q⟩ := hsp; exact ⟨v, σ', H', J'.ofTry ok, r, q⟩
  case air =>
    intro u s' xx
    obtain ⟨a, B, sI, pins', σ', H', cls, d, rfl, J', nb, up, sky, na, os, ag, w⟩ := xx
    have J : Inv X pins σ' H' sI := J'.ofTry ok
    rw [hs] at sky
    refine Sky.land (L := X.env.locals) Zc.steady hfr hf sky fun h3 fl3 up3 => ?_
    have J3 : Inv X pins σ' H' { s' with heap := h3 } := J.landed nb fl3.1 (up.trans up3) os ag
    obtain ⟨oe3, vs3, he3, hz3, hd3⟩ := fl3.there
    have nfr : a ∉ frs (X.env :: X.outer) := fun hm => by
      obtain ⟨_, o', e', hnf⟩ := fl3.2.2.1.mem hm
      rw [he3] at e'
      cases e'
      exact hnf _ hd3
    have nL : a ≠ X.env.locals := fun z => nfr (List.mem_filterMap.mpr ⟨X.env, List.mem_cons_self, by rw [hf, z]⟩)
    have nF : a ∉ X.fs := fun hm => by
      obtain ⟨e, he, q⟩ := List.mem_filterMap.mp hm
      exact nfr (List.mem_filterMap.mpr ⟨e, List.mem_cons_of_mem _ he, q⟩)
    have S3 := J3.suite he3 hd3 na nL nF
    have go : ∀ {hs' : List ExceptHandler} {l' : List (Value × (Addr → Value → Option Addr → TS))}, Clauses X n hs' l' → wClauses X.K i Wout D l' cls d σ' H' → wpAny (model X.prog X.w) X.A (handleBy (.ref a) X.env hs') (SP X pins D) X.xe { s' with heap := h3 } := by
      intro hs' l' hk
      induction hk with
      | nil =>
        intro w
        refine wpAny_handleBy_nil ?_
        obtain ⟨k1, k2, k3, oe, vs, T, oT, ts', he, hz, hd, h1, hr⟩ := id fl3
        unfold PySem.passOn
        refine wpAny_bind (wpAny_field he hd h1 ?_)
        rw [if_neg (show ¬ ((Value.ref T == Value.none) = true) from by simp)]
        have fin : wpAny (model X.prog X.w) X.A (setFlight (.ref a) X.env.frame) (fun _ s4 => wpAny (model X.prog X.w) X.A (throw (.ref a) : Sem Flow) (SP X pins D) X.xe s4) X.xe { s' with heap := h3 } := by
          rw [hf]
          exact HandSPX.setFlight_upZ fl3 fun h4 hh4 up4 => wpAny_throw (tk _ _ ⟨a, B, sI, pins, σ', H', cls, d, rfl, J, nb, (up.trans up3).trans up4, .inr (.inr (by rw [hs]; exact hh4)), na, os, ag, w⟩)
        first
          | exact wpAny_bind (wpAny_pure (wpAny_bind fin))
          | exact wpAny_bind fin
      | @cons x c ts b₀ su np pos' hs2 l2 hc hsu r ih =>
        intro w
        obtain ⟨b, hb1, hyes, hno⟩ := w
        refine wpAny_handleBy_cons (codeAny_handlers_test ?_) (by intro q; cases q)
        have LM := PySem.W.exm_one (M := model X.prog X.w) (J3.kIn) (fun A Q E s k q => wpAny_typeOf_ref (k _ _ he3) (by rw [hz3.1]; exact q)) hb1
        have test : ∀ {Q E : Value → Shared → Prop}, Q c { s' with heap := h3 } → wpAny (model X.prog X.w) (X.A.mark (some (.ref a))) (eval (.Name x np) X.env) Q E { s' with heap := h3 } := fun {Q E} q => by
          obtain ⟨hg, hdbg, hm | ⟨hm, hv, hnn⟩⟩ := hc
          · exact ld_glob (X := X.suite a ((a, oe3) :: (X.pn ++ pins))) S3 hg hm q hdbg
          · exact ld_blt (X := X.suite a ((a, oe3) :: (X.pn ++ pins))) S3 hg hm hv q hnn hdbg
        refine test (LM.here ?_)
        cases b with
        | false => exact ih (hno rfl)
        | true =>
          refine codeAny_handlers_suite_as (HandSPX.lands_againZ fl3 fun h4 fl4 up4 => ?_)
          have J4 : Inv X pins σ' H' { s' with heap := h4 } := J.landed nb fl4.1 ((up.trans up3).trans up4) os ag
          obtain ⟨oe4, vs4, he4, hz4, hd4⟩ := fl4.there
          have S4 := J4.suite he4 hd4 na nL nF
          refine store_ok (X := X.suite a ((a, oe4) :: (X.pn ++ pins))) (v := .ref a) S4 hN hi hloc rfl (fun s5 S5 => ?_) (.inr hln)
          refine wpAny_mono ((hsu a oe4 cls d (X.pn ++ pins) hz4 ⟨_, hd4⟩).run [] s5 _ H' _ S5 (hyes rfl a na)) (fun f s6 hsp => ?_) (fun _ _ z => False.elim z)
          cases f with
          | next => obtain ⟨σ6, H6, S6, q6⟩ := hsp; exact gone_ok (S6.unsuite ok) hN hi hln fun s7 J7 => ⟨_, _, J7, q6⟩
          | brk => obtain ⟨σ6, H6, S6, q6⟩ := hsp; exact gone_ok (S6.unsuite ok) hN hi hln fun s7 J7 => ⟨_, _, J7, q6⟩
          | cont => obtain ⟨σ6, H6, S6, q6⟩ := hsp; exact gone_ok (S6.unsuite ok) hN hi hln fun s7 J7 => ⟨_, _, J7, q6⟩
          | ret u => obtain ⟨v6, σ6, H6, S6, r6, q6⟩ := hsp; exact gone_ok (S6.unsuite ok) hN hi hln fun s7 J7 => ⟨_, _, _, J7, r6, q6⟩
    exact go hh w
end
end Wk

set_option Elab.async false
set_option linter.all false
set_option maxRecDepth 100000
set_option maxHeartbeats 4000000
namespace Wk
open PySem PySem.Spec PyProof.Rows L2 Evl
/-- an error class without a field -/
structure ErrN (K : PySem.W.Frag) (mg : Str → Option Value) (x : Str) (C : Addr) : Prop where
  g : mg x = some (.ref C)
  q : PySem.W.excIn K C [.type "ValueError", .type "Exception", .type "BaseException", .type "object"] "ValueError.__new__" = true
  k : PySem.W.keepIn K (.ref C) = true
  b : PySem.W.subIn K (.ref C) (.type "BaseException") = some true
  t : PySem.W.typeIn K (.ref C) = some (.type "type")
theorem pmk_errN {X : Cx} {K : PySem.W.Frag} {mg : Str → Option Value} {x : Str} {C : Addr} {p pos : Pos} (hK : X.K = K) (hm : X.mg = mg) (T : ErrN K mg x C) (hg : Gl X x) (hdb : (x == ("__debug__" : Str)) = false := by decide) :
    PMk X (.Call (.Name x p) [] [] pos) (fun _ H Q => Q (.ref C) none H) := by
  subst hK hm
  intro ps s σ H Q I h
  refine wpAny_Call_Name_kw (ld_glob I hg T.g ?_ hdb)
  refine PySem.W.callWith_K0 I.kIn T.k ?_
  show wpAny _ _ (call (.ref C) []) _ _ _
  obtain ⟨bm, N, nm, qn, bs, hdct, sn, sub, ab, col, dd, k0, k1, k2, k3, k5, mN, hC, hN, hni, T2⟩ := exc_obj I.kIn T.q
  refine wpAny_call_exc_subT PySem.F.excBase_ValueError T2 hC hN hni (fun h' e hm => ?_) (Nat.zero_le _)
  exact mk_of I hm (raises_own T.b T.t) h (I.hok.gone hm.new)
structure CalX (P : Program) (w : World) (K : PySem.W.Frag) (mg : Str → Option Value) (base : Heap) (x : Str) (ps : List Str) (k : Nat) (sp : Sp) : Prop where
  ex : ∃ (f : Addr) (fd : FuncData), FnOk P w K mg base (L2.CX P w) k f fd ps sp ∧ mg x = some (.ref f) ∧ PySem.W.keepIn K (.ref f) = true ∧ Binds K fd ps []
def isStr : PyData → Bool
  | .str _ => true
  | _ => false
theorem kit_str (d : PyData) : kitB (tyN d) "str" = some (isStr d) := by
  cases d with
  | none => exact show kitB "NoneType" "str" = some false by decide +kernel
  | bool b => exact show kitB "bool" "str" = some false by decide +kernel
  | int i => exact show kitB "int" "str" = some false by decide +kernel
  | str z => exact show kitB "str" "str" = some true by decide +kernel
  | list ds => exact show kitB "list" "str" = some false by decide +kernel
  | tuple ds => exact show kitB "tuple" "str" = some false by decide +kernel
  | dict ds => exact show kitB "dict" "str" = some false by decide +kernel
theorem tu_inv {H : Hp} {v : V} {d : PyData} (hd : Dq H v d) (h : isTu d = true) : ∃ (a : Addr) (xs : List V) (ds : List PyData), v = .ref a ∧ d = .tuple ds ∧ H a = some (.tup xs) ∧ DqA H xs ds := by
  cases hd <;> first | (cases h; done) | skip
  rename_i a xs ds h1 h2
  exact ⟨a, xs, ds, rfl, rfl, h1, h2⟩
theorem pss_when {X : Cx} {l : List Stmt} {t : TS} {c : Prop} (h : c → PSs X l t) : PSs X l (fun D σ H => c ∧ t D σ H) := ⟨fun pins s σ H D I hh => (h hh.1).run pins s σ H D I hh.2⟩
theorem call_isiK {X : Cx} {K : PySem.W.Frag} (hK : X.K = K) : CallR X (.builtin "isinstance") (rIsi K) := by
  subst hK
  exact call_isi
theorem call_isEK {X : Cx} {K : PySem.W.Frag} {a D : Addr} {oe : Obj} {pn : List (Addr × Obj)} (hK : X.K = K) (C : ExcC K D) (hz : Zc (.ref D) none oe) (hf : ∃ vs, oe.data = .fields vs) : CallR (X.suite a ((a, oe) :: pn)) (.builtin "isinstance") (rIsE K D a) := by
  subst hK
  exact call_isE C hz hf
theorem all_bad {f : PyData → Bool} {l : List PyData} (h : ∃ x, x ∈ l ∧ f x = false) : l.all f = false := by
  obtain ⟨x, hx, hf⟩ := h
  cases hc : l.all f with
  | false => rfl
  | true =>
    rw [List.all_eq_true.mp hc x hx] at hf
    cases hf
/-- a method that may raise -/
structure MskX (P : Program) (w : World) (K : PySem.W.Frag) (mg : Str → Option Value) (base : Heap) (CS : Addr) (m : Str) (ps : List Str) (n : Nat) (sp : Sp) : Prop where
  ex : ∃ (fM : Addr) (fd : FuncData), Meth K CS m fM ∧ FnOk P w K mg base (L2.CX P w) n fM fd ps sp ∧ Binds K fd ps []
def W0 : WX := fun _ _ _ _ => False
end Wk

set_option Elab.async false
set_option linter.all false
set_option maxRecDepth 100000
set_option maxHeartbeats 2000000
namespace Wk
open PySem PySem.Spec PyProof.Rows L2 Evl
/-! the pool: a dict of two lists and three numbers -/
abbrev kC : L2.Key := .inr "cells"
abbrev kG : L2.Key := .inr "great"
abbrev kH : L2.Key := .inr "held"
abbrev kS : L2.Key := .inr "state"
abbrev kM : L2.Key := .inr "many"
abbrev plV (c g : Addr) (h s m : Int) : List (L2.Key × V) := [(kC, .ref c), (kG, .ref g), (kH, .int h), (kS, .int s), (kM, .int m)]
theorem pl_c {c g : Addr} {h s m : Int} : valV (plV c g h s m) kC = some (.ref c) := valV_pos rfl
theorem pl_g {c g : Addr} {h s m : Int} : valV (plV c g h s m) kG = some (.ref g) := by
  rw [valV_neg (show ¬ kC = kG by decide +kernel)]
  exact valV_pos rfl
theorem pl_h {c g : Addr} {h s m : Int} : valV (plV c g h s m) kH = some (.int h) := by
  rw [valV_neg (show ¬ kC = kH by decide +kernel), valV_neg (show ¬ kG = kH by decide +kernel)]
  exact valV_pos rfl
theorem pl_s {c g : Addr} {h s m : Int} : valV (plV c g h s m) kS = some (.int s) := by
  rw [valV_neg (show ¬ kC = kS by decide +kernel), valV_neg (show ¬ kG = kS by decide +kernel), valV_neg (show ¬ kH = kS by decide +kernel)]
  exact valV_pos rfl
theorem pl_m {c g : Addr} {h s m : Int} : valV (plV c g h s m) kM = some (.int m) := by
  rw [valV_neg (show ¬ kC = kM by decide +kernel), valV_neg (show ¬ kG = kM by decide +kernel), valV_neg (show ¬ kH = kM by decide +kernel), valV_neg (show ¬ kS = kM by decide +kernel)]
  exact valV_pos rfl
theorem ne_ch : ¬ kC = kH := by decide +kernel
theorem ne_gh : ¬ kG = kH := by decide +kernel
theorem ne_sh : ¬ kS = kH := by decide +kernel
theorem ne_mh : ¬ kM = kH := by decide +kernel
theorem ne_cs : ¬ kC = kS := by decide +kernel
theorem ne_gs : ¬ kG = kS := by decide +kernel
theorem ne_hs : ¬ kH = kS := by decide +kernel
theorem ne_ms : ¬ kM = kS := by decide +kernel
theorem ne_cm : ¬ kC = kM := by decide +kernel
theorem ne_gm : ¬ kG = kM := by decide +kernel
theorem ne_hm : ¬ kH = kM := by decide +kernel
theorem ne_sm : ¬ kS = kM := by decide +kernel
theorem put_h {c g : Addr} {h s m x : Int} : putK (plV c g h s m) kH (.int x) = plV c g x s m := by
  simp only [putK, plV, List.any_cons, List.map_cons, List.map_nil, List.any_nil, if_neg ne_ch, if_neg ne_gh, if_neg ne_sh, if_neg ne_mh, decide_true, Bool.true_or, Bool.or_true, if_true]
theorem put_s {c g : Addr} {h s m x : Int} : putK (plV c g h s m) kS (.int x) = plV c g h x m := by
  simp only [putK, plV, List.any_cons, List.map_cons, List.map_nil, List.any_nil, if_neg ne_cs, if_neg ne_gs, if_neg ne_hs, if_neg ne_ms, decide_true, Bool.true_or, Bool.or_true, if_true]
theorem put_m {c g : Addr} {h s m x : Int} : putK (plV c g h s m) kM (.int x) = plV c g h s x := by
  simp only [putK, plV, List.any_cons, List.map_cons, List.map_nil, List.any_nil, if_neg ne_cm, if_neg ne_gm, if_neg ne_hm, if_neg ne_sm, decide_true, Bool.true_or, Bool.or_true, if_true]
/-- the pool is the dict at p, its list of great ones at g, its cells at c, which stay; G is what stays -/
structure Pq (G H : Hp) (p g c : Addr) : Prop where
  ex : Ex G H
  gp : G p = none
  gg : G g = none
  ne : p ≠ g
  at_ : ∃ (cs gs : List Int) (h s m : Int), G c = some (.lst (cs.map V.int)) ∧ 1 ≤ cs.length ∧ cs.length ≤ 64 ∧ H p = some (.dK (plV c g h s m)) ∧ H g = some (.lst (gs.map V.int)) ∧ (∀ x ∈ gs, 0 ≤ x) ∧ gs.length ≤ 63 ∧ 0 ≤ h ∧ 0 ≤ m
def Of2 (p g : Addr) (H H' : Hp) : Prop := ∀ b o, b ≠ p → b ≠ g → H b = some o → H' b = some o
theorem Of2.refl (p g : Addr) (H : Hp) : Of2 p g H H := fun _ _ _ _ h => h
theorem Of2.trans {p g : Addr} {H H1 H2 : Hp} (a : Of2 p g H H1) (b : Of2 p g H1 H2) : Of2 p g H H2 := fun c o h1 h2 h => b c o h1 h2 (a c o h1 h2 h)
theorem Of2.ex {p g : Addr} {H H1 : Hp} (e : Ex H H1) : Of2 p g H H1 := fun c o _ _ h => e c o h
section
variable {G H : Hp} {p g c : Addr}
theorem Pq.p_at (h : Pq G H p g c) : ∃ o, H p = some o := by
  obtain ⟨_, _, _, _, _, _, _, _, h1, _⟩ := h.at_
  exact ⟨_, h1⟩
theorem Pq.g_at (h : Pq G H p g c) : ∃ o, H g = some o := by
  obtain ⟨_, _, _, _, _, _, _, _, _, h1, _⟩ := h.at_
  exact ⟨_, h1⟩
theorem Pq.np (h : Pq G H p g c) {a : Addr} (ha : H a = none) : a ≠ p := fun z => by
  obtain ⟨o, h1⟩ := h.p_at
  rw [z, h1] at ha
  cases ha
theorem Pq.ng (h : Pq G H p g c) {a : Addr} (ha : H a = none) : a ≠ g := fun z => by
  obtain ⟨o, h1⟩ := h.g_at
  rw [z, h1] at ha
  cases ha
theorem Pq.ext (h : Pq G H p g c) {H' : Hp} (e : Ex H H') : Pq G H' p g c := by
  obtain ⟨cs, gs, a, s, m, h1, h2, h3, h4, h5, r⟩ := h.at_
  exact ⟨h.ex.trans e, h.gp, h.gg, h.ne, cs, gs, a, s, m, h1, h2, h3, e _ _ h4, e _ _ h5, r⟩
theorem Pq.new (h : Pq G H p g c) {a : Addr} {o : HO} (ha : H a = none) : Pq (upd G a o) (upd H a o) p g c := by
  obtain ⟨cs, gs, k, s, m, h1, h2, h3, h4, h5, r⟩ := h.at_
  have ga := fresh_back h.ex ha
  have np := h.np ha
  have ng := h.ng ha
  refine ⟨fun b u hb => ?_, by rw [upd_ne (Ne.symm np)]; exact h.gp, by rw [upd_ne (Ne.symm ng)]; exact h.gg, h.ne, cs, gs, k, s, m, (Ex.new ga) _ _ h1, h2, h3, (Ex.new ha) _ _ h4, (Ex.new ha) _ _ h5, r⟩
  by_cases c : b = a
  · rw [c, upd_same] at hb ⊢
    exact hb
  · rw [upd_ne c] at hb ⊢
    exact h.ex _ _ hb
theorem Pq.mut (h : Pq G H p g c) {a : Addr} {o : HO} (ga : G a = none) (np : a ≠ p) (ng : a ≠ g) : Pq G (upd H a o) p g c := by
  obtain ⟨cs, gs, k, s, m, h1, h2, h3, h4, h5, r⟩ := h.at_
  exact ⟨Ex.mut h.ex ga, h.gp, h.gg, h.ne, cs, gs, k, s, m, h1, h2, h3, by rw [upd_ne (Ne.symm np)]; exact h4, by rw [upd_ne (Ne.symm ng)]; exact h5, r⟩
theorem Pq.hold (h : Pq G H p g c) {a : Addr} {o : HO} (ha : H a = some o) (np : a ≠ p) (ng : a ≠ g) (ga : G a = none) : Pq (upd G a o) H p g c := by
  obtain ⟨cs, gs, k, s, m, h1, h2, h3, r⟩ := h.at_
  refine ⟨fun b u hb => ?_, by rw [upd_ne (Ne.symm np)]; exact h.gp, by rw [upd_ne (Ne.symm ng)]; exact h.gg, h.ne, cs, gs, k, s, m, (Ex.new ga) _ _ h1, h2, h3, r⟩
  by_cases c : b = a
  · rw [c, upd_same] at hb
    cases hb
    rw [c]
    exact ha
  · rw [upd_ne c] at hb
    exact h.ex _ _ hb
end
open Classical in
noncomputable def Hd2 (H : Hp) (p g : Addr) : Hp := fun b => if b = p ∨ b = g then none else H b
theorem hd2_at {H : Hp} {p g b : Addr} (hp : b ≠ p) (hg : b ≠ g) : Hd2 H p g b = H b := by
  unfold Hd2
  rw [if_neg (fun z => z.elim hp hg)]
section
variable {G H : Hp} {p g c : Addr}
theorem Pq.sub (h : Pq G H p g c) : Ex G (Hd2 H p g) := fun b o hb => by
  have hp : b ≠ p := fun z => by rw [z, h.gp] at hb; cases hb
  have hg : b ≠ g := fun z => by rw [z, h.gg] at hb; cases hb
  rw [hd2_at hp hg]
  exact h.ex _ _ hb
theorem Pq.hd (h : Pq G H p g c) : Pq (Hd2 H p g) H p g c := by
  obtain ⟨cs, gs, k, s, m, h1, r⟩ := h.at_
  refine ⟨fun b o hb => ?_, by unfold Hd2; rw [if_pos (Or.inl rfl)], by unfold Hd2; rw [if_pos (Or.inr rfl)], h.ne, cs, gs, k, s, m, h.sub _ _ h1, r⟩
  unfold Hd2 at hb
  split at hb
  · cases hb
  · exact hb
theorem Pq.off {H' : Hp} (h : Pq (Hd2 H p g) H' p g c) : Of2 p g H H' := fun b o hp hg hb => h.ex b o (by rw [hd2_at hp hg]; exact hb)
theorem Pq.back {H' : Hp} (h0 : Pq G H p g c) (h : Pq (Hd2 H p g) H' p g c) : Pq G H' p g c := by
  obtain ⟨cs, gs, k, s, m, h1, h2, h3, r⟩ := h.at_
  obtain ⟨cs0, _, _, _, _, g1, g2, g3, _⟩ := h0.at_
  exact ⟨h0.sub.trans h.ex, h0.gp, h0.gg, h0.ne, cs0, gs, k, s, m, g1, g2, g3, r⟩
end
/-! what stays grows by new things only -/
structure Gq (p g c : Addr) (G H G' H' : Hp) : Prop where
  ex : Ex G G'
  nw : ∀ b, G b = none → H b ≠ none → G' b = none
  off : Of2 p g H H'
  pl : Pq G' H' p g c
section
variable {p g c : Addr}
theorem Gq.refl {G H : Hp} (h : Pq G H p g c) : Gq p g c G H G H := ⟨Ex.refl _, fun _ h _ => h, Of2.refl _ _ _, h⟩
theorem Gq.trans {G H G1 H1 G2 H2 : Hp} (a : Gq p g c G H G1 H1) (b : Gq p g c G1 H1 G2 H2) : Gq p g c G H G2 H2 := by
  refine ⟨a.ex.trans b.ex, fun x hc hh => ?_, a.off.trans b.off, b.pl⟩
  by_cases cp : x = p
  · rw [cp]; exact b.pl.gp
  by_cases cg : x = g
  · rw [cg]; exact b.pl.gg
  refine b.nw x (a.nw x hc hh) ?_
  cases hx : H x with
  | none => exact absurd hx hh
  | some o => rw [a.off x o cp cg hx]; simp
theorem Gq.new {t : Addr} {G H : Hp} {o : HO} (h : Pq G H p g c) (ht : H t = none) : Gq p g c G H (upd G t o) (upd H t o) := by
  refine ⟨Ex.new (fresh_back h.ex ht), fun b hb hh => ?_, Of2.ex (Ex.new ht), h.new ht⟩
  have nb : b ≠ t := fun z => hh (by rw [z]; exact ht)
  rw [upd_ne nb]
  exact hb
theorem Gq.ext {G H H' : Hp} (h : Pq G H p g c) (e : Ex H H') : Gq p g c G H G H' := ⟨Ex.refl _, fun _ h _ => h, Of2.ex e, h.ext e⟩
theorem Gq.draw {G H H' : Hp} (h : Pq G H p g c) (h' : Pq (Hd2 H p g) H' p g c) : Gq p g c G H G H' := ⟨Ex.refl _, fun _ h _ => h, h'.off, h.back h'⟩
end
end Wk

set_option Elab.async false
set_option linter.all false
set_option maxRecDepth 100000
set_option maxHeartbeats 4000000
namespace Wk
open PySem PySem.Spec PyProof.Rows L2 Evl
theorem rng_getD (ns : List Int) : (List.range ns.length).map (fun i => V.int (ns.getD i 0)) = ns.map V.int := by
  apply List.ext_getElem
  · simp
  · intro i h1 h2
    have h3 : i < ns.length := by simpa using h1
    simp [List.getD_eq_getElem?_getD, List.getElem?_eq_getElem h3]
theorem given_yesAll (n : Nat) (v : Nat → V) : given n (fun _ => true) v = (List.range n).map v := by
  unfold given
  rw [List.filter_eq_self.mpr fun _ _ => rfl]
theorem cut_all {ns : List Int} (h : ns.length ≤ 63) : cutV (ns.map V.int) none (some 63) = ns.map V.int := by
  unfold cutV
  rw [HT.sIx_none, show ((63 : Int)) = ((63 : Nat) : Int) from rfl, HT.sIx_nat, List.length_map, Nat.min_eq_right h]
  simp
  exact List.take_of_length_le (by simp)
theorem getD_at {ns : List Int} {i : Nat} {x : V} (hx : (ns.map V.int)[i]? = some x) : x = .int (ns.getD i 0) := by
  rw [List.getElem?_map] at hx
  cases hn : ns[i]? with
  | none => rw [hn] at hx; cases hx
  | some n =>
    rw [hn] at hx
    rw [show ns.getD i 0 = n by rw [List.getD_eq_getElem?_getD, hn]; rfl]
    exact (Option.some.inj hx).symm
theorem mergeK_new : ∀ (more acc : List (L2.Key × V)), ((acc ++ more).map Prod.fst).Nodup → mergeK acc more = acc ++ more
  | [], acc, _ => by rw [List.append_nil]; rfl
  | p :: r, acc, h => by
    have hn : valV acc p.1 = none := by
      cases hv : valV acc p.1 with
      | none => rfl
      | some v =>
        exfalso
        have hm : p.1 ∈ acc.map Prod.fst := by
          clear h
          induction acc with
          | nil => cases hv
          | cons q s ih =>
            by_cases c : q.1 = p.1
            · rw [List.map_cons, c]; exact List.mem_cons_self
            · obtain ⟨a, b⟩ := q
              rw [valV_neg c] at hv
              exact List.mem_cons_of_mem _ (ih hv)
        rw [List.map_append, List.nodup_append] at h
        exact h.2.2 _ hm _ (by rw [List.map_cons]; exact List.mem_cons_self) rfl
    show mergeK (putK acc p.1 p.2) r = _
    rw [putK_new p.2 hn]
    have e : acc ++ [(p.1, p.2)] ++ r = acc ++ p :: r := by simp
    rw [← e]
    exact mergeK_new r _ (by rw [e]; exact h)
theorem merge_pl {c g : Addr} {h s m : Int} : mergeK [] (plV c g h s m) = plV c g h s m := by
  have z := mergeK_new (plV c g h s m) [] (show [kC, kG, kH, kS, kM].Nodup by decide +kernel)
  rw [List.nil_append] at z
  exact z
def absI (i : Int) : Int := if i < 0 then -i else i
theorem absI_nn (i : Int) : 0 ≤ absI i := by unfold absI; split <;> omega
section
variable {P : Program} {w : World} {K : PySem.W.Frag} {mg : Str → Option Value} {base : Heap} {f : Addr} {fd : FuncData}
/-! _law_pool -/
def spPool (K : PySem.W.Frag) : Sp := fun vs H Q _ => ∃ (a : Addr) (ns : List Int), vs = [.ref a] ∧ SqL K H a (ns.map V.int) ∧ ns.length ≤ 63 ∧ ∀ G H' p g c, Ex H G → Pq G H' p g c → Q (.ref p) H'
abbrev sPool : Stmt := top 31
abbrev nPool : List Str := ["_law_script", "_law_cells", "_law_great", "_law_state", "_law_cell"]
theorem scPool : FnScope nPool ["_law_script"] (defScope sPool) := ⟨rfl, rfl, rfl, by decide +kernel, rfl, by decide +kernel, by decide +kernel⟩
theorem ok_pool (B : Bl mg) (F : FnP K "_law_pool" sPool f fd) : FnOk P w K mg base CX0 1 f fd ["_law_script"] (spPool K) := by
  refine F.ok scPool (fun vs H Q E h => ?_) (fun cdv A outer s H vs Q E hr h => ?_)
  · obtain ⟨a, ns, rfl, _⟩ := h
    rfl
  · obtain ⟨a, ns, rfl, hs, hl, k⟩ := h
    refine ⟨_, pss_cons (ps_setLc (i := 1) (own := [("_law_cell", 4)]) (g := gName 4) (tt := tYes) rfl scPool.nd rfl rfl (sw_true rfl rfl rfl (by decide +kernel)) (pi_list (pe_slice sl_list (pv 0) po_none (po_some pe_int))) (blkOk_by (N := nPool) (sc := defScope sPool) (by decide +kernel))
          (fun _ _ _ _ _ => pg_name (i := 4) scPool.nd rfl (Or.inl rfl)) (fun _ _ _ _ _ => pts_nil)
          (fun _ _ _ _ _ => pe_callTy call_int1 (by rfl) B.int PyProof.Rows.boot_int (pa_cons (pv 4) pa_nil)))
      (pss_cons (ps_setLc (i := 2) (own := [("_law_cell", 4)]) (g := gName 4) rfl scPool.nd rfl rfl (sw_true rfl rfl rfl (by decide +kernel)) (pi_list (pv 1)) (blkOk_by (N := nPool) (sc := defScope sPool) (by decide +kernel))
          (fun _ _ _ _ _ => pg_name (i := 4) scPool.nd rfl (Or.inl rfl)) (fun _ _ _ _ _ => pts_one (pt_cmpR op_ge (pe_callB call_abs (by rfl) B.abs boot_abs (pa_cons (pv 4) pa_nil)) (pe_op op_pow pe_int pe_int) (nomark _)))
          (fun _ _ _ _ _ => pe_callB call_abs (by rfl) B.abs boot_abs (pa_cons (pv 4) pa_nil)))
      (pss_cons (ps_set (i := 3) scPool.nd rfl (Or.inl rfl) pe_int)
      (pss_cons (ps_for (passes_of rfl) rfl (pi_list (pv 1)) (pg_name (i := 4) scPool.nd rfl (Or.inl rfl))
          (pss_one (ps_set (i := 3) scPool.nd rfl (Or.inl rfl) (pe_op op_mod (pe_callTy call_int1 (by rfl) B.int PyProof.Rows.boot_int (pa_cons (pe_op op_add (pe_op op_add (pe_op op_mul (pv 3) pe_int) (pe_op op_mod (pv 4) pe_int)) pe_int) pa_nil)) pe_int))))
      (pss_one (ps_ret (pe_disp (pps_cons pe_str (pe_op op_cat (pv 1) (pe_lst (pa_cons (pe_callB call_len_seq (by rfl) B.len PySem.boot_len (pa_cons (pv 1) pa_nil)) pa_nil)))
          (pps_cons pe_str (pv 2) (pps_cons pe_str pe_int (pps_cons pe_str (pv 3) (pps_cons pe_str pe_int pps_nil))))) rfl rfl (by simp) (by decide))))))), ?_⟩
    have hsl : EvL (tSl (rSlL K) (tVar 0) tNoPart (tPart (tC (.int 63)))) (wipe (start nPool [V.ref a]) [4]) H (ns.map V.int) := by
      have q := el_sl (K := K) (te := tVar 0) (σ := wipe (start nPool [V.ref a]) [4]) (H := H) (ev_var rfl) eo_none (eo_some (i := 63) ev_c) hs
      rw [cut_all hl] at q
      exact q
    have hlc := el_lcNL (K := K) (σ := start nPool [V.ref a]) (H := H) (j := 4) (vs := [4]) (te := tCB (fun xs H Q => (∃ i, xs = [.int i] ∧ Q (.int i) H) ∨ ∃ k, xs = [.bl k] ∧ Q (.int (if k then 1 else 0)) H) (tCons (tVar 4) tNil)) (t := tYes) (fun _ => true) (fun i => V.int (ns.getD i 0)) hsl (by rw [List.length_map]; omega) (fun x => rfl) (fun _ _ _ _ _ => et_yes) (fun i x H1 e hx _ => by
      rw [getD_at hx]
      exact ev_cb (ea_cons (ev_var rfl) ea_nil) fun H2 e2 Q2 q => .inl ⟨_, rfl, q H2 (Ex.refl H2)⟩)
    rw [given_yesAll, List.length_map, rng_getD] at hlc
    refine q_asgL hlc fun c H1 hc e1 hc1 => ?_
    refine q_asgL (el_lcL (K := K) (a := c) (xs := ns.map V.int) (fun i => decide ((10 : Int) ^ (18 : Int).toNat ≤ absI (ns.getD i 0))) (fun i => V.int (absI (ns.getD i 0))) (ev_var rfl) (sq_of hc1) (by rw [List.length_map]; omega) (fun x => rfl) (fun i x H2 e2 hx => by
      rw [getD_at hx]
      exact et_test fun H7 e7 Q7 q7 => ⟨_, rfl, _, rfl, 10, 18, rfl, rfl, ⟨by decide, by decide, by decide⟩, _, _, rfl, rfl, q7 H7 (Ex.refl _)⟩) (fun i x H2 e2 hx _ => by
      rw [getD_at hx]
      exact fun H7 e7 Q7 q7 => ⟨_, rfl, _, rfl, q7 H7 (Ex.refl _)⟩)) fun g H2 hg e2 hg2 => ?_
    have hgs : ∃ gs : List Int, H2 g = some (.lst (gs.map V.int)) ∧ (∀ x ∈ gs, 0 ≤ x) ∧ gs.length ≤ 63 := by
      refine ⟨(((List.range (ns.map V.int).length).filter fun i => decide ((10 : Int) ^ (18 : Int).toNat ≤ absI (ns.getD i 0)))).map fun i => absI (ns.getD i 0), ?_, ?_, ?_⟩
      · rw [hg2]
        unfold given
        rw [List.map_map]
        rfl
      · intro x hx
        rw [List.mem_map] at hx
        obtain ⟨i, _, rfl⟩ := hx
        exact absI_nn _
      · rw [List.length_map]
        have z := List.length_filter_le (fun i => decide ((10 : Int) ^ (18 : Int).toNat ≤ absI (ns.getD i 0))) (List.range (ns.map V.int).length)
        rw [List.length_range, List.length_map] at z
        rw [List.length_map]
        omega
    obtain ⟨gs, hgs1, hgs2, hgs3⟩ := hgs
    refine q_c ?_
    refine q_forLn (a := c) (xs := ns.map V.int) (K := K) (ev_var rfl) (sq_of (e2 _ _ hc1)) (fun i σ' H' => ∃ (s : Int) (o : Option V), σ' = [some (.ref a), some (.ref c), some (.ref g), some (.int s), o] ∧ Ex H2 H') (fun H3 e3 => ⟨20011, _, rfl, e3⟩) (fun i σ' H' _ h => by
      obtain ⟨_, _, _, e⟩ := h
      exact sq_of (e _ _ (e2 _ _ hc1))) (fun i x σ' H' hx h => ?_) (fun σ' H' h => ?_)
    · obtain ⟨s, o, rfl, e⟩ := h
      rw [getD_at hx]
      exact ⟨.int s, rfl, s, 48271, rfl, rfl, .inr ⟨by decide, by decide⟩, .int (ns.getD i 0), rfl, _, 2147483629, rfl, rfl, (show (0 : Int) < 2147483629 by decide), _, _, rfl, rfl, _, 1, rfl, rfl, .inl ⟨_, rfl, _, 2147483647, rfl, rfl, (show (0 : Int) < 2147483647 by decide), _, _, rfl, e⟩⟩
    · obtain ⟨s, o, rfl, e⟩ := h
      intro p hp
      have e3 := Ex.new (o := .dK []) hp
      have hc3 := e3 _ _ (e _ _ (e2 _ _ hc1))
      have hg3 := e3 _ _ (e _ _ hgs1)
      have hp3 : (upd H' p (.dK [])) p = some (.dK []) := upd_same
      generalize upd H' p (.dK []) = H3 at *
      refine ⟨.ref c, rfl, .ref c, rfl, ⟨c, _, rfl, .inl (sq_of hc3), by show 1 ≤ sizeLine; decide, fun l hl3 => ?_⟩⟩
      have e4 := Ex.new (o := .lst [V.int ((ns.map V.int).length : Int)]) hl3
      have hc4 := e4 _ _ hc3
      have hg4 := e4 _ _ hg3
      have hp4 := e4 _ _ hp3
      have hl4 : (upd H3 l (.lst [V.int ((ns.map V.int).length : Int)])) l = some (.lst [V.int ((ns.map V.int).length : Int)]) := upd_same
      generalize upd H3 l (.lst [V.int ((ns.map V.int).length : Int)]) = H4 at *
      refine ⟨c, l, _, _, rfl, rfl, hc4, hl4, by rw [List.length_map]; exact sz_of (by simp; omega), fun c' hc' => ?_⟩
      have e5 := Ex.new (o := .lst (ns.map V.int ++ [V.int ((ns.map V.int).length : Int)])) hc'
      have hg5 := e5 _ _ hg4
      have hp5 := e5 _ _ hp4
      have hc5 : (upd H4 c' (.lst (ns.map V.int ++ [V.int ((ns.map V.int).length : Int)]))) c' = some (.lst (ns.map V.int ++ [V.int ((ns.map V.int).length : Int)])) := upd_same
      have hcp : p ≠ c' := fun z => by rw [← z, hp4] at hc'; cases hc'
      have hcg : g ≠ c' := fun z => by rw [← z, hg4] at hc'; cases hc'
      generalize upd H4 c' (.lst (ns.map V.int ++ [V.int ((ns.map V.int).length : Int)])) = H5 at *
      refine ⟨.ref g, rfl, .int s, rfl, hp5, plV c' g 0 s 0, rfl, by show 5 ≤ 15; decide, ?_⟩
      rw [merge_pl]
      have hH5 : Ex H H5 := ((((e1.trans e2).trans e).trans e3).trans e4).trans e5
      have hHp : H p = none := fresh_back ((e1.trans e2).trans e) hp
      have hHg : H g = none := fresh_back e1 hg
      have hHc : H c' = none := fresh_back ((((e1.trans e2).trans e).trans e3).trans e4) hc'
      have hgp : p ≠ g := fun z => by
        rw [z] at hp
        have := e _ _ hgs1
        rw [hp] at this
        cases this
      have hll : ns.map V.int ++ [V.int ((ns.map V.int).length : Int)] = (ns ++ [((ns.map V.int).length : Int)]).map V.int := by simp
      rw [hll] at hc5
      refine k (upd H c' (.lst ((ns ++ [((ns.map V.int).length : Int)]).map V.int))) _ p g c' (Ex.new hHc) ⟨?_, by rw [upd_ne hcp]; exact hHp, by rw [upd_ne hcg]; exact hHg, hgp, _, gs, 0, s, 0, upd_same, by simp, by simp; omega, upd_same, by rw [upd_ne (Ne.symm hgp)]; exact hg5, hgs2, hgs3, by decide, by decide⟩
      refine Ex.mut (fun b o hb => ?_) (by rw [upd_ne hcp]; exact hHp)
      by_cases z : b = c'
      · rw [z, upd_same] at hb
        cases hb
        rw [z]
        exact hc5
      · rw [upd_ne z] at hb
        exact hH5 _ _ hb
end
end Wk

set_option Elab.async false
set_option linter.all false
set_option maxRecDepth 100000
set_option maxHeartbeats 4000000
namespace Wk
open PySem PySem.Spec PyProof.Rows L2 Evl
section
variable {G H : Hp} {p g c : Addr}
theorem Pq.put (h0 : Pq G H p g c) {h s m : Int} (hh : 0 ≤ h) (hm : 0 ≤ m) : Pq G (upd H p (.dK (plV c g h s m))) p g c := by
  obtain ⟨cs, gs, k, s', m', h1, h2, h3, h4, h5, h6, h7, h8, h9⟩ := h0.at_
  exact ⟨Ex.mut h0.ex h0.gp, h0.gp, h0.gg, h0.ne, cs, gs, h, s, m, h1, h2, h3, upd_same, by rw [upd_ne (Ne.symm h0.ne)]; exact h5, h6, h7, hh, hm⟩
theorem Pq.pop (h0 : Pq G H p g c) {gs : List Int} (h1 : ∀ x ∈ gs, 0 ≤ x) (h2 : gs.length ≤ 63) : Pq G (upd H g (.lst (gs.map V.int))) p g c := by
  obtain ⟨cs, gs', k, s', m', i1, i2, i3, i4, i5, i6, i7, i8, i9⟩ := h0.at_
  exact ⟨Ex.mut h0.ex h0.gg, h0.gp, h0.gg, h0.ne, cs, gs, k, s', m', i1, i2, i3, by rw [upd_ne h0.ne]; exact i4, upd_same, h1, h2, i8, i9⟩
end
section
variable {K : PySem.W.Frag} {σ : L2.St} {H : Hp} {ta te : TE} {tz : TS} {D : Ends}
theorem rd_up {H H' : Hp} {a : Addr} {u : HO} (e : Ex H H') (h : Rd H a u) : Rd H' a u := h.elim (fun h => .inl (e _ _ h)) fun ⟨o, h⟩ => .inr ⟨o, e _ _ h⟩
theorem ev_dgetS {a : Addr} {k : Str} {v : V} {kvs : List (L2.Key × V)} (ha : Ev ta σ H (.ref a)) (hr : Rd H a (.dK kvs)) (hv : valV kvs (.inr k) = some v) : Ev (tDGet ta (tC (.str k))) σ H v := fun H1 e Q q =>
  ha H1 e _ fun H2 e2 => show ∃ (a' : Addr) (v' : V), _ ∧ DGet H2 a' (.str k) (some v') ∧ Q v' H2 from ⟨a, v, rfl, .inl ⟨kvs, .inr k, rd_up (e.trans e2) hr, rfl, hv.symm⟩, q H2 e2⟩
theorem q_putS {p : Addr} {k : Str} {v : V} {kvs : List (L2.Key × V)} (ho : σ[0]? = some (some (.ref p))) (h : Ev te σ H v) (hp : H p = some (.dK kvs)) (hl : kvs.length < 1000) (q : ∀ H1, Ex H H1 → tz D σ (upd H1 p (.dK (putK kvs (.inr k) v)))) :
    tSeq (tAsg te (gSub (tVar 0) (tC (.str k)) rSetD)) tz D σ H :=
  h H (Ex.refl _) _ fun H1 e => ⟨.ref p, ho, p, _, rfl, DPut.k (k := .inr k) (e _ _ hp) (sz_lt (by omega)), q H1 e⟩
end
section
variable {P : Program} {w : World} {K : PySem.W.Frag} {mg : Str → Option Value} {base : Heap} {f : Addr} {fd : FuncData}
/-! _law_draw -/
def spDrw : Sp := fun vs H Q _ => ∃ (G : Hp) (p g c : Addr) (z : Int), vs = [.ref p, .int z] ∧ Pq G H p g c ∧ 0 < z ∧ z ≤ 1000000000 ∧ ∀ H' (i : Int), Pq G H' p g c → 0 ≤ i → i < z → Q (.int i) H'
abbrev sDrw : Stmt := top 32
abbrev nDrw : List Str := ["_law_pool_here", "_law_many", "_law_held", "_law_count", "_law_cell", "_law_state", "_law_mixed"]
theorem scDrw : FnScope nDrw ["_law_pool_here", "_law_many"] (defScope sDrw) := ⟨rfl, rfl, rfl, by decide +kernel, rfl, by decide +kernel, by decide +kernel⟩
theorem ok_drw (B : Bl mg) (F : FnP K "_law_draw" sDrw f fd) : FnOk P w K mg base CX0 1 f fd ["_law_pool_here", "_law_many"] spDrw := by
  refine F.ok scDrw (fun vs H Q E h => ?_) (fun cdv A outer s H vs Q E hr h => ?_)
  · obtain ⟨G, p, g, c, z, rfl, _⟩ := h
    rfl
  · obtain ⟨G, p, g, c, z, rfl, hP, hz, hz2, k⟩ := h
    have hu : (A.deeper (envOfC "_law_draw" (defScope sDrw) s.heap.objs.size f cdv)).units + 1 < cLine := by have := hr.un; omega
    refine ⟨_, pss_cut (ps_if (PW.pt (pw_and (pt_cmpR op_lt (pe_dget hu (pv 0) pe_str (fun _ _ => rfl)) pe_int (nomark _)) (pw_and1 (pt_cmpR op_gt (pe_callB call_len_seq (by rfl) B.len PySem.boot_len (pa_cons (pe_dget hu (pv 0) pe_str (fun _ _ => rfl)) pa_nil)) pe_int (nomark _)))))
          (pss_one (ps_asg (pe_bm PySem.F.plainAttrs_list PySem.F.slot_list_pop PySem.F.type_list_pop mt_popAt (pe_dget hu (pv 0) pe_str (fun _ _ => rfl)) (pa_cons pe_int pa_nil)) (pg_sub (pv 0) pe_str (set_dict hu)))) pss_nil)
      (pss_cons (ps_set (i := 2) scDrw.nd rfl (Or.inl rfl) (pe_callTy call_int1 (by rfl) B.int PyProof.Rows.boot_int (pa_cons (pe_dget hu (pv 0) pe_str (fun _ _ => rfl)) pa_nil)))
      (pss_cons (ps_if (pt_cmpR op_gt (pv 2) pe_int (nomark _))
          (pss_cons (ps_asg (pe_op op_fdiv (pv 2) (pv 1)) (pg_sub (pv 0) pe_str (set_dict hu)))
          (pss_one (ps_ret (pe_op op_mod (pv 2) (pv 1))))) pss_nil)
      (pss_cons (ps_set (i := 3) scDrw.nd rfl (Or.inl rfl) (pe_op op_add (pe_callTy call_int1 (by rfl) B.int PyProof.Rows.boot_int (pa_cons (pe_dget hu (pv 0) pe_str (fun _ _ => rfl)) pa_nil)) pe_int))
      (pss_cons (ps_asg (pv 3) (pg_sub (pv 0) pe_str (set_dict hu)))
      (pss_cons (ps_set (i := 4) scDrw.nd rfl (Or.inl rfl) (pe_op op_mod (pe_callTy call_int1 (by rfl) B.int PyProof.Rows.boot_int (pa_cons (pe_ix ix_list (pe_dget hu (pv 0) pe_str (fun _ _ => rfl)) (pe_op op_mod (pv 3) (pe_callB call_len_seq (by rfl) B.len PySem.boot_len (pa_cons (pe_dget hu (pv 0) pe_str (fun _ _ => rfl)) pa_nil))) (fun _ _ => rfl)) pa_nil)) pe_int))
      (pss_cons (ps_set (i := 5) scDrw.nd rfl (Or.inl rfl) (pe_op op_mod (pe_callTy call_int1 (by rfl) B.int PyProof.Rows.boot_int (pa_cons (pe_op op_add (pe_op op_add (pe_op op_mul (pe_callTy call_int1 (by rfl) B.int PyProof.Rows.boot_int (pa_cons (pe_dget hu (pv 0) pe_str (fun _ _ => rfl)) pa_nil)) pe_int) (pv 4)) (pe_op op_mul pe_int (pv 3))) pa_nil)) pe_int))
      (pss_cons (ps_asg (pv 5) (pg_sub (pv 0) pe_str (set_dict hu)))
      (pss_cons (ps_set (i := 6) scDrw.nd rfl (Or.inl rfl) (pe_op op_mod (pe_callTy call_int1 (by rfl) B.int PyProof.Rows.boot_int (pa_cons (pe_op op_mul (pv 5) (pe_op op_add (pe_op op_fdiv (pv 5) pe_int) pe_int)) pa_nil)) pe_int))
      (pss_cons (ps_set (i := 6) scDrw.nd rfl (Or.inl rfl) (pe_op op_mod (pe_callTy call_int1 (by rfl) B.int PyProof.Rows.boot_int (pa_cons (pe_op op_mul (pv 6) (pe_op op_add (pe_op op_fdiv (pv 6) pe_int) pe_int)) pa_nil)) pe_int))
      (pss_one (ps_ret (pe_op op_mod (pe_op op_fdiv (pv 6) pe_int) (pv 1))))))))))))), ?_⟩
    have hzz : z < 1073741824 := by omega
    refine q_cut (M := fun σ' H' => σ' = start nDrw [.ref p, .int z] ∧ Pq G H' p g c) ?_ ?_
    · obtain ⟨cs, gs, h, s, m, h1, h2, h3, h4, h5, h6, h7, h8, h9⟩ := hP.at_
      refine s_when (b := decide (h < 2) && decide (0 < ((gs.map V.int).length : Int))) (et_and (et_test (ev_op (r := rI0 fun i j => .bl (decide (i < j))) (ev_dgetS (ev_var rfl) (.inl h4) pl_h) ev_c rv_I0)) fun _ => et_test (ev_op (r := rI0 fun i j => .bl (decide (j < i))) (ev_len (K := K) (ev_dgetS (ev_var rfl) (.inl h4) pl_g) (sq_of h5)) ev_c rv_I0)) (fun hb H1 e1 => ?_) (fun _ H1 e1 => ⟨rfl, hP.ext e1⟩)
      rw [Bool.and_eq_true] at hb
      have hg0 := of_decide_eq_true hb.2
      rw [List.length_map] at hg0
      have hP1 := hP.ext e1
      have hp1 := e1 _ _ h4
      have hg1 := e1 _ _ h5
      have hi : (gs.map V.int)[0]? = some (.int (gs[0]'(by omega))) := by rw [List.getElem?_map, List.getElem?_eq_getElem (by omega)]; rfl
      refine ⟨.ref p, rfl, p, .ref g, rfl, .inl ⟨_, kG, .inl hp1, rfl, pl_g.symm⟩, Or.inl ⟨rfl, _, sq_of hg1⟩, g, _, 0, 0, .int (gs[0]'(by omega)), rfl, rfl, hg1, by decide, by decide, seqIx (k := 0) (by rw [List.length_map]; omega), hi, ?_⟩
      have hx0 : 0 ≤ gs[0]'(by omega) := h6 _ (List.getElem_mem _)
      have hP2 : Pq G (upd H1 g (.lst ((gs.eraseIdx 0).map V.int))) p g c := hP1.pop (fun x hx => h6 x (List.mem_of_mem_eraseIdx hx)) (by have := List.length_eraseIdx_le gs 0; omega)
      have hp2 : (upd H1 g (.lst ((gs.eraseIdx 0).map V.int))) p = some (.dK (plV c g h s m)) := by rw [upd_ne hP.ne]; exact hp1
      have em : (gs.map V.int).eraseIdx 0 = (gs.eraseIdx 0).map V.int := by cases gs <;> rfl
      rw [em]
      generalize upd H1 g (.lst ((gs.eraseIdx 0).map V.int)) = H2 at *
      refine ⟨.ref p, rfl, p, _, rfl, DPut.k (k := kH) hp2 (by show 5 < sizeLine; decide), rfl, ?_⟩
      rw [put_h]
      exact hP2.put hx0 h9
    · rintro σ' H1 ⟨rfl, hP1⟩
      obtain ⟨cs, gs, h, s, m, h1, h2, h3, h4, h5, h6, h7, h8, h9⟩ := hP1.at_
      refine ⟨.ref p, rfl, p, .int h, rfl, .inl ⟨_, kH, .inl h4, rfl, pl_h.symm⟩, .inl ⟨h, rfl, ?_⟩⟩
      refine g_name ?_
      refine q_when (b := decide (1 < h)) (et_test (ev_op (r := rI0 fun i j => .bl (decide (j < i))) (ev_var rfl) ev_c rv_I0)) (fun hb H2 e2 => ?_) (fun hb H2 e2 => ?_)
      · have hp2 := e2 _ _ h4
        have hP2 := hP1.ext e2
        have md := modP h z hz
        refine ⟨.int h, rfl, .int z, rfl, h, z, rfl, rfl, ⟨hz, hzz⟩, .ref p, rfl, p, _, rfl, DPut.k (k := kH) hp2 (by show 5 < sizeLine; decide), ?_⟩
        rw [put_h]
        exact ⟨.int h, rfl, .int z, rfl, h, z, rfl, rfl, hz, k _ _ (hP2.put (Int.ediv_nonneg h8 (by omega)) h9) md.1 md.2⟩
      · have hp2 := e2 _ _ h4
        have hP2 := hP1.ext e2
        refine ⟨.ref p, rfl, p, .int m, rfl, .inl ⟨_, kM, .inl hp2, rfl, pl_m.symm⟩, .inl ⟨m, rfl, m, 1, rfl, rfl, ?_⟩⟩
        refine g_name ?_
        change tSeq _ _ _ [some (.ref p), some (.int z), some (.int h), some (.int (m + 1)), none, none, none] H2
        have hm1 : 0 ≤ m + 1 := by omega
        generalize m + 1 = m1 at *
        refine q_putS (p := p) rfl (ev_var (i := 3) (v := .int m1) rfl) hp2 (by show 5 < 1000; decide) fun H3 e3 => ?_
        rw [put_m]
        have hP3 : Pq G (upd H3 p (.dK (plV c g h s m1))) p g c := (hP2.ext e3).put h8 hm1
        have hp3 : (upd H3 p (.dK (plV c g h s m1))) p = some (.dK (plV c g h s m1)) := upd_same
        generalize upd H3 p (.dK (plV c g h s m1)) = H4 at *
        have hc4 := hP3.ex _ _ h1
        have hcl : (0 : Int) < (cs.length : Int) := by omega
        have md := modP m1 (cs.length : Int) hcl
        obtain ⟨j, hj⟩ : ∃ j : Nat, m1 % (cs.length : Int) = (j : Int) := ⟨(m1 % (cs.length : Int)).toNat, by omega⟩
        have hjl : j < cs.length := by omega
        have hcj : (cs.map V.int)[j]? = some (.int cs[j]) := by rw [List.getElem?_map, List.getElem?_eq_getElem hjl]; rfl
        generalize cs[j] = v at *
        refine ⟨.ref p, rfl, p, .ref c, rfl, .inl ⟨_, kC, .inl hp3, rfl, pl_c.symm⟩, .int m1, rfl, .ref p, rfl, p, .ref c, rfl, .inl ⟨_, kC, .inl hp3, rfl, pl_c.symm⟩, c, _, rfl, .inl (sq_of hc4), m1, _, rfl, rfl, by rw [List.length_map]; exact hcl, ?_⟩
        rw [List.length_map]
        dsimp only
        rw [hj]
        refine ⟨c, _, (j : Int), .int v, rfl, rfl, sq_of hc4, atI_nat hcj, .inl ⟨v, rfl, v, 2147483629, rfl, rfl, (show (0 : Int) < 2147483629 by decide), ?_⟩⟩
        refine g_name ?_
        change tSeq _ _ _ [some (.ref p), some (.int z), some (.int h), some (.int m1), some (.int (v % 2147483629)), none, none] H4
        generalize v % 2147483629 = v1 at *
        refine ⟨.ref p, rfl, p, .int s, rfl, .inl ⟨_, kS, .inl hp3, rfl, pl_s.symm⟩, .inl ⟨s, rfl, s, 69621, rfl, rfl, .inr ⟨by decide, by decide⟩, .int v1, rfl, _, v1, rfl, rfl, .int m1, rfl, 30103, m1, rfl, rfl, .inl ⟨by decide, by decide⟩, _, _, rfl, rfl, .inl ⟨_, rfl, _, 2147483647, rfl, rfl, (show (0 : Int) < 2147483647 by decide), ?_⟩⟩⟩
        refine g_name ?_
        change tSeq _ _ _ [some (.ref p), some (.int z), some (.int h), some (.int m1), some (.int v1), some (.int ((s * 69621 + v1 + 30103 * m1) % 2147483647)), none] H4
        have hs1 := modP (s * 69621 + v1 + 30103 * m1) 2147483647 (by decide)
        generalize (s * 69621 + v1 + 30103 * m1) % 2147483647 = s1 at *
        refine q_putS (p := p) rfl (ev_var (i := 5) (v := .int s1) rfl) hp3 (by show 5 < 1000; decide) fun H5 e5 => ?_
        rw [put_s]
        have hP5 : Pq G (upd H5 p (.dK (plV c g h s1 m1))) p g c := (hP3.ext e5).put h8 hm1
        generalize upd H5 p (.dK (plV c g h s1 m1)) = H6 at *
        refine ⟨.int s1, rfl, .int s1, rfl, s1, 1009, rfl, rfl, ⟨by decide, by decide⟩, _, 48271, rfl, rfl, s1, _, rfl, rfl, .inl ⟨by omega, by omega⟩, .inl ⟨_, rfl, _, 2147483629, rfl, rfl, (show (0 : Int) < 2147483629 by decide), ?_⟩⟩
        refine g_name ?_
        change tSeq _ _ _ [some (.ref p), some (.int z), some (.int h), some (.int m1), some (.int v1), some (.int s1), some (.int ((s1 * (s1 / 1009 + 48271)) % 2147483629))] H6
        have hy := modP (s1 * (s1 / 1009 + 48271)) 2147483629 (by decide)
        generalize (s1 * (s1 / 1009 + 48271)) % 2147483629 = y at *
        refine ⟨.int y, rfl, .int y, rfl, y, 2003, rfl, rfl, ⟨by decide, by decide⟩, _, 40692, rfl, rfl, y, _, rfl, rfl, .inl ⟨by omega, by omega⟩, .inl ⟨_, rfl, _, 2147483399, rfl, rfl, (show (0 : Int) < 2147483399 by decide), ?_⟩⟩
        refine g_name ?_
        dsimp only
        change tRet _ _ [some (.ref p), some (.int z), some (.int h), some (.int m1), some (.int v1), some (.int s1), some (.int ((y * (y / 2003 + 40692)) % 2147483399))] H6
        generalize (y * (y / 2003 + 40692)) % 2147483399 = y1 at *
        have md2 := modP (y1 / 16) z hz
        exact ⟨.int y1, rfl, y1, 16, rfl, rfl, ⟨by decide, by decide⟩, .int z, rfl, _, z, rfl, rfl, hz, k _ _ hP5 md2.1 md2.2⟩
/-- a draw, as a call -/
theorem ev_drw {G H : Hp} {p g c : Addr} {z : Int} {Q : VK} (h : Pq G H p g c) (hz : 0 < z) (hz2 : z ≤ 1000000000) (k : ∀ H' (i : Int), Gq p g c G H G H' → 0 ≤ i → i < z → Q (.int i) H') (E : XK) : spDrw [.ref p, .int z] H Q E :=
  ⟨Hd2 H p g, p, g, c, z, rfl, h.hd, hz, hz2, fun H' i hP h0 h1 => k H' i (Gq.draw h hP) h0 h1⟩
end
end Wk

set_option Elab.async false
set_option linter.all false
set_option maxRecDepth 100000
set_option maxHeartbeats 4000000
namespace Wk
open PySem PySem.Spec PyProof.Rows L2 Evl
/-! texts of bits -/
abbrev T (l : List Nat) : Str := ⟨l.toArray⟩
theorem T_cat (a b : List Nat) : T a ++ T b = T (a ++ b) := TL.ext_tl (TL.tl_append (T a) (T b))
theorem T_inj {a b : List Nat} (h : T a = T b) : a = b := congrArg (fun x : Str => x.cps.toList) h
theorem T_len (a : List Nat) : (T a).length = a.length := by simp [T, Str.length]
def IsB (l : List Nat) : Prop := ∀ c ∈ l, c = 48 ∨ c = 49
theorem IsB.nil : IsB [] := fun _ h => by cases h
theorem IsB.app {a b : List Nat} (h : IsB a) (k : IsB b) : IsB (a ++ b) := fun c hc => (List.mem_append.mp hc).elim (h c) (k c)
theorem IsB.take {a : List Nat} (h : IsB a) (n : Nat) : IsB (a.take n) := fun c hc => h c (List.mem_of_mem_take hc)
theorem IsB.drop {a : List Nat} (h : IsB a) (n : Nat) : IsB (a.drop n) := fun c hc => h c (List.mem_of_mem_drop hc)
theorem t_empty : (Str.ofString "") = T [] := by decide +kernel
theorem t_zero : (Str.ofString (toString (0 : Int))) = T [48] := by decide +kernel
theorem t_one : (Str.ofString (toString (1 : Int))) = T [49] := by decide +kernel
def BitV (v : V) : Prop := v = .str (T [48]) ∨ v = .str (T [49])
theorem bits_of : ∀ us : List V, (∀ u ∈ us, BitV u) → ∃ l : List Nat, IsB l ∧ l.length = us.length ∧ us = l.map fun c => V.str (T [c])
  | [], _ => ⟨[], IsB.nil, rfl, rfl⟩
  | u :: us, h => by
    obtain ⟨l, h1, h2, h3⟩ := bits_of us fun x hx => h x (List.mem_cons_of_mem _ hx)
    rcases h u List.mem_cons_self with e | e
    · exact ⟨48 :: l, fun c hc => (List.mem_cons.mp hc).elim (fun z => .inl z) (h1 c), by simp [h2], by rw [List.map_cons, ← h3, e]⟩
    · exact ⟨49 :: l, fun c hc => (List.mem_cons.mp hc).elim (fun z => .inr z) (h1 c), by simp [h2], by rw [List.map_cons, ← h3, e]⟩
theorem joinL_ones : ∀ l : List Nat, TL.joinL [] (l.map fun c => [c]) = l
  | [] => rfl
  | [c] => rfl
  | c :: d :: r => by
    show [c] ++ ([] ++ TL.joinL [] ((d :: r).map fun c => [c])) = _
    rw [joinL_ones (d :: r)]
    rfl
theorem join_T (a : List Nat) (ys : List (List Nat)) : Txt.join (T a) (ys.map T) = T (TL.joinL a ys) := by
  rw [TL.join_eq]
  refine TL.ext_tl ?_
  rw [TL.tl_join]
  show TL.joinL a _ = TL.joinL a ys
  congr 1
  rw [List.map_map]
  exact List.map_id _
theorem join_bits (l : List Nat) : Txt.join (T []) (l.map fun c => T [c]) = T l := by
  have z := join_T [] (l.map fun c => [c])
  rw [List.map_map, joinL_ones] at z
  exact z
theorem sum_ones : ∀ l : List Nat, ((l.map fun c => T [c]).map (·.length)).sum = l.length
  | [] => rfl
  | c :: r => by
    rw [List.map_cons, List.map_cons, List.sum_cons, sum_ones r, List.length_cons]
    show 1 + r.length = _
    omega
/-! what is evaluated with draws -/
def EvP (p g c : Addr) (G : Hp) (te : TE) (σ : L2.St) (Y : V → Prop) : Prop := ∀ H, Pq G H p g c → ∀ Q : VK, (∀ H' v, Gq p g c G H G H' → Y v → Q v H') → te σ H Q
section
variable {p g c : Addr} {G : Hp} {σ : L2.St} {te ta tb : TE} {v : V} {Y : V → Prop}
theorem ep_ev (h : Ev te σ G v) (hy : Y v) : EvP p g c G te σ Y := fun H hP Q k => h H hP.ex _ fun H1 e1 => k H1 v (Gq.ext hP e1) hy
theorem ep_drw {i : Nat} {z : Int} {E : XK} (hp : σ[i]? = some (some (.ref p))) (hz : Ev te σ G (.int z)) (h0 : 0 < z) (h1 : z ≤ 1000000000) :
    EvP p g c G (tCall spDrw [] E (tCons (tVar i) (tCons te tNil))) σ (fun v => ∃ j : Int, v = .int j ∧ 0 ≤ j ∧ j < z) := fun H hP Q k =>
  ⟨.ref p, hp, hz H hP.ex _ fun H1 e1 => ev_drw (hP.ext e1) h0 h1 (fun H' i g1 h0 h1 => k H' _ ((Gq.ext hP e1).trans g1) ⟨i, rfl, h0, h1⟩) E⟩
theorem Gq.reset {H H' : Hp} {D : Addr} {o o' : HO} (hP : Pq G H p g c) (hD : H D = none) (h : Gq p g c G H (upd G D o) H') : Gq p g c G H (upd G D o') (upd H' D o') := by
  have gD := fresh_back hP.ex hD
  have np := hP.np hD
  have ng := hP.ng hD
  refine ⟨Ex.new gD, fun b hb hh => ?_, fun b u hp hg hb => ?_, ?_⟩
  · have nb : b ≠ D := fun z => hh (by rw [z]; exact hD)
    rw [upd_ne nb]
    exact hb
  · have nb : b ≠ D := fun z => by rw [z, hD] at hb; cases hb
    rw [upd_ne nb]
    exact h.off b u hp hg hb
  · obtain ⟨cs, gs, k, s, m, h1, h2, h3, h4, h5, r⟩ := h.pl.at_
    obtain ⟨cs0, _, _, _, _, i1, i2, i3, _⟩ := hP.at_
    have nc : c ≠ D := fun z => by rw [z, gD] at i1; cases i1
    refine ⟨fun b u hb => ?_, by rw [upd_ne (Ne.symm np)]; exact hP.gp, by rw [upd_ne (Ne.symm ng)]; exact hP.gg, hP.ne, cs0, gs, k, s, m, by rw [upd_ne nc]; exact i1, i2, i3, by rw [upd_ne (Ne.symm np)]; exact h4, by rw [upd_ne (Ne.symm ng)]; exact h5, r⟩
    by_cases z : b = D
    · rw [z, upd_same] at hb ⊢
      exact hb
    · rw [upd_ne z] at hb ⊢
      exact h.pl.ex _ _ (by rw [upd_ne z]; exact hb)
/-- a list comprehension over range(n) with draws, whose items are plain -/
theorem ep_lcR {j : Nat} {vs : List Nat} {M N : Nat} {H : Hp} {Q : VK} (hP : Pq G H p g c) (ha : EvP p g c G ta σ (fun v => ∃ n : Nat, v = .int (n : Int) ∧ M ≤ n ∧ n ≤ N)) (hN : N ≤ 1000) (hw : ∀ x, wipe ((wipe σ vs).set j (some x)) vs = wipe σ vs)
    (he : ∀ (G' : Hp) (i : Nat), Ex G G' → EvP p g c G' te ((wipe σ vs).set j (some (.int (i : Int)))) Y)
    (k : ∀ H' D us, H D = none → Gq p g c G H (upd G D (.lst us)) H' → M ≤ us.length → us.length ≤ N → (∀ u ∈ us, Y u) → Q (.ref D) H') : tLc (iRng1 (tCons ta tNil)) (gName j) tYes te vs σ H Q := by
  refine ha H hP _ fun H1 v g1 hv => ?_
  obtain ⟨n, rfl, hm, hn⟩ := hv
  have hP1 : Pq G H1 p g c := g1.pl
  refine ⟨(n : Int), rfl, by omega, by omega, fun D hD => ?_⟩
  have hHD : H D = none := by
    cases hx : H D with
    | none => rfl
    | some o =>
      rw [g1.off D o (hP1.np hD) (hP1.ng hD) hx] at hD
      cases hD
  refine lc_range (lo := 0) (n := (n : Int).toNat) (fun i H' => ∃ us : List V, us.length = i ∧ (∀ u ∈ us, Y u) ∧ Gq p g c G H1 (upd G D (.lst us)) H') ⟨[], rfl, (fun _ h => by cases h), Gq.new hP1 hD⟩ (fun i H' hi hh => ?_) (fun H' hh => ?_)
  · obtain ⟨us, h1, h2, h3⟩ := hh
    have e0 : (0 : Int) + (i : Int) = (i : Int) := Int.zero_add _
    show wipe ((wipe σ vs).set j (some (.int ((0 : Int) + (i : Int))))) vs = wipe σ vs ∧ te ((wipe σ vs).set j (some (.int ((0 : Int) + (i : Int))))) H' fun y H4 => ∃ acc, H4 D = some (.lst acc) ∧ acc.length < sizeLine ∧ ∃ us : List V, us.length = i + 1 ∧ (∀ u ∈ us, Y u) ∧ Gq p g c G H1 (upd G D (.lst us)) (upd H4 D (.lst (acc ++ [y])))
    rw [e0]
    refine ⟨hw _, he (upd G D (.lst us)) i h3.ex H' h3.pl _ fun H4 y g4 hy => ?_⟩
    have g5 := h3.trans g4
    refine ⟨us, g5.pl.ex _ _ upd_same, sz_lt (by omega), us ++ [y], by simp [h1], fun u hu => (List.mem_append.mp hu).elim (h2 u) fun z => by rw [List.mem_singleton.mp z]; exact hy, ?_⟩
    exact Gq.reset hP1 hD g5
  · obtain ⟨us, h1, h2, h3⟩ := hh
    exact k H' D us hHD (g1.trans h3) (by omega) (by omega) h2
end
section
variable {P : Program} {w : World} {K : PySem.W.Frag} {mg : Str → Option Value} {base : Heap} {f : Addr} {fd : FuncData}
/-- str of a drawn bit -/
theorem ep_bit {p g c : Addr} {G : Hp} {σ : L2.St} {i : Nat} {E : XK} (hp : σ[i]? = some (some (.ref p))) :
    EvP p g c G (tCB (fun xs H Q => ∃ i : Int, xs = [.int i] ∧ i.natAbs.log2 < 1920 ∧ Q (.str (toString i)) H) (tCons (tCall spDrw [] E (tCons (tVar i) (tCons (tC (.int 2)) tNil))) tNil)) σ BitV := fun H hP Q k => by
  refine ep_drw (z := 2) hp ev_c (by decide) (by decide) H hP _ fun H' v g1 hv => ?_
  obtain ⟨j, rfl, h0, h1⟩ := hv
  have hj : j = 0 ∨ j = 1 := by omega
  rcases hj with rfl | rfl
  · exact ⟨0, rfl, by decide, k H' _ g1 (.inl (congrArg V.str t_zero))⟩
  · exact ⟨1, rfl, by decide, k H' _ g1 (.inr (congrArg V.str t_one))⟩
/-- ''.join of drawn bits -/
theorem ep_bits {p g c : Addr} {G : Hp} {σ : L2.St} {ta : TE} {i j : Nat} {vs : List Nat} {E : XK} {M N : Nat} (hp : (wipe σ vs)[i]? = some (some (.ref p))) (hij : i ≠ j) (ha : EvP p g c G ta σ (fun v => ∃ n : Nat, v = .int (n : Int) ∧ M ≤ n ∧ n ≤ N)) (hN : N ≤ 1000) (hw : ∀ x, wipe ((wipe σ vs).set j (some x)) vs = wipe σ vs) :
    EvP p g c G (tM1 (fun x xs H Q => ∃ a p, ∃ ys : List Str, x = .str a ∧ xs = [.ref p] ∧ (SqL K H p (ys.map V.str) ∨ SqT K H p (ys.map V.str)) ∧ (ys.map (·.length)).sum + ys.length * a.length ≤ 16777216 ∧ Q (.str (Txt.join a ys)) H) (tC (.str ""))
      (tLc (iRng1 (tCons ta tNil)) (gName j) tYes (tCB (fun xs H Q => ∃ i : Int, xs = [.int i] ∧ i.natAbs.log2 < 1920 ∧ Q (.str (toString i)) H) (tCons (tCall spDrw [] E (tCons (tVar i) (tCons (tC (.int 2)) tNil))) tNil)) vs)) σ
      (fun v => ∃ l, v = .str (T l) ∧ IsB l ∧ M ≤ l.length ∧ l.length ≤ N) := fun H hP Q k => by
  refine ⟨⟨_, rfl⟩, ?_⟩
  refine ep_lcR (Y := BitV) hP ha hN hw (fun G' n e => ep_bit (by rw [List.getElem?_set_ne (Ne.symm hij)]; exact hp)) fun H' D us hD g1 hml hl hY => ?_
  obtain ⟨l, hb, hl2, rfl⟩ := bits_of us hY
  have hDl := g1.pl.ex _ _ upd_same
  refine ⟨_, D, l.map fun c => T [c], rfl, rfl, .inl (sq_of (by rw [List.map_map]; exact hDl)), ?_, ?_⟩
  · rw [sum_ones, t_empty]
    show l.length + _ * 0 ≤ _
    omega
  · rw [t_empty, join_bits]
    have gD := fresh_back hP.ex hD
    refine k H' _ ⟨Ex.refl _, fun b h _ => h, g1.off, ?_⟩ ⟨l, rfl, hb, by omega, by omega⟩
    obtain ⟨cs, gs, k, s, m, h1, h2, h3, h4, h5, r⟩ := g1.pl.at_
    obtain ⟨cs0, _, _, _, _, i1, i2, i3, _⟩ := hP.at_
    exact ⟨(Ex.new gD).trans g1.pl.ex, hP.gp, hP.gg, hP.ne, cs0, gs, k, s, m, i1, i2, i3, h4, h5, r⟩
/-! _law_bits -/
def spBits : Sp := fun vs H Q _ => ∃ (G : Hp) (p g c : Addr) (m : Nat), vs = [.ref p, .int (m : Int)] ∧ Pq G H p g c ∧ m ≤ 10 ∧ ∀ H' l, Gq p g c G H G H' → IsB l → l.length ≤ m → Q (.str (T l)) H'
abbrev nBits : List Str := ["_law_pool_here", "_law_most", "_law_k"]
end
end Wk

set_option Elab.async false
set_option linter.all false
set_option maxRecDepth 100000
set_option maxHeartbeats 4000000
namespace Wk
open PySem PySem.Spec PyProof.Rows L2 Evl
/-! rows: a text of bits and where to -/
abbrev Row := List Nat × V
def NxV (v : V) : Prop := v = .str "here" ∨ v = .str "drop" ∨ ∃ i : Nat, i < 8 ∧ v = .int (i : Int)
def kvOf (es : List Row) : List (L2.Key × V) := es.map fun e => (.inr (T e.1), e.2)
theorem kv_len (es : List Row) : (kvOf es).length = es.length := List.length_map ..
theorem kv_keys (es : List Row) : (kvOf es).map (·.1) = (es.map fun e => T e.1).map Sum.inr := by
  unfold kvOf
  rw [List.map_map, List.map_map]
  rfl
theorem key_eq {a b : List Nat} : ((.inr (T a) : L2.Key) = .inr (T b)) = (a = b) := propext ⟨fun h => T_inj (by injection h), fun h => by rw [h]⟩
theorem kv_put (es : List Row) (l : List Nat) (v : V) : putK (kvOf es) (.inr (T l)) v = kvOf (putK es l v) := by
  have h1 : ((kvOf es).any fun kv => decide (kv.1 = (.inr (T l) : L2.Key))) = es.any fun kv => decide (kv.1 = l) := by
    unfold kvOf
    rw [List.any_map]
    congr 1
    funext e
    simp only [Function.comp, key_eq]
  unfold putK
  rw [h1]
  split
  · unfold kvOf
    rw [List.map_map, List.map_map]
    refine List.map_congr_left fun e _ => ?_
    simp only [Function.comp, key_eq]
    split <;> rfl
  · unfold kvOf
    rw [List.map_append]
    rfl
theorem kv_val (l : List Nat) : ∀ es : List Row, valV (kvOf es) (.inr (T l)) = valV es l
  | [] => rfl
  | e :: es => by
    obtain ⟨a, v⟩ := e
    by_cases h : a = l
    · rw [valV_pos h]
      exact valV_pos (by rw [h])
    · rw [valV_neg h, ← kv_val l es]
      exact valV_neg (fun z => h (T_inj (by injection z)))
theorem putK_mem {es : List Row} {l : List Nat} {v : V} {e : Row} (h : e ∈ putK es l v) : e = (l, v) ∨ e ∈ es := by
  unfold putK at h
  split at h
  · obtain ⟨x, hx, hh⟩ := List.mem_map.mp h
    split at hh
    · rename_i c
      rw [← hh, c]
      exact .inl rfl
    · rw [← hh]; exact .inr hx
  · rcases List.mem_append.mp h with h | h
    · exact .inr h
    · exact .inl (List.mem_singleton.mp h)
theorem putK_ndE {es : List Row} {l : List Nat} {v : V} (h : (es.map (·.1)).Nodup) : ((putK es l v).map (·.1)).Nodup := by
  cases hv : valV es l with
  | none => exact nd_putK v h hv
  | some u =>
    unfold putK
    split
    · rw [List.map_map]
      have e : (es.map ((fun x : Row => x.1) ∘ fun kv => if kv.1 = l then (kv.1, v) else kv)) = es.map (·.1) := List.map_congr_left fun p _ => by
        show (if p.1 = l then (p.1, v) else p).1 = p.1
        split <;> rfl
      rw [e]
      exact h
    · rename_i c
      exfalso
      rw [valV_any, hv] at c
      exact c rfl
structure EsOk (es : List Row) (m : Nat) : Prop where
  nd : (es.map (·.1)).Nodup
  len : es.length ≤ m
  it : ∀ e ∈ es, IsB e.1 ∧ e.1.length ≤ 10 ∧ NxV e.2
theorem EsOk.nil (m : Nat) : EsOk [] m := ⟨List.nodup_nil, Nat.zero_le _, fun _ h => by cases h⟩
theorem EsOk.put {es : List Row} {i : Nat} {l : List Nat} {v : V} (h : EsOk es i) (h1 : IsB l) (h2 : l.length ≤ 10) (h3 : NxV v) : EsOk (putK es l v) (i + 1) :=
  ⟨putK_ndE h.nd, by have := length_putK es l v; have := h.len; omega, fun e he => (putK_mem he).elim (fun z => by rw [z]; exact ⟨h1, h2, h3⟩) (h.it e)⟩
theorem EsOk.le {es : List Row} {i j : Nat} (h : EsOk es i) (hij : i ≤ j) : EsOk es j := ⟨h.nd, Nat.le_trans h.len hij, h.it⟩
theorem val_at : ∀ {es : List Row} {i : Nat} {e : Row}, (es.map (·.1)).Nodup → es[i]? = some e → valV es e.1 = some e.2
  | [], i, e, _, h => by cases h
  | x :: es, 0, e, _, h => by
    obtain rfl : x = e := Option.some.inj h
    exact valV_pos rfl
  | x :: es, i + 1, e, nd, h => by
    rw [List.map_cons] at nd
    obtain ⟨n1, n2⟩ := List.nodup_cons.mp nd
    have hm : e ∈ es := List.mem_of_getElem? (show es[i]? = some e from h)
    have ne : ¬ x.1 = e.1 := fun z => n1 (by rw [z]; exact List.mem_map.mpr ⟨e, hm, rfl⟩)
    obtain ⟨a, b⟩ := x
    rw [valV_neg ne]
    exact val_at n2 h
/-- the tuples at us are the rows es -/
inductive EsT (H : Hp) : List V → List Row → Prop
  | nil : EsT H [] []
  | cons {b : Addr} {us : List V} {e : Row} {es : List Row} : H b = some (.tup [.str (T e.1), e.2]) → EsT H us es → EsT H (.ref b :: us) (e :: es)
theorem EsT.mono {H H' : Hp} (x : Ex H H') : ∀ {us : List V} {es : List Row}, EsT H us es → EsT H' us es
  | _, _, .nil => .nil
  | _, _, .cons h t => .cons (x _ _ h) (t.mono x)
theorem EsT.length {H : Hp} : ∀ {us : List V} {es : List Row}, EsT H us es → us.length = es.length
  | _, _, .nil => rfl
  | _, _, .cons h t => by simp [t.length]
theorem EsT.at_ {H : Hp} : ∀ {us : List V} {es : List Row} {i : Nat} {u : V}, EsT H us es → us[i]? = some u → ∃ b e, u = .ref b ∧ es[i]? = some e ∧ H b = some (.tup [.str (T e.1), e.2])
  | _, _, i, u, .nil, h => by cases h
  | _, _, 0, u, .cons (b := b) (e := e) hb t, h => ⟨b, e, (Option.some.inj h).symm, rfl, hb⟩
  | _, _, i + 1, u, .cons hb t, h => by
    obtain ⟨b, e, h1, h2, h3⟩ := t.at_ (show _ = some u from h)
    exact ⟨b, e, h1, h2, h3⟩
/-! slices and sums of texts -/
section
variable {σ : L2.St} {H : Hp} {ta tb te : TE} {tl th : TO}
theorem cut_take (l : List Nat) (n : Nat) : cutS (T l) none (some (n : Int)) = T (l.take n) := by
  unfold cutS
  rw [HT.sIx_none, HT.sIx_nat, T_len]
  show T ((l.drop 0).take (min n l.length - 0)) = _
  rw [List.drop_zero, Nat.sub_zero, ← List.take_eq_take_min]
theorem cut_init (l : List Nat) : cutS (T l) none (some (-1)) = T (l.take (l.length - 1)) := by
  unfold cutS
  rw [HT.sIx_none, T_len]
  show T ((l.drop 0).take ((-1 + (l.length : Int)).toNat - 0)) = _
  rw [List.drop_zero, Nat.sub_zero]
  congr 2
  omega
theorem ev_slS {l : List Nat} {lo hi : Option Int} (h : Ev te σ H (.str (T l))) (h1 : EvO tl σ H lo) (h2 : EvO th σ H hi) (hl : l.length ≤ 1000) : Ev (tSl rSlS te tl th) σ H (.str (cutS (T l) lo hi)) := fun H1 e _ q =>
  h H1 e _ fun H2 e2 => h1 H2 (e.trans e2) _ fun H3 e3 => h2 H3 ((e.trans e2).trans e3) _ fun H4 e4 => ⟨T l, rfl, by rw [T_len]; exact sz_of (by omega), q H4 ((e2.trans e3).trans e4)⟩
abbrev rAddS : V → V → Hp → VK → Prop := fun x y H Q => ∃ i j, x = .str i ∧ y = .str j ∧ i.length + j.length ≤ sizeLine ∧ Q (.str (i ++ j)) H
theorem ev_addS {a b : List Nat} (h : Ev ta σ H (.str (T a))) (h1 : Ev tb σ H (.str (T b))) (hl : a.length + b.length ≤ 1000) : Ev (tOp rAddS ta tb) σ H (.str (T (a ++ b))) :=
  ev_op h h1 fun H1 _ Q q => ⟨T a, T b, rfl, rfl, by rw [T_len, T_len]; exact sz_of (by omega), by rw [T_cat]; exact q H1 (Ex.refl _)⟩
theorem t_lit1 : (Str.ofString "1") = T [49] := by decide +kernel
/-- start[:-1] + str(1 - int(start[-1:] == '1')) -/
abbrev tFlip (i : Nat) : TE := tOp rAddS (tSl rSlS (tVar i) tNoPart (tPart (tUn (rU fun i => .int (-i)) (tC (.int 1)))))
  (tCB (fun xs H Q => ∃ i : Int, xs = [.int i] ∧ i.natAbs.log2 < 1920 ∧ Q (.str (toString i)) H) (tCons (tOp (rI0 fun i j => .int (i - j)) (tC (.int 1))
    (tCB (fun xs H Q => (∃ i, xs = [.int i] ∧ Q (.int i) H) ∨ ∃ k, xs = [.bl k] ∧ Q (.int (if k then 1 else 0)) H) (tCons (tOp rEq (tSl rSlS (tVar i) (tPart (tUn (rU fun i => .int (-i)) (tC (.int 1)))) tNoPart) (tC (.str "1"))) tNil))) tNil))
def flip1 (l : List Nat) : List Nat := l.take (l.length - 1) ++ (if cutS (T l) (some (-1)) none = Str.ofString "1" then [48] else [49])
theorem flip_isB {l : List Nat} (h : IsB l) : IsB (flip1 l) := by
  refine (h.take _).app fun c hc => ?_
  split at hc
  · exact .inl (List.mem_singleton.mp hc)
  · exact .inr (List.mem_singleton.mp hc)
theorem flip_len {l : List Nat} (h : l.length ≤ 10) : (flip1 l).length ≤ 10 := by
  unfold flip1
  rw [List.length_append, List.length_take]
  have : (if cutS (T l) (some (-1)) none = Str.ofString "1" then [48] else [49]).length = 1 := by split <;> rfl
  rw [this]
  omega
theorem ev_flip {i : Nat} {l : List Nat} (h : σ[i]? = some (some (.str (T l)))) (hl : l.length ≤ 10) : Ev (tFlip i) σ H (.str (T (flip1 l))) := by
  have hm1 : EvO (tPart (tUn (rU fun i => .int (-i)) (tC (.int 1)))) σ H (some (-1)) := eo_some (ev_un ev_c ru_neg)
  have h1 := ev_slS (ev_var h) (eo_none (H := H)) hm1 (by omega)
  rw [cut_init] at h1
  refine ev_addS (b := if cutS (T l) (some (-1)) none = Str.ofString "1" then [48] else [49]) h1 ?_ ?_
  · have h2 := ev_op (ev_slS (ev_var h) hm1 (eo_none (H := H)) (by omega)) (ev_c (v := .str "1")) (rv_eq (x := .str (cutS (T l) (some (-1)) none)) rfl)
    intro H1 e Q q
    refine h2 H1 e _ fun H2 e2 => ?_
    by_cases c : cutS (T l) (some (-1)) none = Str.ofString "1"
    · rw [if_pos c] at q
      refine .inr ⟨_, rfl, 1, _, rfl, rfl, _, rfl, ?_⟩
      have d : decide (V.str (cutS (T l) (some (-1)) none) = V.str "1") = true := decide_eq_true (by rw [c])
      rw [d]
      refine ⟨by decide, ?_⟩
      rw [show (toString ((1 : Int) - if true = true then 1 else 0) : String) = toString (0 : Int) from rfl, t_zero]
      exact q H2 e2
    · rw [if_neg c] at q
      refine .inr ⟨_, rfl, 1, _, rfl, rfl, _, rfl, ?_⟩
      have d : decide (V.str (cutS (T l) (some (-1)) none) = V.str "1") = false := decide_eq_false (fun z => c (by injection z))
      rw [d]
      refine ⟨by decide, ?_⟩
      rw [show (toString ((1 : Int) - if false = true then 1 else 0) : String) = toString (1 : Int) from rfl, t_one]
      exact q H2 e2
  · rw [List.length_take]
    have : (if cutS (T l) (some (-1)) none = Str.ofString "1" then [48] else [49]).length = 1 := by split <;> rfl
    rw [this]
    omega
end
/-! what stays grows by all that is new -/
section
variable {p g c : Addr}
theorem Gq.grow {G H H' : Hp} (h : Pq G H p g c) (e : Ex H H') : Gq p g c G H (fun b => match H b with | none => H' b | some _ => G b) H' := by
  obtain ⟨op, hp⟩ := h.p_at
  obtain ⟨og, hg⟩ := h.g_at
  obtain ⟨cs, gs, k, s, m, h1, h2, h3, h4, h5, r⟩ := h.at_
  refine ⟨fun b o hb => ?_, fun b hb hh => ?_, Of2.ex e, fun b o hb => ?_, ?_, ?_, h.ne, cs, gs, k, s, m, ?_, h2, h3, e _ _ h4, e _ _ h5, r⟩
  · rw [h.ex _ _ hb]
    exact hb
  · cases hx : H b with
    | none => exact absurd hx hh
    | some o => exact hb
  · cases hx : H b with
    | none => rw [hx] at hb; exact hb
    | some o' => rw [hx] at hb; exact e _ _ (h.ex _ _ hb)
  · rw [hp]
    exact h.gp
  · rw [hg]
    exact h.gg
  · rw [h.ex _ _ h1]
    exact h1
/-- a new thing that is left again -/
theorem Gq.less {G H H' : Hp} {D : Addr} {o : HO} (hP : Pq G H p g c) (hD : H D = none) (h : Gq p g c G H (upd G D o) H') : Gq p g c G H G H' := by
  have gD := fresh_back hP.ex hD
  obtain ⟨cs, gs, k, s, m, h1, h2, h3, h4, h5, r⟩ := h.pl.at_
  obtain ⟨cs0, _, _, _, _, i1, i2, i3, _⟩ := hP.at_
  exact ⟨Ex.refl _, fun b h _ => h, h.off, (Ex.new gD).trans h.pl.ex, hP.gp, hP.gg, hP.ne, cs0, gs, k, s, m, i1, i2, i3, h4, h5, r⟩
end
/-! [(k, d[k]) for k in d] -/
def rowY (H0 : Hp) (es : List Row) : Nat → V → Hp → Prop := fun i u H => ∃ b e, u = .ref b ∧ es[i]? = some e ∧ H0 b = none ∧ H b = some (.tup [.str (T e.1), e.2])
theorem rowY_good (H0 : Hp) (es : List Row) : GoodY (rowY H0 es) :=
  ⟨fun i u H H' e ⟨b, r, h1, h2, h3, h4⟩ => ⟨b, r, h1, h2, h3, e _ _ h4⟩, fun i u H D l hD ⟨b, r, h1, h2, h3, h4⟩ => ⟨b, r, h1, h2, h3, by
    rw [off_at (fun z => by rw [z, hD] at h4; cases h4)]
    exact h4⟩⟩
theorem grown_rows {H0 H G : Hp} {es : List Row} (hG : ∀ b, H0 b = none → G b = H b) : ∀ (n k : Nat) (us : List V), k + n = es.length → Grown (rowY H0 es) H ((List.range' k n)) us → EsT G us (es.drop k)
  | 0, k, us, hk, h => by
    have : us = [] := h
    rw [this, List.drop_of_length_le (by omega)]
    exact .nil
  | n + 1, k, us, hk, h => by
    rw [List.range'_succ] at h
    obtain ⟨u, r, rfl, ⟨b, e, rfl, h2, h3, h4⟩, h5⟩ := h
    have ih := grown_rows hG n (k + 1) r (by omega) h5
    have hkl : k < es.length := by omega
    rw [List.getElem?_eq_getElem hkl] at h2
    rw [List.drop_eq_getElem_cons hkl, Option.some.inj h2]
    exact .cons (by rw [hG b h3]; exact h4) ih
theorem upTo_all (n : Nat) : upTo (fun _ => true) n = List.range' 0 n := by
  unfold upTo
  rw [List.filter_eq_self.mpr fun _ _ => rfl, List.range_eq_range']
theorem q_rows {p g c : Addr} {G H : Hp} {D : Addr} {es : List Row} {n j m : Nat} {vs : List Nat} {σ : L2.St} {Q : VK} (hP : Pq G H p g c) (hσ : σ[n]? = some (some (.ref D))) (hσ2 : ∀ x, ((wipe σ vs).set j (some x))[n]? = some (some (.ref D))) (hj : ∀ x, ((wipe σ vs).set j (some x))[j]? = some (some x)) (hw : ∀ x, wipe ((wipe σ vs).set j (some x)) vs = wipe σ vs)
    (hD : H D = some (.dK (kvOf es))) (hes : EsOk es m) (hm : m ≤ 1000)
    (k : ∀ G' H' L us, Gq p g c G H G' H' → G' L = some (.lst us) → EsT G' us es → Q (.ref L) H') :
    tLockE (tLc (iKeys (tVar n)) (gName j) tYes (tTup (tCons (tVar j) (tCons (tDGet (tVar n) (tVar j)) tNil))) vs) σ H Q := by
  have hl := hes.len
  refine ⟨D, .dK (kvOf es), hD, trivial, fun od => ⟨.ref D, hσ, D, od, rfl, .inl ⟨kvOf es, upd_same, fun L hL => ?_⟩⟩⟩
  have nLD : L ≠ D := fun z => by rw [z, upd_same] at hL; cases hL
  have hHL : H L = none := by rw [upd_ne nLD] at hL; exact hL
  refine grow_lc (Y := rowY H es) (walk_keys (o := od) (kvs := kvOf es)) (Yx := fun i x => ∃ k v, (kvOf es)[i]? = some (k, v) ∧ x = kV k) (rowY_good H es) (fun _ => true) hL (by rw [kv_len]; omega) (fun H' e => e _ _ upd_same) hw (fun _ _ _ _ _ _ => et_yes) (fun i x H' e hi hx _ => ?_) (fun us H' e hus gr => ?_)
  · obtain ⟨kk, v, hx, rfl⟩ := hx
    unfold kvOf at hx
    rw [List.getElem?_map] at hx
    cases hi : es[i]? with
    | none => rw [hi] at hx; cases hx
    | some r =>
      rw [hi] at hx
      have hx := Option.some.inj hx
      injection hx with hx1 hx2
      subst hx1 hx2
      intro H1 e1 Q1 q1
      refine ⟨.str (T r.1), hj _, .ref D, hσ2 _, .str (T r.1), hj _, D, r.2, rfl, .inl ⟨kvOf es, .inr (T r.1), .inr ⟨od, e1 _ _ (e _ _ upd_same)⟩, rfl, by rw [kv_val]; exact (val_at hes.nd hi).symm⟩, by show 2 ≤ sizeLine; decide, fun b hb => q1 _ _ (Ex.new hb) ⟨b, r, rfl, hi, ?_, upd_same⟩⟩
      have h1 := fresh_back (e.trans e1) hb
      by_cases z : b = D
      · rw [z, upd_same] at h1; cases h1
      · rw [upd_ne z] at h1; exact h1
  · have eH : Ex H (upd H' D (.dK (kvOf es))) := fun b o hb => by
      by_cases z : b = D
      · rw [z, hD] at hb
        cases hb
        rw [z]
        exact upd_same
      · rw [upd_ne z]
        exact e _ _ (by rw [upd_ne z]; exact hb)
    refine ⟨e _ _ upd_same, k _ _ L us (Gq.grow hP eH) ?_ ?_⟩
    · show (match H L with | none => _ | some _ => _) = _
      rw [hHL]
      dsimp only
      rw [upd_ne nLD]
      exact hus
    · rw [kv_len, upTo_all] at gr
      refine grown_rows (H0 := H) (H := H') (k := 0) (fun b hb => ?_) es.length us (Nat.zero_add _) gr
      show (match H b with | none => _ | some _ => _) = _
      rw [hb]
      dsimp only
      rw [upd_ne (fun z => by rw [z, hD] at hb; cases hb)]
end Wk

set_option Elab.async false
set_option linter.all false
set_option maxRecDepth 100000
set_option maxHeartbeats 4000000
namespace Wk
open PySem PySem.Spec PyProof.Rows L2 Evl
section
variable {P : Program} {w : World} {K : PySem.W.Frag} {mg : Str → Option Value} {base : Heap} {f : Addr} {fd : FuncData}
/-- a call of _law_bits -/
theorem ep_callBits {p g c : Addr} {G : Hp} {σ : L2.St} {i : Nat} {te : TE} {m : Nat} {E : XK} (hp : σ[i]? = some (some (.ref p))) (hz : Ev te σ G (.int (m : Int))) (hm : m ≤ 10) :
    EvP p g c G (tCall spBits [] E (tCons (tVar i) (tCons te tNil))) σ (fun v => ∃ l, v = .str (T l) ∧ IsB l ∧ l.length ≤ m) := fun H hP Q k =>
  ⟨.ref p, hp, hz H hP.ex _ fun H1 e1 => ⟨G, p, g, c, m, rfl, hP.ext e1, hm, fun H' l g1 h1 h2 => k H' _ ((Gq.ext hP e1).trans g1) ⟨l, rfl, h1, h2⟩⟩⟩
/-! _law_entries -/
def spEnt : Sp := fun vs H Q _ => ∃ (G : Hp) (p g c nl : Addr) (m : Nat) (nxs : List V), vs = [.ref p, .int (m : Int), .ref nl] ∧ Pq G H p g c ∧ m ≤ 24 ∧ G nl = some (.lst nxs) ∧ 1 ≤ nxs.length ∧ nxs.length ≤ 100 ∧ (∀ v ∈ nxs, NxV v) ∧
  ∀ G' H' L us es, Gq p g c G H G' H' → G' L = some (.lst us) → EsT G' us es → EsOk es m → Q (.ref L) H'
abbrev nEnt : List Str := ["_law_pool_here", "_law_many", "_law_nexts", "_law_known", "_law_k", "_law_bits_here", "_law_kind", "_law_earlier"]
end
end Wk

set_option Elab.async false
set_option linter.all false
set_option maxRecDepth 100000
set_option maxHeartbeats 4000000
/-! sorted of tuples (text, whole number or text), by the text -/
namespace SrtT
open PySem PySem.Spec PyProof.Rows L2 SrtO
open PySem.W (KatTups)
def IsSP (h : Heap) (v : Value) (x : Str) (y : Value) : Prop := ∃ a o t n, v = .ref a ∧ h.get? a = some o ∧ o.cls = .type "tuple" ∧ o.data = .seq #[.str x t, y] n
theorem IsSP.keeps {h h' : Heap} {v : Value} {x : Str} {y : Value} (p : IsSP h v x y) (k : ∀ b o, h.get? b = some o → o.cls = .type "tuple" → h'.get? b = some o) : IsSP h' v x y := by
  obtain ⟨a, o, t, n, e, ho, hc, hd⟩ := p
  exact ⟨a, o, t, n, e, k _ _ ho hc, hc, hd⟩
theorem firsts_sp {h : Heap} : ∀ {vs : List Value}, (∀ v ∈ vs, ∃ x y, IsSP h v x y) → ∃ fs : List Value, KatTups h vs fs ∧ fs.length = vs.length ∧ ∀ f ∈ fs, ∃ x t, f = Value.str x t
  | [], _ => ⟨[], KatTups.nil, rfl, fun _ hm => by simp at hm⟩
  | v :: vs, hp => by
    obtain ⟨fs, h1, h2, h3⟩ := firsts_sp (vs := vs) fun v' hm => hp v' (List.mem_cons_of_mem _ hm)
    obtain ⟨x, y, a, o, t, n, e, ho, hc, hd⟩ := hp v (List.mem_cons_self ..)
    subst e
    refine ⟨.str x t :: fs, KatTups.cons ho hc hd rfl h1, by rw [List.length_cons, List.length_cons, h2], fun f hm => ?_⟩
    rcases List.mem_cons.mp hm with rfl | hm
    · exact ⟨x, t, rfl⟩
    · exact h3 f hm
def ltX (a b : List Nat) : Bool := decide (a < b)
theorem swo_X : Swo ltX := by
  refine ⟨fun x y h => ?_, fun x y z h1 h2 => ?_⟩
  · exact decide_eq_false (List.lt_asymm (of_decide_eq_true h))
  · exact decide_eq_false (List.not_lt.mpr (List.le_trans (List.not_lt.mp (of_decide_eq_false h1)) (List.not_lt.mp (of_decide_eq_false h2))))
theorem swo_of {α : Type} (k : α → List Nat) : Swo fun x y => ltX (k x) (k y) := ⟨fun x y h => swo_X.asym _ _ h, fun x y z h1 h2 => swo_X.tr _ _ _ h1 h2⟩
section
variable {prog : Program} {w : World} {A : Around} {E : Value → Shared → Prop} {s : Shared}
def Flat2 (z : V) : Prop := (∃ i, z = .int i) ∨ ∃ x, z = .str x
theorem sp_cmp {vs : List Value} {k : Value → Str} {m : Str → V} (hm : ∀ v ∈ vs, Flat2 (m (k v))) (hp : ∀ v ∈ vs, ∃ y, IsSP s.heap v (k v) y ∧ RelV (m (k v)) y) :
    Cmp prog w A s (tuples' true) (fun p => p.1 ∈ vs) (lt2 fun v u => ltX (k v).cps.toList (k u).cps.toList) := by
  intro p q hp1 hq1
  obtain ⟨y, h1, r1⟩ := hp _ hp1
  obtain ⟨y', h2, r2⟩ := hp _ hq1
  have f1 := hm _ hp1
  show wpAny (model prog w) A (keyLt' (tuples' true) p.1 q.1) (fun r s' => s' = s ∧ r = ltX (k p.1).cps.toList (k q.1).cps.toList) (fun _ _ => False) s
  generalize k p.1 = x at h1 r1 f1 ⊢
  generalize k q.1 = x' at h2 r2 ⊢
  obtain ⟨a, o, t, n, e, ho, hc, hd⟩ := h1
  obtain ⟨a', o', t', n', e', ho', hc', hd'⟩ := h2
  rw [e, e']
  refine PySem.W.kat_lt ho hd ho' hd' ?_
  show PySem.W.KatLex prog w A true (decide (2 < 2)) _ [(.str x t, .str x' t'), (y, y')] 0 s
  refine PySem.W.kat_cons (SeqAt.EqAt.str_str x t x' t' prog w _ _ ?_)
  refine PySem.W.kat_go (fun e1 => ?_) (fun e1 => ?_)
  · have ex : x = x' := by simpa using e1
    subst ex
    have e3 : ltX x.cps.toList x.cps.toList = false := swo_X.refl _
    rcases f1 with ⟨i, hi⟩ | ⟨z, hz⟩
    · rw [hi] at r1 r2
      obtain ⟨t1, rfl⟩ := r1
      obtain ⟨t2, rfl⟩ := r2
      refine PySem.W.kat_yes (PySem.W.kat_cons (SeqAt.EqAt.int_int i t1 i t2 prog w _ _ ?_))
      refine PySem.W.kat_go (fun e2 => ?_) (fun e2 => absurd e2 (by simp))
      exact PySem.W.kat_yes (PySem.W.kat_nil ⟨rfl, e3.symm⟩)
    · rw [hz] at r1 r2
      obtain ⟨t1, rfl⟩ := r1
      obtain ⟨t2, rfl⟩ := r2
      refine PySem.W.kat_yes (PySem.W.kat_cons (SeqAt.EqAt.str_str z t1 z t2 prog w _ _ ?_))
      refine PySem.W.kat_go (fun e2 => ?_) (fun e2 => absurd e2 (by simp))
      exact PySem.W.kat_yes (PySem.W.kat_nil ⟨rfl, e3.symm⟩)
  · exact PySem.W.kat_no (oneLt_str ⟨rfl, rfl⟩)
theorem sp_sortable {a : Addr} {vs : List Value} {k : Value → Str} {m : Str → V} (h0 : 0 < vs.length) (hm : ∀ v ∈ vs, Flat2 (m (k v))) (hp : ∀ v ∈ vs, ∃ y, IsSP s.heap v (k v) y ∧ RelV (m (k v)) y) (ha : ∀ o, s.heap.get? a = some o → o.cls ≠ .type "tuple") : SortableO prog w A s a vs fun v u => ltX (k v).cps.toList (k u).cps.toList := by
  intro h' keep
  have hp' : ∀ v ∈ vs, ∃ y, IsSP h' v (k v) y ∧ RelV (m (k v)) y := fun v hm => by
    obtain ⟨y, h1, h2⟩ := hp v hm
    exact ⟨y, h1.keeps fun b o e c => keep b o (fun z => by subst z; exact ha o e c) e, h2⟩
  obtain ⟨fs, h1, h2, h3⟩ := firsts_sp fun v hm => by
    obtain ⟨y, h1, h2⟩ := hp' v hm
    exact ⟨_, y, h1⟩
  refine ⟨tuples' true, fun Q E hq => ?_, sp_cmp hm hp'⟩
  refine PySem.W.kat_kind (T := .type "str") h1 (by omega) (fun f hm => ?_) (by rfl) ?_
  · obtain ⟨x, t, rfl⟩ := h3 f hm
    exact PySem.W.Looks.now
  · have e : (Value.type "str" != Value.type "tuple") = true := by first | decide +kernel | rfl | decide
    rw [e]
    exact hq
/-- a list or a tuple in the heap -/
def IsSeq (h : Heap) (l : Addr) (vs : List Value) : Prop := ∃ (T : String) (o : Obj) (n : Nat), (T = "list" ∨ T = "tuple") ∧ h.get? l = some o ∧ o.cls = .type T ∧ o.data = .seq vs.toArray n
theorem sorted_seq {l : Addr} {vs : List Value} {ltv : Value → Value → Bool} {Q : Value → Shared → Prop} (O : Swo ltv) (hl : IsSeq s.heap l vs) (hz : vs.length ≤ sizeLine)
    (hS : 2 ≤ vs.length → ∀ (h₁ : Heap) (a : Addr), h₁.get? a = some (seqObj "list" vs.toArray 0) → (∀ b o, s.heap.get? b = some o → b ≠ a ∧ h₁.get? b = some o) → SortableO prog w A.in1.in1 { s with heap := h₁ } a vs ltv)
    (h : ∀ (h' : Heap) (d : Addr) (out : List Value), Srtd ltv out → Stb ltv out vs → (∀ b o, s.heap.get? b = some o → h'.get? b = some o) → s.heap.get? d = none → (∃ n, h'.get? d = some (seqObj "list" out.toArray n)) → Q (.ref d) { s with heap := h' }) :
    wpAny (model prog w) A (call (.builtin "sorted") [.ref l]) Q E s := by
  obtain ⟨T, o, n, hT, ho, hc, hd⟩ := hl
  refine Calls.call_function_entry kind_sorted plain_sorted entry_sorted (args_sorted1 _) ?_
  unfold Builtin.«sorted»
  refine wpAny_bind (m := checkCount "sorted" 1 1 _) (wpAny_pure ?_)
  refine wpAny_bind (wpAny_collect_seq l hT ho hc hd (fun h1 k1 => ?_) (by rw [List.size_toArray]; exact hz))
  refine wpAny_bind (wpAny_newList ?_ hz)
  have hoL : (h1.push (seqObj "list" vs.toArray 0)).get? h1.objs.size = some (seqObj "list" vs.toArray 0) := Heap.get?_push_size _ rfl
  have keep : ∀ b o, s.heap.get? b = some o → b ≠ h1.objs.size ∧ (h1.push (seqObj "list" vs.toArray 0)).get? b = some o := fun b o q => ⟨Nat.ne_of_lt (Heap.lt_size (k1 _ _ q)), Heap.get?_push_of_some _ (k1 _ _ q)⟩
  show wpAny _ _ _ _ _ { s with heap := h1.push (seqObj "list" vs.toArray 0) }
  refine wpAny_bind (wpAny_holding (wpAny_call_entry slot_list_sort ⟨_, hoL, rfl⟩ entry_list_sort (list_sort_ord O hoL hz (fun h2 => hS h2 _ _ hoL keep) fun out hs hb => ⟨_, rfl, ?_⟩) (args_list_sort _)))
  refine wpAny_pure ⟨_, rfl, h _ _ out hs hb (fun b o q => ?_) ?_ (sortedHeap_at hoL)⟩
  · rw [sortedHeap_old (keep b o q).1 (Heap.lt_size (keep b o q).2)]
    exact (keep b o q).2
  · show s.heap.get? h1.objs.size = none
    cases hx : s.heap.get? h1.objs.size with
    | none => rfl
    | some o => exact absurd (Heap.lt_size (k1 _ _ hx)) (Nat.lt_irrefl _)
theorem sorted_sp {l : Addr} {vs : List Value} {k : Value → Str} {m : Str → V} {Q : Value → Shared → Prop} (hl : IsSeq s.heap l vs) (hz : vs.length ≤ sizeLine) (hm : ∀ v ∈ vs, Flat2 (m (k v))) (hp : ∀ v ∈ vs, ∃ y, IsSP s.heap v (k v) y ∧ RelV (m (k v)) y)
    (h : ∀ (h' : Heap) (d : Addr) (out : List Value), Srtd (fun v u => ltX (k v).cps.toList (k u).cps.toList) out → Stb (fun v u => ltX (k v).cps.toList (k u).cps.toList) out vs → (∀ b o, s.heap.get? b = some o → h'.get? b = some o) → s.heap.get? d = none → (∃ n, h'.get? d = some (seqObj "list" out.toArray n)) → Q (.ref d) { s with heap := h' }) :
    wpAny (model prog w) A (call (.builtin "sorted") [.ref l]) Q E s := by
  refine sorted_seq (swo_of fun v => (k v).cps.toList) hl hz (fun h2 h₁ a ha kk => ?_) h
  refine sp_sortable (s := { s with heap := h₁ }) (by omega) hm (fun v hm => ?_) fun o e => ?_
  · obtain ⟨y, h1, h2⟩ := hp v hm
    exact ⟨y, h1.keeps fun b o e _ => (kk b o e).2, h2⟩
  · have e' : some o = some (seqObj "list" vs.toArray 0) := e.symm.trans ha
    cases e'
    intro c
    exact absurd (Value.type.inj c) (by decide)
end
end SrtT
namespace Wk
open PySem PySem.Spec PyProof.Rows L2 Evl SrtT
/-- what row stands at a reference -/
def rowAt (H : Hp) : V → Row
  | .ref t => match H t with
    | some (.tup [.str z, v]) => (z.cps.toList, v)
    | _ => ([], .non)
  | _ => ([], .non)
theorem rowAt_of {H : Hp} {b : Addr} {e : Row} (h : H b = some (.tup [.str (T e.1), e.2])) : rowAt H (.ref b) = e := by
  unfold rowAt
  dsimp only
  rw [h]
theorem EsT.rows {H : Hp} : ∀ {us : List V} {es : List Row}, EsT H us es → us.map (rowAt H) = es ∧ ∀ u ∈ us, ∃ b, u = .ref b ∧ H b = some (.tup [.str (T (rowAt H u).1), (rowAt H u).2])
  | _, _, .nil => ⟨rfl, fun _ h => by cases h⟩
  | _, _, .cons (b := b) (us := us) (e := e) h t => by
    obtain ⟨h1, h2⟩ := t.rows
    refine ⟨by rw [List.map_cons, h1, rowAt_of h], fun u hu => ?_⟩
    rcases List.mem_cons.mp hu with rfl | hu
    · exact ⟨b, rfl, by rw [rowAt_of h]; exact h⟩
    · exact h2 u hu
theorem est_of {H : Hp} : ∀ {us : List V}, (∀ u ∈ us, ∃ b, u = .ref b ∧ H b = some (.tup [.str (T (rowAt H u).1), (rowAt H u).2])) → EsT H us (us.map (rowAt H))
  | [], _ => .nil
  | u :: us, h => by
    obtain ⟨b, rfl, hb⟩ := h u List.mem_cons_self
    exact .cons hb (est_of fun x hx => h x (List.mem_cons_of_mem _ hx))
/-- rows by their texts -/
abbrev ltR (x y : Row) : Bool := ltX x.1 y.1
/-- es' is es sorted -/
def SrR (es' es : List Row) : Prop := SrtO.Srtd ltR es' ∧ SrtO.Stb ltR es' es
theorem SrR.uniq {a b es : List Row} (h : SrR a es) (k : SrR b es) : a = b :=
  SrtO.stb_uniq (swo_of fun e : Row => e.1) h.1 k.1 (h.2.trans ⟨k.2.perm.symm, fun x => (k.2.cls x).symm⟩)
def rSortR (K : PySem.W.Frag) : List V → Hp → VK → Prop := fun vs H Q => ∃ (a : Addr) (xs : List V) (es : List Row), vs = [V.ref a] ∧ (SqL K H a xs ∨ SqT K H a xs) ∧ EsT H xs es ∧ (es.map (·.1)).Nodup ∧ (∀ e ∈ es, Flat2 e.2) ∧
  ∀ ys es' p, SrR es' es → EsT H ys es' → H p = none → Q (.ref p) (upd H p (.lst ys))
theorem valE_mem {es : List Row} {e : Row} (nd : (es.map (·.1)).Nodup) (h : e ∈ es) : valV es e.1 = some e.2 := by
  obtain ⟨i, hi⟩ := List.getElem?_of_mem h
  exact val_at nd hi
section
variable {X : Cx}
theorem cr_sortedR {K : PySem.W.Frag} (hK : X.K = K) : CallR X (.builtin "sorted") (rSortR K) := by
  subst hK
  intro pins s σ H vs us Q I r h
  obtain ⟨a, xs, es, rfl, hs, he, nd, hf, q⟩ := h
  have hseq : ∃ its, Vals xs its ∧ IsSeq s.heap a its ∧ xs.length ≤ sizeLine := by
    rcases hs with hs | hs
    · obtain ⟨its, rv, hl, hz⟩ := I.list hs
      obtain ⟨o, h1, h2, n, h3⟩ := hl.isList
      exact ⟨its, rv, ⟨"list", o, n, .inl rfl, h1, h2, h3⟩, hz⟩
    · obtain ⟨its, rv, hl, hz⟩ := I.tuple hs
      obtain ⟨o, h1, h2, n, h3⟩ := hl
      exact ⟨its, rv, ⟨"tuple", o, n, .inr rfl, h1, h2, h3⟩, hz⟩
  obtain ⟨its, rv, hl, hz⟩ := hseq
  obtain ⟨u, rfl, ru⟩ := vals1 r
  obtain rfl : u = Value.ref a := ru
  obtain ⟨hr1, hr2⟩ := he.rows
  obtain ⟨e1, e2⟩ := refs_back rv fun x m => by
    obtain ⟨t, e, _⟩ := hr2 x m
    exact ⟨t, e⟩
  have hmem : ∀ x ∈ xs, rowAt H x ∈ es := fun x hx => by rw [← hr1]; exact List.mem_map.mpr ⟨x, hx, rfl⟩
  have hback : ∀ v ∈ its, backV v ∈ xs := fun v hv => by rw [e1]; exact List.mem_map.mpr ⟨v, hv, rfl⟩
  have hval : ∀ v ∈ its, (match valV es (rowAt H (backV v)).1 with | some z => z | none => V.non) = (rowAt H (backV v)).2 := fun v hv => by
    rw [valE_mem nd (hmem _ (hback v hv))]
  refine sorted_sp (k := fun u => T (rowAt H (backV u)).1) (m := fun z => match valV es z.cps.toList with | some z => z | none => V.non) hl (by rw [← rv.length]; exact hz) (fun v hv => ?_) (fun v hv => ?_) fun h' d out h1 h2 kp hd hn => ?_
  · show Flat2 (match valV es (rowAt H (backV v)).1 with | some z => z | none => V.non)
    rw [hval v hv]
    exact hf _ (hmem _ (hback v hv))
  · obtain ⟨t, rfl⟩ := e2 v hv
    obtain ⟨t', e, ht⟩ := hr2 _ (hback _ hv)
    cases e
    obtain ⟨_, its2, r2, o, ho, hc, n, hd⟩ := I.hok _ _ ht
    obtain ⟨u1, u2, rfl, ri, rj⟩ := vals2 r2
    obtain ⟨t1, rfl⟩ := ri
    refine ⟨u2, ⟨t, o, t1, n, rfl, ho, hc, hd⟩, ?_⟩
    show RelV (match valV es (rowAt H (backV (.ref t))).1 with | some z => z | none => V.non) u2
    rw [hval _ hv]
    exact rj
  · have h3 : ∀ u ∈ out, ∃ a, u = Value.ref a := fun u hu => e2 u (h2.perm.mem_iff.mp hu)
    obtain ⟨n, hn⟩ := hn
    have hb0 : SrtO.Stb (fun x y => ltX (rowAt H x).1 (rowAt H y).1) (out.map backV) xs := by
      rw [e1]
      exact SrtO.Stb.map (swo_of fun x => (rowAt H x).1) backV h2
    have hb : SrtO.Stb ltR ((out.map backV).map (rowAt H)) (xs.map (rowAt H)) := SrtO.Stb.map (swo_of fun e : Row => e.1) (rowAt H) hb0
    rw [hr1] at hb
    have hsr : SrtO.Srtd ltR ((out.map backV).map (rowAt H)) := SrtO.srtd_map (SrtO.srtd_map h1)
    refine ⟨.ref d, upd H d (.lst (out.map backV)), I.laidN (t' := s.toks) kp hd (I.hok.gone hd) ⟨?_, out, n, vals_back h3, hn⟩, rfl, q _ _ d ⟨hsr, hb⟩ (est_of fun u hu => hr2 u (hb0.perm.mem_iff.mp hu)) (I.hok.gone hd)⟩
    rw [hb0.perm.length_eq]
    exact hz
end
end Wk

set_option Elab.async false
set_option linter.all false
set_option maxRecDepth 100000
set_option maxHeartbeats 4000000
namespace Wk
open PySem PySem.Spec PyProof.Rows L2 Evl
/-- no text, whatever is laid -/
def NSt (K : PySem.W.Frag) (H : Hp) (v : V) : Prop := ∀ H', Ex H H' → ∃ t, TyX K H' v t ∧ PySem.W.kitOne K t (.type "str") = some false
theorem NSt.mono {K : PySem.W.Frag} {H H' : Hp} {v : V} (e : Ex H H') (h : NSt K H v) : NSt K H' v := fun H2 e2 => h H2 (e.trans e2)
theorem nst_dq {K : PySem.W.Frag} {H : Hp} {v : V} {d : PyData} (h : Dq H v d) (hs : isStr d = false) : NSt K H v := fun H' e => ⟨_, (h.mono e).ty, kit_ty (by rw [kit_str, hs])⟩
def bitB (c : Nat) : Bool := decide (c = 48) || decide (c = 49)
def rngB (l : List Nat) : Bool := decide (l.length ≤ 10) && l.all bitB
def adrB (l : List Nat) : Bool := rngB l && decide (l.length = 10)
theorem all_bits {l : List Nat} (h : IsB l) : l.all bitB = true := by
  rw [List.all_eq_true]
  intro c hc
  unfold bitB
  rcases h c hc with z | z <;> simp [z]
theorem rng_yes {l : List Nat} (h : IsB l) (hl : l.length ≤ 10) : rngB l = true := by
  unfold rngB
  rw [all_bits h, Bool.and_true]
  exact decide_eq_true hl
theorem adr_yes {l : List Nat} (h : IsB l) (hl : l.length = 10) : adrB l = true := by
  unfold adrB
  rw [rng_yes h (by omega), Bool.true_and]
  exact decide_eq_true hl
theorem bit_in (c : Nat) : inV (.str (T [c])) [.str "0", .str "1"] = bitB c := by
  have e0 : (Str.ofString "0") = T [48] := by decide +kernel
  have e1 : (Str.ofString "1") = T [49] := by decide +kernel
  show (eqV (.str (Str.ofString "0")) (.str (T [c])) || (eqV (.str (Str.ofString "1")) (.str (T [c])) || false)) = _
  rw [e0, e1]
  show ((T [48] == T [c]) || ((T [49] == T [c]) || false)) = _
  unfold bitB
  have b : ∀ a : Nat, (T [a] == T [c]) = decide (c = a) := fun a => by
    by_cases z : c = a
    · rw [z]; simp
    · rw [decide_eq_false z]
      exact beq_eq_false_iff_ne.mpr fun y => z (by have := T_inj y; simpa using this.symm)
  rw [b, b, Bool.or_false]
section
variable {K : PySem.W.Frag} {σ : L2.St} {H : Hp} {ta te : TE}
theorem ev_isiN {v : V} (h : Ev ta σ H v) (hn : NSt K H v) : Ev (tCB (rIsi K) (tCons ta (tCons (tC (.ty "str")) tNil))) σ H (.bl false) := fun H1 e Q q =>
  h H1 e _ fun H2 e2 => by
    obtain ⟨t, ht, hk⟩ := hn H2 (e.trans e2)
    exact ⟨v, .ty "str", t, .type "str", false, rfl, .ty "str", ht, hk, q H2 e2⟩
theorem ev_isiS {x : Str} (h : Ev ta σ H (.str x)) : Ev (tCB (rIsi K) (tCons ta (tCons (tC (.ty "str")) tNil))) σ H (.bl true) := ev_isi h (.str x) (kit_str (.str x))
abbrev rLenStr : List V → Hp → VK → Prop := fun xs H Q => ∃ z : Str, xs = [.str z] ∧ z.length ≤ sizeLine ∧ Q (.int z.length) H
theorem ev_lenS {l : List Nat} (h : Ev ta σ H (.str (T l))) (hl : l.length ≤ 1000) : Ev (tCB rLenStr (tCons ta tNil)) σ H (.int (l.length : Int)) := fun H1 e Q q =>
  h H1 e _ fun H2 e2 => ⟨T l, rfl, by rw [T_len]; exact sz_of (by omega), by rw [T_len]; exact q H2 e2⟩
/-- a list comprehension over a text -/
theorem el_lcS {l : List Nat} {j : Nat} {vs : List Nat} (v : Nat → V) (h : Ev ta σ H (.str (T l))) (hl : l.length ≤ 1000) (hw : ∀ x, wipe ((wipe σ vs).set j (some x)) vs = wipe σ vs)
    (he : ∀ (i c : Nat) H1, Ex H H1 → l[i]? = some c → Ev te ((wipe σ vs).set j (some (.str (T [c])))) H1 (v i)) :
    EvL (tLc (iStr ta) (gName j) tYes te vs) σ H (given l.length (fun _ => true) v) := fun H0 e Q q => h H0 e _ fun H1 e1 => by
  have hsz : (T l).cps.size = l.length := by simp [T]
  refine ⟨T l, rfl, fun Dl hD => ?_⟩
  have w := walk_str (z := T l)
  rw [hsz] at w
  refine lc_it w (Cw H1 (fun _ => true) v Dl) ⟨hD, Ex.new hD, upd_same⟩ (fun _ _ _ _ => trivial) (fun i x H' H2 hi p y => ?_) (fun H' p => q Dl H' (fresh_back e1 p.1) (e1.trans p.2.1) p.2.2)
  obtain ⟨rfl, c, hc, rfl⟩ := y
  have hc' : l[i]? = some c := by simpa [T] using hc
  exact ⟨hw _, cw_turn p (by omega) et_yes (fun _ => he i c H1 (e.trans e1) hc')⟩
theorem rng_map (l : List Nat) (f : Nat → V) : (List.range l.length).map (fun i => f (l.getD i 0)) = l.map f := by
  apply List.ext_getElem
  · simp
  · intro i h1 h2
    have h3 : i < l.length := by simpa using h1
    simp [List.getD_eq_getElem?_getD, List.getElem?_eq_getElem h3]
end
theorem op_in_seqK {X : Cx} {K : PySem.W.Frag} (hK : X.K = K) : OpR X (compareOp .In) (rIn K false) := by
  subst hK
  exact op_in_seq
section
variable {P : Program} {w : World} {K : PySem.W.Frag} {mg : Str → Option Value} {base : Heap} {f : Addr} {fd : FuncData}
/-! is_range -/
abbrev spRange (K : PySem.W.Frag) : Sp := spP fun H vs z => ∃ v, vs = [v] ∧ ((∃ l, v = .str (T l) ∧ l.length ≤ 100 ∧ z = .bl (rngB l)) ∨ (NSt K H v ∧ z = .bl false))
abbrev sRange : Stmt := top 13
abbrev nRange : List Str := ["thing", "sign"]
theorem scRange : FnScope nRange ["thing"] (defScope sRange) := ⟨rfl, rfl, rfl, by decide +kernel, rfl, by decide +kernel, by decide +kernel⟩
theorem ok_range (B : Bl mg) {t1 : Tok} (hM : mg "ADDRESS_LENGTH" = some (.int 10 t1)) (F : FnP K "is_range" sRange f fd) : FnOk P w K mg base CX0 1 f fd ["thing"] (spRange K) := by
  refine F.ok scRange (fun vs H Q E h => ?_) (fun cdv A outer s H vs Q E hr h => ?_)
  · obtain ⟨z, ⟨v, rfl, _⟩, _⟩ := h
    rfl
  · obtain ⟨z, ⟨v, rfl, hv⟩, k⟩ := h
    refine ⟨_, pss_cons (ps_if (PW.pt (pw_or (pt_not (pt_val (pe_callB call_isi (by rfl) B.isi boot_isinstance (pa_cons (pv 0) (pa_cons (pe_bltn (v := .ty "str") (by rfl) B.str PyProof.Rows.boot_str rfl) pa_nil)))))
        (pw_or1 (pt_cmpR op_gt (pe_callB call_len_str (by rfl) B.len PySem.boot_len (pa_cons (pv 0) pa_nil)) (pe_glob (v := .int 10) (by rfl) hM ⟨_, rfl⟩) (nomark _))))) (pss_one (ps_ret pe_bl)) pss_nil)
      (pss_one (ps_ret (pe_callB (cr_all rfl) (by rfl) B.all boot_all (pa_cons (pe_lc (own := [("sign", 1)]) (g := gName 1) (tt := tYes) rfl scRange.nd (pi_str (pv 0)) (blkOk_by (N := nRange) (sc := defScope sRange) (by decide +kernel))
        (fun _ _ _ _ _ => pg_name (i := 1) scRange.nd rfl (Or.inl rfl)) (fun _ _ _ _ _ => pts_nil) (fun _ _ _ _ _ => pe_cmpR (op_in_seqK (K := K) rfl) (pv 1) (pe_tup (pa_cons pe_str (pa_cons pe_str pa_nil))) rfl)) pa_nil)))), ?_⟩
    rcases hv with ⟨l, rfl, hl, rfl⟩ | ⟨hn, rfl⟩
    · have v0 : ∀ {H1 : Hp}, Ev (tVar 0) (start nRange [V.str (T l)]) H1 (.str (T l)) := ev_var rfl
      refine q_when (b := !true || decide ((10 : Int) < (l.length : Int))) (et_or (et_not (et_B (ev_isiS (K := K) v0))) fun _ => et_test (ev_op (r := rI0 fun i j => .bl (decide (j < i))) (ev_lenS v0 (by omega)) ev_c rv_I0)) (fun hb H1 e1 => ?_) (fun hb H1 e1 => ?_)
      · have hb' : (10 : Int) < (l.length : Int) := of_decide_eq_true (by simpa using hb)
        have e : rngB l = false := by
          unfold rngB
          rw [decide_eq_false (by omega), Bool.false_and]
        rw [e] at k
        exact k H1 e1
      · have hb' : ¬ (10 : Int) < (l.length : Int) := of_decide_eq_false (by simpa using hb)
        have e : rngB l = (l.map bitB).all id := by
          unfold rngB
          rw [decide_eq_true (by omega), Bool.true_and, List.all_map]
          rfl
        rw [e] at k
        have hl := el_lcS (H := H1) (σ := start nRange [V.str (T l)]) (ta := tVar 0) (te := tOp (rIn K false) (tVar 1) (tTup (tCons (tC (.str "0")) (tCons (tC (.str "1")) tNil)))) (j := 1) (vs := [1]) (fun i => V.bl (bitB (l.getD i 0))) v0 (by omega) (fun x => rfl) (fun i c H2 e2 hc => by
          have z := ev_inS (K := K) (σ := (wipe (start nRange [V.str (T l)]) [1]).set 1 (some (.str (T [c])))) (H := H2) (ta := tVar 1) (x := .str (T [c])) (ev_var rfl) (es_tup (xs := [.str "0", .str "1"]) (ea_cons ev_c (ea_cons ev_c ea_nil)) (by show 2 ≤ 100000; decide)) rfl rfl
          rw [bit_in] at z
          rw [show l.getD i 0 = c by rw [List.getD_eq_getElem?_getD, hc]; rfl]
          exact z)
        rw [given_yesAll, rng_map l fun c => V.bl (bitB c)] at hl
        refine s_ret (v := .bl ((l.map bitB).all id)) (ev_allL (K := K) ?_) fun H2 e2 => k H2 (e1.trans e2)
        rw [List.map_map]
        exact hl
    · have v0 : ∀ {H1 : Hp}, Ev (tVar 0) (start nRange [v]) H1 v := ev_var rfl
      exact q_when (b := !false || false) (et_or (et_not (et_B (ev_isiN (K := K) v0 hn))) fun z => (by cases z)) (fun _ H1 e1 => k H1 e1) (fun z => (by cases z))
/-! is_address -/
abbrev spAddr (K : PySem.W.Frag) : Sp := spP fun H vs z => ∃ v, vs = [v] ∧ ((∃ l, v = .str (T l) ∧ l.length ≤ 100 ∧ z = .bl (adrB l)) ∨ (NSt K H v ∧ z = .bl false))
abbrev sAddr : Stmt := top 14
theorem scAddr : FnScope ["thing"] ["thing"] (defScope sAddr) := ⟨rfl, rfl, rfl, by decide +kernel, rfl, by decide +kernel, by decide +kernel⟩
theorem ok_addr (B : Bl mg) {t1 : Tok} (hM : mg "ADDRESS_LENGTH" = some (.int 10 t1)) (C : Cal P w K mg base "is_range" ["thing"] 1 (spRange K)) (F : FnP K "is_address" sAddr f fd) : FnOk P w K mg base CX0 2 f fd ["thing"] (spAddr K) := by
  refine F.ok scAddr (fun vs H Q E h => ?_) (fun cdv A outer s H vs Q E hr h => ?_)
  · obtain ⟨z, ⟨v, rfl, _⟩, _⟩ := h
    rfl
  · obtain ⟨z, ⟨v, rfl, hv⟩, k⟩ := h
    refine ⟨_, pss_one (ps_ret (pe_and (pe_cal C hr (by rfl) (pa_cons (pv 0) pa_nil)) (pe_one (pe_cmpR op_eq (pe_callB call_len_str (by rfl) B.len PySem.boot_len (pa_cons (pv 0) pa_nil)) (pe_glob (v := .int 10) (by rfl) hM ⟨_, rfl⟩) (nomark _))))), ?_⟩
    rcases hv with ⟨l, rfl, hl, rfl⟩ | ⟨hn, rfl⟩
    · have v0 : ∀ {H1 : Hp}, Ev (tVar 0) (start ["thing"] [V.str (T l)]) H1 (.str (T l)) := ev_var rfl
      refine s_ret (v := .bl (rngB l && decide (V.int (l.length : Int) = V.int 10))) (ev_andV (ev_call (ea_cons v0 ea_nil) (spP_v fun H1 e => ⟨_, rfl, .inl ⟨l, rfl, hl, rfl⟩⟩)) fun _ => ev_op (r := rEq) (ev_lenS v0 (by omega)) ev_c (rv_eq rfl)) ?_
      have e : decide (V.int (l.length : Int) = V.int 10) = decide (l.length = 10) := by
        refine decide_eq_decide.mpr ⟨fun z => ?_, fun z => by rw [z]; rfl⟩
        injection z with z
        omega
      rw [e]
      exact k
    · have v0 : ∀ {H1 : Hp}, Ev (tVar 0) (start ["thing"] [v]) H1 v := ev_var rfl
      exact s_ret (v := .bl (false && false)) (ev_andV (ev_call (ea_cons v0 ea_nil) (spP_v fun H1 e => ⟨_, rfl, .inr ⟨hn.mono e, rfl⟩⟩)) fun z => (by cases z)) k
/-! beginnings -/
def begs (l : List Nat) : List V := (List.range 11).map fun i => .str (T (l.take (10 - i)))
def spBeg : Sp := fun vs H Q _ => ∃ l : List Nat, vs = [.str (T l)] ∧ l.length ≤ 100 ∧ ∀ H' D, Ex H H' → H D = none → H' D = some (.lst (begs l)) → Q (.ref D) H'
abbrev sBeg : Stmt := top 16
abbrev nBeg : List Str := ["address", "length"]
theorem scBeg : FnScope nBeg ["address"] (defScope sBeg) := ⟨rfl, rfl, rfl, by decide +kernel, rfl, by decide +kernel, by decide +kernel⟩
theorem ok_beg (B : Bl mg) {t1 : Tok} (hM : mg "ADDRESS_LENGTH" = some (.int 10 t1)) (F : FnP K "beginnings" sBeg f fd) : FnOk P w K mg base CX0 1 f fd ["address"] spBeg := by
  refine F.ok scBeg (fun vs H Q E h => ?_) (fun cdv A outer s H vs Q E hr h => ?_)
  · obtain ⟨l, rfl, _⟩ := h
    rfl
  · obtain ⟨l, rfl, hl, k⟩ := h
    refine ⟨_, pss_one (ps_ret (pe_lc (own := [("length", 1)]) (g := gName 1) (tt := tYes) rfl scBeg.nd (pi_range3 (by rfl) B.range (pa_cons (pe_glob (v := .int 10) (by rfl) hM ⟨_, rfl⟩) (pa_cons (pe_un un_neg pe_int) (pa_cons (pe_un un_neg pe_int) pa_nil)))) (blkOk_by (N := nBeg) (sc := defScope sBeg) (by decide +kernel))
        (fun _ _ _ _ _ => pg_name (i := 1) scBeg.nd rfl (Or.inl rfl)) (fun _ _ _ _ _ => pts_nil) (fun _ _ _ _ _ => pe_slice sl_str (pv 0) po_none (po_some (pv 1))))), ?_⟩
    refine ⟨1, rfl, 1, rfl, 10, -1, -1, 11, rfl, RgC.neg (i := 10) (j := -1) (by decide) (by decide) (by decide) (by decide), fun Dl hD => ?_⟩
    refine lc_it (walk_rangeC (lo := 10) (c := -1) (n := 11)) (Cw H (fun _ => true) (fun i => V.str (T (l.take (10 - i)))) Dl) ⟨hD, Ex.new hD, upd_same⟩ (fun _ _ _ _ => trivial) (fun i x H' H2 hi p y => ?_) (fun H' p => ?_)
    · obtain ⟨rfl, rfl⟩ := y
      refine ⟨rfl, cw_turn p (by omega) et_yes (fun _ => ?_)⟩
      have z := ev_slS (H := H) (σ := (wipe (start nBeg [V.str (T l)]) [1]).set 1 (some (.int (10 + (i : Int) * -1)))) (l := l) (te := tVar 0) (tl := tNoPart) (th := tPart (tVar 1)) (lo := none) (hi := some (10 + (i : Int) * -1)) (ev_var rfl) eo_none (eo_some (ev_var rfl)) (by omega)
      rw [show (10 + (i : Int) * -1) = ((10 - i : Nat) : Int) by omega, cut_take] at z
      show Ev _ ((wipe (start nBeg [V.str (T l)]) [1]).set 1 (some (.int (10 + (i : Int) * -1)))) H _
      rw [show (10 + (i : Int) * -1) = ((10 - i : Nat) : Int) by omega]
      exact z
    · refine k H' Dl p.2.1 p.1 ?_
      rw [p.2.2, given_yesAll]
      rfl
end
end Wk

set_option Elab.async false
set_option linter.all false
set_option maxRecDepth 100000
set_option maxHeartbeats 4000000
namespace Wk
open PySem PySem.Spec PyProof.Rows L2 Evl
theorem g_two {i j : Nat} {x y : V} {σ : L2.St} {H : Hp} {k : L2.St → Hp → Prop} (h : k ((σ.set i (some x)).set j (some y)) H) : gCons (gName i) (gCons (gName j) gNil) [x, y] σ H k := ⟨_, _, rfl, ⟨_, _, rfl, ⟨rfl, h⟩⟩⟩
/-! rows as data -/
def nxD : V → PyData
  | .str z => .str z
  | .int i => .int i
  | _ => .none
theorem dq_nx {H : Hp} {v : V} (h : NxV v) : Dq H v (nxD v) := by
  rcases h with rfl | rfl | ⟨i, _, rfl⟩
  · exact .str _
  · exact .str _
  · exact .int _
theorem flat_nx {v : V} (h : NxV v) : SrtT.Flat2 v := by
  rcases h with rfl | rfl | ⟨i, _, rfl⟩
  · exact .inr ⟨_, rfl⟩
  · exact .inr ⟨_, rfl⟩
  · exact .inl ⟨_, rfl⟩
def rowD (e : Row) : PyData := .tuple [.str (T e.1), nxD e.2]
theorem EsT.dq {H : Hp} : ∀ {us : List V} {es : List Row}, EsT H us es → (∀ e ∈ es, NxV e.2) → DqA H us (es.map rowD)
  | _, _, .nil, _ => .nil
  | _, _, .cons h t, k => .cons (.tup h (.cons (.str _) (.cons (dq_nx (k _ List.mem_cons_self)) .nil))) (t.dq fun e he => k e (List.mem_cons_of_mem _ he))
/-- a row: a list or a tuple -/
def RowA (H : Hp) (a : Addr) (xs : List V) : Prop := H a = some (.lst xs) ∨ H a = some (.tup xs)
theorem RowA.mono {H H' : Hp} {a : Addr} {xs : List V} (e : Ex H H') (h : RowA H a xs) : RowA H' a xs := h.imp (e _ _) (e _ _)
def isLi : PyData → Bool
  | .list _ => true
  | _ => false
theorem kit_lst (d : PyData) : kitB (tyN d) "list" = some (isLi d) := by
  cases d with
  | none => exact show kitB "NoneType" "list" = some false by decide +kernel
  | bool b => exact show kitB "bool" "list" = some false by decide +kernel
  | int i => exact show kitB "int" "list" = some false by decide +kernel
  | str z => exact show kitB "str" "list" = some false by decide +kernel
  | list ds => exact show kitB "list" "list" = some true by decide +kernel
  | tuple ds => exact show kitB "tuple" "list" = some false by decide +kernel
  | dict ds => exact show kitB "dict" "list" = some false by decide +kernel
section
variable {K : PySem.W.Frag} {σ : L2.St} {H : Hp} {ta : TE}
theorem ev_isiD2 {v : V} {d : PyData} {n m : String} {b c : Bool} (h : Ev ta σ H v) (hd : Dq H v d) (h1 : kitB (tyN d) n = some b) (h2 : kitB (tyN d) m = some c) :
    Ev (tCB (rIsiT K) (tCons ta (tCons (tTup (tCons (tC (.ty n)) (tCons (tC (.ty m)) tNil))) tNil))) σ H (.bl (b || c)) := fun H1 e Q q =>
  h H1 e _ fun H2 e2 => ⟨by show 2 ≤ sizeLine; decide, fun p hp => ⟨v, p, [.ty n, .ty m], .type (tyN d), [.type n, .type m], b || c, rfl, upd_same, .cons (.ty n) (.cons (.ty m) .nil), (hd.mono ((e.trans e2).trans (Ex.new hp))).ty,
    kitAny_cons (kit_ty h1) (fun hb => kitAny_cons (kit_ty h2) (fun hc => by rw [hb, hc]; exact kitAny_nil) (fun hc => by rw [hc]; simp)) (fun hb => by rw [hb]; rfl), q _ (e2.trans (Ex.new hp))⟩⟩
end
/-! for i, x in enumerate(a list or a tuple); for x in a list or a tuple -/
theorem pi_either {X : Cx} {tg e : Expr} {w1 w2 : TI} (h1 : PI X tg e w1) (h2 : PI X tg e w2) : PI X tg e (fun σ H R => w1 σ H R ∨ w2 σ H R) := ⟨fun pins s σ H R I h => h.elim (h1.run pins s σ H R I) (h2.run pins s σ H R I)⟩
theorem pi_enumK {X : Cx} {K : PySem.W.Frag} (hK : X.K = K) {e : Expr} {ta : TA} {p pos tpos : Pos} {elts : List Expr} {kk : Nat} (hg : Gl X "enumerate") (hm : X.mg "enumerate" = none) (ha : PA X [e] ta) (hs : starEach [e] X.env = [(false, eval e X.env)] := by rfl) :
    PI X (.Tuple elts kk tpos) (.Call (.Name "enumerate" p) [e] [] pos) (fun σ H R => iEnum K ta σ H R ∨ iEnumT K ta σ H R) := by
  subst hK
  exact pi_either (pi_enum hg hm ha hs) (pi_enumT hg hm ha hs)
section
variable {K : PySem.W.Frag} {σ : L2.St} {H : Hp} {g : TG} {tu tz : TS} {D : Ends}
theorem s_forEnR {a : Addr} {xs : List V} {tl : TE} (h : Ev tl σ H (.ref a)) (hx : RowA H a xs) (Pv : Nat → L2.St → Hp → Prop) (h0 : ∀ H1, Ex H H1 → Pv 0 σ H1) (hl : ∀ i σ' H', i ≤ xs.length → Pv i σ' H' → RowA H a xs → (∀ o, H a = some o → H' a = some o))
    (hs : ∀ i y T σ' H', xs[i]? = some y → Pv i σ' H' → H' T = none → g (.ref T) σ' (upd H' T (.tup [.int (i : Nat), y])) fun σ2 H2 => tu { D with nx := Pv (i + 1), ct := Pv (i + 1), bk := D.nx } σ2 H2) (hd : ∀ σ' H', Pv xs.length σ' H' → D.nx σ' H') : tFor (fun σ H R => iEnum K (tCons tl tNil) σ H R ∨ iEnumT K (tCons tl tNil) σ H R) g tu D σ H := by
  rcases hx with hx | hx
  · exact .inl (h H (Ex.refl H) _ fun H1 e => ⟨a, xs, rfl, sq_of (e _ _ hx), for_it (walk_enum (K := K) (a := a) (xs := xs)) Pv (h0 H1 e) (fun i σ' H' hi p => sq_of (hl i σ' H' hi p (.inl hx) _ hx)) (fun i x σ' H2 H3 hi p y => by
      obtain ⟨T, u, y, rfl, hT, rfl, hu, hy⟩ := y
      cases hu
      exact hs i y T σ' H2 hy p hT) hd⟩)
  · exact .inr (h H (Ex.refl H) _ fun H1 e => ⟨a, xs, rfl, st_of (e _ _ hx), for_it (walk_enumT (K := K) (a := a) (xs := xs)) Pv (h0 H1 e) (fun i σ' H' hi p => st_of (hl i σ' H' hi p (.inr hx) _ hx)) (fun i x σ' H2 H3 hi p y => by
      obtain ⟨T, u, y, rfl, hT, rfl, hu, hy⟩ := y
      cases hu
      exact hs i y T σ' H2 hy p hT) hd⟩)
end
theorem val_none {l : List Nat} : ∀ {es : List Row}, l ∉ es.map (·.1) → valV es l = none
  | [], _ => rfl
  | e :: es, h => by
    obtain ⟨a, b⟩ := e
    rw [valV_neg (fun z => h (by rw [← z]; exact List.mem_cons_self))]
    exact val_none fun z => h (List.mem_cons_of_mem _ z)
theorem nd_at {es : List Row} {i : Nat} {e : Row} (nd : (es.map (·.1)).Nodup) (h : es[i]? = some e) : e.1 ∉ (es.take i).map (·.1) := by
  have z : ((es.take (i + 1)).map (·.1)).Nodup := List.Sublist.nodup ((List.take_sublist _ _).map _) nd
  rw [take_snoc h, List.map_append, List.nodup_append] at z
  exact fun hm => z.2.2 _ hm _ (by simp) rfl
section
variable {P : Program} {w : World} {K : PySem.W.Frag} {mg : Str → Option Value} {base : Heap} {f : Addr} {fd : FuncData}
/-! is_row, is_tuple_of -/
abbrev spIsRow : Sp := spP fun H vs z => ∃ (v : V) (d : PyData), vs = [v] ∧ Dq H v d ∧ z = .bl (isLi d || isTu d)
abbrev sIsRow : Stmt := top 8
theorem scIsRow : FnScope ["thing"] ["thing"] (defScope sIsRow) := ⟨rfl, rfl, rfl, by decide +kernel, rfl, by decide +kernel, by decide +kernel⟩
theorem ok_isRow (B : Bl mg) (F : FnP K "is_row" sIsRow f fd) : FnOk P w K mg base CX0 1 f fd ["thing"] spIsRow := by
  refine F.ok scIsRow (fun vs H Q E h => ?_) (fun cdv A outer s H vs Q E hr h => ?_)
  · obtain ⟨z, ⟨v, d, rfl, _⟩, _⟩ := h
    rfl
  · obtain ⟨z, ⟨v, d, rfl, hv, rfl⟩, k⟩ := h
    exact ⟨_, pss_one (ps_ret (pe_callB call_isiT (by rfl) B.isi boot_isinstance (pa_cons (pv 0) (pa_cons (pe_tup (pa_cons (pe_bltn (v := .ty "list") (by rfl) B.list PyProof.Rows.boot_list rfl) (pa_cons (pe_bltn (v := .ty "tuple") (by rfl) B.tuple PyProof.Rows.boot_tuple rfl) pa_nil))) pa_nil)))),
      s_ret (ev_isiD2 (ev_var rfl) hv (kit_lst d) (kit_tup d)) k⟩
abbrev sTupOf : Stmt := top 9
theorem scTupOf : FnScope ["many", "thing"] ["many", "thing"] (defScope sTupOf) := ⟨rfl, rfl, rfl, by decide +kernel, rfl, by decide +kernel, by decide +kernel⟩
abbrev spTupOf2 : Sp := spP fun H vs z => ∃ (m : Int) (v : V) (d : PyData), vs = [.int m, v] ∧ Dq H v d ∧ z = .bl (isTu d && decide (V.int ((itemsT d).length : Int) = V.int m))
theorem ok_tupOf2 (B : Bl mg) (F : FnP K "is_tuple_of" sTupOf f fd) : FnOk P w K mg base CX0 1 f fd ["many", "thing"] spTupOf2 := by
  refine F.ok scTupOf (fun vs H Q E h => ?_) (fun cdv A outer s H vs Q E hr h => ?_)
  · obtain ⟨z, ⟨m, v, d, rfl, _⟩, _⟩ := h
    rfl
  · obtain ⟨z, ⟨m, v, d, rfl, hv, rfl⟩, k⟩ := h
    refine ⟨_, pss_one (ps_ret (pe_and (pe_callB call_isi (by rfl) B.isi boot_isinstance (pa_cons (pv 1) (pa_cons (pe_bltn (v := .ty "tuple") (by rfl) B.tuple PyProof.Rows.boot_tuple rfl) pa_nil)))
      (pe_one (pe_cmpR op_eq (pe_callB call_len_seq (by rfl) B.len PySem.boot_len (pa_cons (pv 1) pa_nil)) (pv 0) (nomark _))))), ?_⟩
    refine s_ret (ev_andV (ev_isi (K := K) (ev_var rfl) hv (kit_tup d)) fun ht => ?_) k
    obtain ⟨t, xs, ds, rfl, rfl, hT, hxs⟩ := tu_inv hv ht
    have v1 : Ev (tVar 1) (start ["many", "thing"] [.int m, .ref t]) H (.ref t) := ev_var rfl
    have v0 : Ev (tVar 0) (start ["many", "thing"] [.int m, .ref t]) H (.int m) := ev_var rfl
    have z := ev_op (r := rEq) (ev_lenT (K := K) v1 (st_of hT)) v0 (rv_eq rfl)
    rw [hxs.length] at z
    exact z
/-! is_end -/
abbrev spEnd (K : PySem.W.Frag) : Sp := spP fun H vs z => ∃ x : Str, vs = [.str x] ∧ z = .bl (inV (.str x) [.str "here", .str "drop"])
abbrev sEnd : Stmt := top 25
theorem scEnd : FnScope ["thing"] ["thing"] (defScope sEnd) := ⟨rfl, rfl, rfl, by decide +kernel, rfl, by decide +kernel, by decide +kernel⟩
theorem ok_end (B : Bl mg) {t1 t2 : Tok} (hM1 : mg "HERE" = some (.str "here" t1)) (hM2 : mg "DROP" = some (.str "drop" t2)) (F : FnP K "is_end" sEnd f fd) : FnOk P w K mg base CX0 1 f fd ["thing"] (spEnd K) := by
  refine F.ok scEnd (fun vs H Q E h => ?_) (fun cdv A outer s H vs Q E hr h => ?_)
  · obtain ⟨z, ⟨x, rfl, _⟩, _⟩ := h
    rfl
  · obtain ⟨z, ⟨x, rfl, rfl⟩, k⟩ := h
    refine ⟨_, pss_one (ps_ret (pe_and (pe_callB call_isi (by rfl) B.isi boot_isinstance (pa_cons (pv 0) (pa_cons (pe_bltn (v := .ty "str") (by rfl) B.str PyProof.Rows.boot_str rfl) pa_nil)))
      (pe_one (pe_cmpR (op_in_seqK (K := K) rfl) (pv 0) (pe_tup (pa_cons (pe_glob (v := .str "here") (by rfl) hM1 ⟨_, rfl⟩) (pa_cons (pe_glob (v := .str "drop") (by rfl) hM2 ⟨_, rfl⟩) pa_nil))) rfl)))), ?_⟩
    have v0 : ∀ {H1 : Hp}, Ev (tVar 0) (start ["thing"] [V.str x]) H1 (.str x) := ev_var rfl
    exact s_ret (v := .bl (true && inV (.str x) [.str "here", .str "drop"])) (ev_andV (ev_isiS (K := K) v0) fun _ => ev_inS (K := K) v0 (es_tup (xs := [.str "here", .str "drop"]) (ea_cons ev_c (ea_cons ev_c ea_nil)) (by show 2 ≤ 100000; decide)) rfl rfl) k
/-! is_entry -/
abbrev spEntry : Sp := spP fun H vs z => ∃ (b : Addr) (e : Row), vs = [.ref b] ∧ H b = some (.tup [.str (T e.1), e.2]) ∧ IsB e.1 ∧ e.1.length ≤ 10 ∧ NxV e.2 ∧ z = .bl true
abbrev sEntry : Stmt := top 24
theorem scEntry : FnScope ["thing"] ["thing"] (defScope sEntry) := ⟨rfl, rfl, rfl, by decide +kernel, rfl, by decide +kernel, by decide +kernel⟩
theorem ok_entry {t1 : Tok} (hM : mg "MOST_ROUTERS" = some (.int 8 t1)) (CT : Cal P w K mg base "is_tuple_of" ["many", "thing"] 1 spTupOf2) (CR : Cal P w K mg base "is_range" ["thing"] 1 (spRange K)) (CO : Cal P w K mg base "is_router" ["size", "thing"] 3 spRouter)
    (CE : Cal P w K mg base "is_end" ["thing"] 1 (spEnd K)) (F : FnP K "is_entry" sEntry f fd) : FnOk P w K mg base CX0 4 f fd ["thing"] spEntry := by
  refine F.ok scEntry (fun vs H Q E h => ?_) (fun cdv A outer s H vs Q E hr h => ?_)
  · obtain ⟨z, ⟨b, e, rfl, _⟩, _⟩ := h
    rfl
  · obtain ⟨z, ⟨b, e, rfl, hb, hB, hl, hn, rfl⟩, k⟩ := h
    refine ⟨_, pss_cons (ps_if (PW.pt (pw_or (pt_not (pt_val (pe_cal CT hr (by rfl) (pa_cons pe_int (pa_cons (pv 0) pa_nil))))) (pw_or1 (pt_not (pt_val (pe_cal CR hr (by rfl) (pa_cons (pe_ix ix_tup (pv 0) pe_int (fun _ _ => rfl)) pa_nil))))))) (pss_one (ps_ret pe_bl)) pss_nil)
      (pss_one (ps_ret (pe_or (pe_cal CO hr (by rfl) (pa_cons (pe_glob (v := .int 8) (by rfl) hM ⟨_, rfl⟩) (pa_cons (pe_ix ix_tup (pv 0) pe_int (fun _ _ => rfl)) pa_nil))) (pe_one (pe_cal CE hr (by rfl) (pa_cons (pe_ix ix_tup (pv 0) pe_int (fun _ _ => rfl)) pa_nil)))))), ?_⟩
    have v0 : ∀ {H1 : Hp}, Ev (tVar 0) (start ["thing"] [V.ref b]) H1 (.ref b) := ev_var rfl
    have i0 : ∀ {H1 : Hp}, Ex H H1 → Ev (tOp (rIxT K) (tVar 0) (tC (.int 0))) (start ["thing"] [V.ref b]) H1 (.str (T e.1)) := fun {H1} e1 => ev_op v0 ev_c (rv_ixT (st_of (e1 _ _ hb)) rfl)
    have i1 : ∀ {H1 : Hp}, Ex H H1 → Ev (tOp (rIxT K) (tVar 0) (tC (.int 1))) (start ["thing"] [V.ref b]) H1 e.2 := fun {H1} e1 => ev_op v0 ev_c (rv_ixT (st_of (e1 _ _ hb)) rfl)
    have hd : Dq H (.ref b) (rowD e) := .tup hb (.cons (.str _) (.cons (dq_nx hn) .nil))
    have c1 : Ev (tCall spTupOf2 [] E0 (tCons (tC (.int 2)) (tCons (tVar 0) tNil))) (start ["thing"] [V.ref b]) H (.bl true) := ev_call (ea_cons ev_c (ea_cons v0 ea_nil)) (spP_v fun H1 e1 => ⟨2, _, rowD e, rfl, hd.mono e1, rfl⟩)
    have c2 : Ev (tCall (spRange K) [] E0 (tCons (tOp (rIxT K) (tVar 0) (tC (.int 0))) tNil)) (start ["thing"] [V.ref b]) H (.bl true) := ev_call (ea_cons (i0 (Ex.refl _)) ea_nil) (spP_v fun H1 e1 => ⟨_, rfl, .inl ⟨e.1, rfl, by omega, by rw [rng_yes hB hl]⟩⟩)
    refine q_when (b := !true || !true) (et_or (et_not (et_B c1)) fun _ => et_not (et_B c2)) (fun z => by cases z) fun _ H1 e1 => ?_
    have c3 : Ev (tCall spRouter [] E0 (tCons (tC (.int 8)) (tCons (tOp (rIxT K) (tVar 0) (tC (.int 1))) tNil))) (start ["thing"] [V.ref b]) H1 (.bl (isR 8 (nxD e.2))) := ev_call (ea_cons ev_c (ea_cons (i1 e1) ea_nil)) (spP_v fun H2 e2 => ⟨8, _, nxD e.2, rfl, dq_nx hn, rfl⟩)
    have hin : ∀ x : Str, e.2 = .str x → inV (.str x) [.str "here", .str "drop"] = true := fun x hx => by
      rcases hn with z | z | ⟨i, _, z⟩
      · rw [hx] at z
        injection z with z
        rw [z]
        decide +kernel
      · rw [hx] at z
        injection z with z
        rw [z]
        decide +kernel
      · rw [hx] at z
        cases z
    have key : ∀ q, isR 8 (nxD e.2) = q → ∃ q2, (q || q2) = true ∧ (q = false → Ev (tCall (spEnd K) [] E0 (tCons (tOp (rIxT K) (tVar 0) (tC (.int 1))) tNil)) (start ["thing"] [V.ref b]) H1 (.bl q2)) := fun q hq => by
      cases q with
      | true => exact ⟨true, rfl, fun z => by cases z⟩
      | false =>
        refine ⟨true, rfl, fun _ => ?_⟩
        have hs : ∃ x : Str, e.2 = .str x := by
          rcases hn with z | z | ⟨i, hi, z⟩
          · exact ⟨_, z⟩
          · exact ⟨_, z⟩
          · exfalso
            rw [z] at hq
            have : isR 8 (nxD (V.int (i : Int))) = true := by
              show (true && (decide ((0 : Int) ≤ (i : Int)) && decide ((i : Int) ≤ 8 - 1))) = true
              rw [decide_eq_true (by omega), decide_eq_true (by omega)]
              rfl
            rw [this] at hq
            cases hq
        obtain ⟨x, hx⟩ := hs
        exact ev_call (ea_cons (i1 e1) ea_nil) (spP_v fun H2 e2 => ⟨x, by rw [hx]; rfl, by rw [hin x hx]⟩)
    obtain ⟨q2, h1, h2⟩ := key _ rfl
    refine s_ret (v := .bl (isR 8 (nxD e.2) || q2)) (ev_orV c3 h2) fun H2 e2 => ?_
    rw [h1]
    exact k H2 (e1.trans e2)
/-! refuse_wrong_entries -/
def spRWE : Sp := fun vs H Q _ => ∃ (a : Addr) (us : List V) (es : List Row), vs = [.ref a] ∧ RowA H a us ∧ EsT H us es ∧ EsOk es 24 ∧ ∀ H', Ex H H' → Q .non H'
abbrev sRWE : Stmt := top 23
abbrev nRWE : List Str := ["entries", "ahead", "index", "item"]
theorem scRWE : FnScope nRWE ["entries"] (defScope sRWE) := ⟨rfl, rfl, rfl, by decide +kernel, rfl, by decide +kernel, by decide +kernel⟩
theorem ok_rwe (B : Bl mg) {t1 : Tok} (hM : mg "MOST_ENTRIES" = some (.int 24 t1)) (CI : Cal P w K mg base "is_row" ["thing"] 1 spIsRow) (CE : Cal P w K mg base "is_entry" ["thing"] 4 spEntry) (F : FnP K "refuse_wrong_entries" sRWE f fd) : FnOk P w K mg base CX0 5 f fd ["entries"] spRWE := by
  refine F.ok scRWE (fun vs H Q E h => ?_) (fun cdv A outer s H vs Q E hr h => ?_)
  · obtain ⟨a, us, es, rfl, _⟩ := h
    rfl
  · obtain ⟨a, us, es, rfl, hrow, hus, hes, k⟩ := h
    have hu : (A.deeper (envOfC "refuse_wrong_entries" (defScope sRWE) s.heap.objs.size f cdv)).units + 1 < cLine := by have := hr.un; omega
    refine ⟨_, pss_cons (ps_if (PW.pt (pw_or (pt_not (pt_val (pe_cal CI hr (by rfl) (pa_cons (pv 0) pa_nil)))) (pw_or1 (pt_cmpR op_gt (pe_callB call_len_seq (by rfl) B.len PySem.boot_len (pa_cons (pv 0) pa_nil)) (pe_glob (v := .int 24) (by rfl) hM ⟨_, rfl⟩) (nomark _))))) (pss_one ps_never) pss_nil)
      (pss_cons (ps_set (i := 1) scRWE.nd rfl (Or.inl rfl) pe_dnewK)
      (pss_one (ps_for (passes_of rfl) rfl (pi_enumK (K := K) rfl (by rfl) B.enum (pa_cons (pv 0) pa_nil)) (pg_tup rfl (pgs_cons (pg_name (i := 2) scRWE.nd rfl (.inl rfl)) (pgs_cons (pg_name (i := 3) scRWE.nd rfl (.inl rfl)) pgs_nil)))
        (pss_cons (ps_if (PW.pt (pw_or (pt_not (pt_val (pe_cal CE hr (by rfl) (pa_cons (pv 3) pa_nil)))) (pw_or1 (pt_cmp (pc_din hu (pe_ix ix_tup (pv 3) pe_int (fun _ _ => rfl)) (pv 1)))))) (pss_one ps_never) pss_nil)
        (pss_one (ps_asg pe_bl (pg_sub (pv 1) (pe_ix ix_tup (pv 3) pe_int (fun _ _ => rfl)) (set_dict hu)))))))), ?_⟩
    have hul := hus.length
    have hel := hes.len
    have hnx : ∀ e ∈ es, NxV e.2 := fun e he => (hes.it e he).2.2
    have v0 : ∀ {H1 : Hp}, Ev (tVar 0) (start nRWE [V.ref a]) H1 (.ref a) := ev_var rfl
    have c1 : Ev (tCall spIsRow [] E0 (tCons (tVar 0) tNil)) (start nRWE [V.ref a]) H (.bl true) := by
      rcases hrow with hx | hx
      · exact ev_call (ea_cons v0 ea_nil) (spP_v fun H1 e1 => ⟨_, .list (es.map rowD), rfl, .lst (e1 _ _ hx) ((hus.dq hnx).mono e1), rfl⟩)
      · exact ev_call (ea_cons v0 ea_nil) (spP_v fun H1 e1 => ⟨_, .tuple (es.map rowD), rfl, .tup (e1 _ _ hx) ((hus.dq hnx).mono e1), rfl⟩)
    have c2 : Ev (tCB (rLenS K) (tCons (tVar 0) tNil)) (start nRWE [V.ref a]) H (.int (us.length : Int)) := by
      rcases hrow with hx | hx
      · exact ev_len v0 (sq_of hx)
      · exact ev_lenT v0 (st_of hx)
    refine q_when (b := !true || decide ((24 : Int) < (us.length : Int))) (et_or (et_not (et_B c1)) fun _ => et_test (ev_op (r := rI0 fun i j => .bl (decide (j < i))) c2 ev_c rv_I0)) (fun hb H1 e1 => ?_) fun _ H1 e1 => ?_
    · have hb' : (24 : Int) < (us.length : Int) := of_decide_eq_true (by simpa using hb)
      omega
    intro D hD
    have eD := Ex.new (o := .dK []) hD
    have hD1 : (upd H1 D (.dK [])) D = some (.dK []) := upd_same
    have nHD := fresh_back e1 hD
    refine g_name ?_
    generalize hH2 : upd H1 D (.dK []) = H2 at *
    have e2 := e1.trans eD
    refine s_forEnR (K := K) (H := H2) (xs := us) (ev_var rfl) (hrow.mono e2) (fun i σ' H' => ∃ o1 o2 kvs, σ' = [some (.ref a), some (.ref D), o1, o2] ∧ Ex H H' ∧ H' D = some (.dK kvs) ∧ kvs.length ≤ i ∧ ∀ l, valV kvs (.inr (T l)) ≠ none → l ∈ (es.take i).map (·.1)) (fun H3 e3 => ⟨_, _, [], rfl, e2.trans e3, e3 _ _ hD1, Nat.le_refl _, fun l hl => absurd rfl hl⟩) (fun i σ' H' _ hp hr o ho => ?_) (fun i y T0 σ' H' hy hp hT0 => ?_) (fun σ' H' hp => ?_)
    · obtain ⟨_, _, _, _, e3, _⟩ := hp
      rcases hrow with hx | hx
      · rw [e2 _ _ hx] at ho; rw [← ho]; exact e3 _ _ hx
      · rw [e2 _ _ hx] at ho; rw [← ho]; exact e3 _ _ hx
    · obtain ⟨o1, o2, kvs, rfl, e3, hDk, hkl, hks⟩ := hp
      have eT := Ex.new (o := .tup [.int (i : Nat), y]) hT0
      have hTT : (upd H' T0 (.tup [.int (i : Nat), y])) T0 = some (.tup [.int (i : Nat), y]) := upd_same
      generalize upd H' T0 (.tup [.int (i : Nat), y]) = H4 at *
      have e4 := e3.trans eT
      obtain ⟨b, e, rfl, he, hb⟩ := hus.at_ hy
      obtain ⟨hB, hl, hn⟩ := hes.it e (List.mem_of_getElem? he)
      refine ⟨T0, _, rfl, st_of hTT, rfl, g_two ?_⟩
      change tSeq _ _ _ [some (.ref a), some (.ref D), some (.int (i : Nat)), some (.ref b)] H4
      have hDk4 := eT _ _ hDk
      have hnot := nd_at hes.nd he
      have hval : valV kvs (.inr (T e.1)) = none := by
        cases hv : valV kvs (.inr (T e.1)) with
        | none => rfl
        | some v => exact absurd (hks e.1 (by rw [hv]; exact fun z => by cases z)) hnot
      have i0 : ∀ {H1 : Hp}, Ex H H1 → Ev (tOp (rIxT K) (tVar 3) (tC (.int 0))) [some (.ref a), some (.ref D), some (.int (i : Nat)), some (.ref b)] H1 (.str (T e.1)) := fun {H1} e1 => ev_op (ev_var rfl) ev_c (rv_ixT (st_of (e1 _ _ hb)) rfl)
      have d1 : Ev (tCall spEntry [] E0 (tCons (tVar 3) tNil)) [some (.ref a), some (.ref D), some (.int (i : Nat)), some (.ref b)] H4 (.bl true) := ev_call (ea_cons (ev_var rfl) ea_nil) (spP_v fun H5 e5 => ⟨b, e, rfl, e5 _ _ (e4 _ _ hb), hB, hl, hn, rfl⟩)
      have d2 : Ev (tDIn (tOp (rIxT K) (tVar 3) (tC (.int 0))) (tVar 1)) [some (.ref a), some (.ref D), some (.int (i : Nat)), some (.ref b)] H4 (.bl false) := fun H5 e5 Q q => i0 e4 H5 e5 _ fun H6 e6 => ⟨.ref D, rfl, D, none, rfl, .inl ⟨kvs, .inr (T e.1), .inl (e6 _ _ (e5 _ _ hDk4)), rfl, hval.symm⟩, q H6 e6⟩
      refine q_when (b := !true || false) (et_or (et_not (et_B d1)) fun _ => et_B d2) (fun z => by cases z) fun _ H5 e5 => ?_
      refine ⟨.ref D, rfl, i0 (e4.trans e5) H5 (Ex.refl _) _ fun H6 e6 => ⟨D, _, rfl, DPut.k (k := .inr (T e.1)) (e6 _ _ (e5 _ _ hDk4)) (sz_lt (by have := (List.getElem?_eq_some_iff.mp hy).1; omega)), ?_⟩⟩
      refine ⟨_, _, _, rfl, Ex.mut ((e4.trans e5).trans e6) nHD, upd_same, by have := length_putK kvs (.inr (T e.1)) (V.bl true); omega, fun l hl => ?_⟩
      rw [take_snoc he, List.map_append]
      rw [valV_put] at hl
      by_cases z : (.inr (T l) : L2.Key) = .inr (T e.1)
      · have z2 : l = e.1 := T_inj (by injection z)
        rw [z2]
        exact List.mem_append_right _ (by simp)
      · rw [if_neg z] at hl
        exact List.mem_append_left _ (hks l hl)
    · obtain ⟨_, _, _, rfl, e3, _⟩ := hp
      exact k H' e3
end
end Wk

set_option Elab.async false
set_option linter.all false
set_option maxRecDepth 100000
set_option maxHeartbeats 4000000
namespace Wk
open PySem PySem.Spec PyProof.Rows L2 Evl
abbrev FnM (K : PySem.W.Frag) (x q : Str) (st : Stmt) (f : Addr) (fd : FuncData) : Prop := FunD K x q (defArgs st) (defBody st) (defScope st) [] [] f fd
def Of1 (p : Addr) (H H' : Hp) : Prop := ∀ b o, b ≠ p → H b = some o → H' b = some o
theorem Of1.trans {p : Addr} {H H1 H2 : Hp} (a : Of1 p H H1) (b : Of1 p H1 H2) : Of1 p H H2 := fun c o h1 h => b c o h1 (a c o h1 h)
theorem Of1.ex {p : Addr} {H H1 : Hp} (e : Ex H H1) : Of1 p H H1 := fun c o _ h => e c o h
theorem Of1.upd (x : Addr) (H : Hp) (o : HO) : Of1 x H (L2.upd H x o) := fun b u hb h => by rw [upd_ne hb]; exact h
theorem lk_putF {f g : Str} {v : V} {fs : List (Str × V)} (h : ¬ g = f) : (putF f v fs).lookup g = fs.lookup g := by rw [lookup_putF, if_neg h]
theorem lk_putS {f : Str} {v : V} {fs : List (Str × V)} : (putF f v fs).lookup f = some v := by rw [lookup_putF, if_pos rfl]
theorem len_putF (f : Str) (v : V) : ∀ fs : List (Str × V), (putF f v fs).length ≤ fs.length + 1
  | [] => Nat.le_refl _
  | (g, x) :: r => by
    have ih := len_putF f v r
    unfold putF
    split
    · simp
    · simp only [List.length_cons]; omega
/-! for x in a list or a tuple -/
def iRowK (K : PySem.W.Frag) (tl : TE) : TI := fun σ H R => tl σ H fun x H1 => ∃ a, x = .ref a ∧ (((∃ xs, SqL K H1 a xs) ∧ R (Itl K a) H1) ∨ ((∃ xs, SqT K H1 a xs) ∧ R (Itt K a) H1))
theorem pi_rowK {X : Cx} {K : PySem.W.Frag} (hK : X.K = K) {tg l : Expr} {tl : TE} (hl : PE X l tl) : PI X tg l (iRowK K tl) := by
  subst hK
  refine ⟨fun pins s σ H R I h => ?_⟩
  refine thn (hl.run pins s σ H _ I h) fun v s1 ⟨x, H1, I1, r1, q1⟩ => ?_
  obtain ⟨a, e, q1⟩ := q1
  subst e
  cases r1
  rcases q1 with ⟨⟨xs, hq⟩, q⟩ | ⟨⟨xs, hq⟩, q⟩
  · obtain ⟨its, rv, p, hz⟩ := I1.list hq
    refine wpAny_pyIter_list p.isList ?_
    refine ⟨s1.heap.objs.size, [s1.heap.objs.size], _, _, H1, rfl, I1.kept (t' := s1.toks) fun b o e => Heap.get?_push_of_some _ e, turn_list a _, ⟨_, Heap.get?_push_size _ rfl, rfl, rfl⟩, fun b hb => ?_, q⟩
    have e : b = s1.heap.objs.size := by simpa using hb
    subst e
    exact I1.fpOk (Nat.le_refl _) (I1.hok.fresh (Nat.le_refl _))
  · obtain ⟨its, rv, p, hz⟩ := I1.tuple hq
    refine wpAny_pyIter_tuple (show s1.heap.IsTuple a its.toArray from p) ?_
    refine ⟨s1.heap.objs.size, [s1.heap.objs.size], _, _, H1, rfl, I1.kept (t' := s1.toks) fun b o e => Heap.get?_push_of_some _ e, turn_tuple a _, ⟨_, Heap.get?_push_size _ rfl, rfl, rfl⟩, fun b hb => ?_, q⟩
    have e : b = s1.heap.objs.size := by simpa using hb
    subst e
    exact I1.fpOk (Nat.le_refl _) (I1.hok.fresh (Nat.le_refl _))
/-- {k: v for k, v in rows} -/
theorem dc_rows {K : PySem.W.Frag} {J : It} {us : List V} {es : List Row} {Gd : Hp → Prop} {i1 i2 : Nat} {vs : List Nat} {σ : L2.St} {H : Hp} {D : Addr} {Qd : Hp → Prop} (w : Walk J us.length Gd (fun i H x H' => H' = H ∧ us[i]? = some x)) (hD : H D = none) (hus : EsT H us es) (nd : (es.map (·.1)).Nodup) (hn : us.length ≤ 1000)
    (hG : ∀ H', Ex H H' → Gd H') (hw : ∀ x y, wipe (((wipe σ vs).set i1 (some x)).set i2 (some y)) vs = wipe σ vs) (h1 : ∀ x y, (((wipe σ vs).set i1 (some x)).set i2 (some y))[i1]? = some (some x)) (h2 : ∀ x y, (((wipe σ vs).set i1 (some x)).set i2 (some y))[i2]? = some (some y))
    (hq : ∀ H', Ex H H' → H' D = some (.dK (kvOf es)) → Qd H') :
    ∃ W : Nat → Nat → Hp → Prop, (∃ m, W 0 m (upd H D (.dK []))) ∧ ∀ i m H, W i m H →
      (J.stop i H ∧ Qd H) ∨ (J.go i H ∧ ∃ Nx : Hp → Prop, (∀ H', Nx H' → ∃ m', m' < m ∧ W (i + 1) m' H') ∧ ∀ x H', J.yld i H x H' → gTup K 2 (gCons (gName i1) (gCons (gName i2) gNil)) x (wipe σ vs) H' fun σ2 H2 => wipe σ2 vs = wipe σ vs ∧ tYes σ2 H2 fun b H3 =>
        if b = true then tVar i1 σ2 H3 fun y H4 => tVar i2 σ2 H4 fun z H5 => ∃ kvs k, y = kV k ∧ H5 D = some (.dK kvs) ∧ kvs.length < sizeLine ∧ Nx (upd H5 D (.dK (putK kvs k z))) else Nx H3) := by
  refine ⟨fun i m H' => m = us.length - i ∧ i ≤ us.length ∧ Ex H H' ∧ H' D = some (.dK (kvOf (es.take i))), ⟨us.length, by simp, Nat.zero_le _, Ex.new hD, by rw [List.take_zero]; exact upd_same⟩, ?_⟩
  rintro i m H1 ⟨rfl, hi, e1, d1⟩
  by_cases lt : i < us.length
  · refine .inr ⟨w.goes i H1 lt (hG H1 e1), fun H' => Ex H H' ∧ H' D = some (.dK (kvOf (es.take (i + 1)))), fun H' p => ⟨us.length - (i + 1), by omega, rfl, lt, p⟩, fun x H' y => ?_⟩
    obtain ⟨rfl, hx⟩ := w.yields i H1 x H' lt (hG H1 e1) y
    obtain ⟨b, e, rfl, he, hb⟩ := hus.at_ hx
    refine ⟨b, _, rfl, st_of (e1 _ _ hb), rfl, g_two ⟨hw _ _, ?_⟩⟩
    refine et_yes H' (Ex.refl _) _ fun H3 e3 => ?_
    rw [if_pos rfl]
    refine ⟨_, h1 _ _, _, h2 _ _, kvOf (es.take i), .inr (T e.1), rfl, e3 _ _ d1, ?_, Ex.mut (e1.trans e3) hD, ?_⟩
    · rw [kv_len, List.length_take]
      exact sz_lt (by omega)
    · rw [upd_same, kv_put, putK_new e.2 (val_none (nd_at nd he)), take_snoc he]
  · have e : i = us.length := by omega
    subst e
    rw [List.take_of_length_le (by rw [hus.length]; omega)] at d1
    exact .inl ⟨w.stops H1 (hG H1 e1), hq H1 e1 d1⟩
theorem EsT.of1 {x C dx : Addr} {fs : List (Str × V)} {H H' : Hp} (o : Of1 x H H') (hx : H x = some (.ins C dx fs)) : ∀ {us : List V} {es : List Row}, EsT H us es → EsT H' us es
  | _, _, .nil => .nil
  | _, _, .cons h t => .cons (o _ _ (fun z => by rw [z, hx] at h; cases h) h) (t.of1 o hx)
theorem RowA.of1 {x C dx : Addr} {fs : List (Str × V)} {H H' : Hp} {l : Addr} {us : List V} (o : Of1 x H H') (hx : H x = some (.ins C dx fs)) (h : RowA H l us) : RowA H' l us :=
  h.imp (fun h => o _ _ (fun z => by rw [z, hx] at h; cases h) h) (fun h => o _ _ (fun z => by rw [z, hx] at h; cases h) h)
/-! tables -/
structure TX (K : PySem.W.Frag) (CT : Addr) : Prop where
  ic : C8.InsC K CT
  nE : NoAttr K CT "entries"
  nN : NoAttr K CT "_nexts"
  ks : PySem.W.kitOne K (.ref CT) (.type "str") = some false
/-- a table of the rows es -/
def Tb (CT : Addr) (H : Hp) (x : Addr) (es : List Row) : Prop := ∃ dx fs te nd us' es', H x = some (.ins CT dx fs) ∧ fs.lookup ("entries" : Str) = some (.ref te) ∧ fs.lookup ("_nexts" : Str) = some (.ref nd) ∧ fs.lookup ("onward" : Str) = none ∧
  H te = some (.tup us') ∧ EsT H us' es' ∧ SrR es' es ∧ H nd = some (.dK (kvOf es))
theorem Tb.mono {CT : Addr} {H H' : Hp} {x : Addr} {es : List Row} (e : Ex H H') (h : Tb CT H x es) : Tb CT H' x es := by
  obtain ⟨dx, fs, te, nd, us', es', h1, h2, h3, h4, h5, h6, h7, h8⟩ := h
  exact ⟨dx, fs, te, nd, us', es', e _ _ h1, h2, h3, h4, e _ _ h5, h6.mono e, h7, e _ _ h8⟩
section
variable {P : Program} {w : World} {K : PySem.W.Frag} {mg : Str → Option Value} {base : Heap} {f : Addr} {fd : FuncData} {CT : Addr}
def spInit (CT : Addr) : Sp := fun vs H Q _ => ∃ (x l dx : Addr) (us : List V) (es : List Row), vs = [.ref x, .ref l] ∧ H x = some (.ins CT dx []) ∧ RowA H l us ∧ EsT H us es ∧ EsOk es 24 ∧ ∀ H', Of1 x H H' → Tb CT H' x es → Q .non H'
abbrev sInit : Stmt := inClass (top 22) 0
abbrev nInit : List Str := ["self", "entries", "part", "onto"]
theorem scInit : FnScope nInit ["self", "entries"] (defScope sInit) := ⟨rfl, rfl, rfl, by decide +kernel, rfl, by decide +kernel, by decide +kernel⟩
theorem ok_init (B : Bl mg) (hso : mg "sorted" = none) (X : TX K CT) (CW : Cal P w K mg base "refuse_wrong_entries" ["entries"] 5 spRWE) (F : FnM K "__init__" "Table.__init__" sInit f fd) : FnOk P w K mg base CX0 6 f fd ["self", "entries"] (spInit CT) := by
  refine F.ok scInit (fun vs H Q E h => ?_) (fun cdv A outer s H vs Q E hr h => ?_)
  · obtain ⟨x, l, dx, us, es, rfl, _⟩ := h
    rfl
  · obtain ⟨x, l, dx, us, es, rfl, hx, hrow, hus, hes, k⟩ := h
    refine ⟨_, pss_cons (ps_expr (pe_cal CW hr (by rfl) (pa_cons (pv 1) pa_nil)))
      (pss_cons (ps_fld (pv 0) (pe_callTy (call_tupleK (K := K) rfl) (by rfl) B.tuple PyProof.Rows.boot_tuple (pa_cons (pe_callB (cr_sortedR (K := K) rfl) (by rfl) hso PyProof.Rows.boot_sorted (pa_cons (pv 1) pa_nil)) pa_nil)) rfl)
      (pss_one (ps_fld (pv 0) (pe_dc (own := [("part", 2), ("onto", 3)]) (g := gTup K 2 (gCons (gName 2) (gCons (gName 3) gNil))) (tt := tYes) (tk := tVar 2) (tv := tVar 3) rfl scInit.nd (pi_rowK (K := K) rfl (pv 1)) (blkOk_by (N := nInit) (sc := defScope sInit) (by decide +kernel))
        (fun _ _ _ _ _ => pg_tup rfl (pgs_cons (pg_name (i := 2) scInit.nd rfl (.inl rfl)) (pgs_cons (pg_name (i := 3) scInit.nd rfl (.inl rfl)) pgs_nil))) (fun _ _ _ _ _ => pts_nil) (fun _ _ _ _ _ => pv 2) (fun _ _ _ _ _ => pv 3)) rfl))), ?_⟩
    have hul := hus.length
    have hel := hes.len
    refine ⟨.ref l, rfl, l, us, es, rfl, hrow, hus, hes, fun H1 e1 => ?_⟩
    have hrow1 := hrow.mono e1
    have hus1 := hus.mono e1
    have hx1 := e1 _ _ hx
    refine ⟨.ref l, rfl, l, us, es, rfl, hrow1.imp sq_of st_of, hus1, hes.nd, fun e he => flat_nx (hes.it e he).2.2, fun ys es' p hsr hys hp => ?_⟩
    have e2 := Ex.new (o := .lst ys) hp
    have hpp : (upd H1 p (.lst ys)) p = some (.lst ys) := upd_same
    generalize upd H1 p (.lst ys) = H2 at *
    refine ⟨p, ys, rfl, .inl ⟨sq_of hpp, fun t ht => ?_⟩⟩
    have e3 := Ex.new (o := .tup ys) ht
    have htt : (upd H2 t (.tup ys)) t = some (.tup ys) := upd_same
    generalize upd H2 t (.tup ys) = H3 at *
    have hx3 := e3 _ _ (e2 _ _ hx1)
    refine ⟨.ref x, rfl, x, CT, dx, [], rfl, hx3, X.ic.cl, X.nE, by decide, ?_⟩
    have ln1 : (putF "entries" (.ref t) ([] : List (Str × V))).length ≤ 1 := len_putF _ _ _
    have lkE : (putF "entries" (.ref t) ([] : List (Str × V))).lookup ("entries" : Str) = some (.ref t) := lk_putS
    have lkO : (putF "entries" (.ref t) ([] : List (Str × V))).lookup ("onward" : Str) = none := by rw [lk_putF (by decide +kernel)]; rfl
    generalize putF "entries" (.ref t) ([] : List (Str × V)) = fs1 at *
    have o4 := Of1.upd x H3 (.ins CT dx fs1)
    have hx4 : (upd H3 x (.ins CT dx fs1)) x = some (.ins CT dx fs1) := upd_same
    have hus4 := (hus1.mono (e2.trans e3)).of1 o4 hx3
    have hys4 := (hys.mono (e2.trans e3)).of1 o4 hx3
    have hrow4 := (hrow1.mono (e2.trans e3)).of1 o4 hx3
    have ht4 := o4 t _ (fun z => by rw [z, hx3] at htt; cases htt) htt
    have o04 : Of1 x H (upd H3 x (.ins CT dx fs1)) := (Of1.ex ((e1.trans e2).trans e3)).trans o4
    generalize upd H3 x (.ins CT dx fs1) = H4 at *
    have fin : ∀ D, H4 D = none → ∀ H5, Ex H4 H5 → H5 D = some (.dK (kvOf es)) → (sFld K (tVar 0) (fun σ H Q => Q (.ref D) H) "_nexts") { nx := fun _ H' => Q .non H', rt := Q, bk := fun _ _ => False, ct := fun _ _ => False } [some (.ref x), some (.ref l), none, none] H5 := fun D hD H5 e5 hD5 => by
      have hx5 := e5 _ _ hx4
      refine ⟨.ref x, rfl, x, CT, dx, fs1, rfl, hx5, X.ic.cl, X.nN, Nat.lt_of_le_of_lt ln1 (by decide), ?_⟩
      have o5 := Of1.upd x H5 (.ins CT dx (putF "_nexts" (.ref D) fs1))
      refine k _ ((o04.trans (Of1.ex e5)).trans o5) ⟨dx, _, t, D, ys, es', upd_same, ?_, lk_putS, ?_, ?_, (hys4.mono e5).of1 o5 hx5, hsr, ?_⟩
      · rw [lk_putF (by decide +kernel)]; exact lkE
      · rw [lk_putF (by decide +kernel)]; exact lkO
      · exact o5 t _ (fun z => by have := e5 _ _ ht4; rw [z, hx5] at this; cases this) (e5 _ _ ht4)
      · exact o5 D _ (fun z => by rw [z, hx5] at hD5; cases hD5) hD5
    rcases hrow4 with hl4 | hl4
    · refine ⟨.ref l, rfl, l, rfl, .inl ⟨⟨us, sq_of hl4⟩, fun D hD => ?_⟩⟩
      exact dc_rows (K := K) (walk_list (K := K) (a := l) (xs := us)) hD hus4 hes.nd (by omega) (fun H' e => sq_of (e _ _ hl4)) (fun _ _ => rfl) (fun _ _ => rfl) (fun _ _ => rfl) fun H5 e5 hD5 => fin D hD H5 e5 hD5
    · refine ⟨.ref l, rfl, l, rfl, .inr ⟨⟨us, st_of hl4⟩, fun D hD => ?_⟩⟩
      exact dc_rows (K := K) (walk_tup (K := K) (a := l) (xs := us)) hD hus4 hes.nd (by omega) (fun H' e => st_of (e _ _ hl4)) (fun _ _ => rfl) (fun _ _ => rfl) (fun _ _ => rfl) fun H5 e5 hD5 => fin D hD H5 e5 hD5
/-! Table.onward -/
/-- the way of the longest beginning that the table knows -/
def LongIs (es : List Row) (l : List Nat) (v : V) : Prop := (∃ i, i ≤ 10 ∧ valV es (l.take (10 - i)) = some v ∧ ∀ j, j < i → valV es (l.take (10 - j)) = none) ∨ (v = .str "drop" ∧ ∀ j, j ≤ 10 → valV es (l.take (10 - j)) = none)
abbrev sOnw : Stmt := inClass (top 22) 2
abbrev nOnw : List Str := ["self", "address", "part"]
theorem scOnw : FnScope nOnw ["self", "address"] (defScope sOnw) := ⟨rfl, rfl, rfl, by decide +kernel, rfl, by decide +kernel, by decide +kernel⟩
end
end Wk

set_option Elab.async false
set_option linter.all false
set_option maxRecDepth 100000
set_option maxHeartbeats 4000000
namespace Wk
/-! ranges as mathematics -/
theorem IsB.z {a : List Nat} (h : IsB a) : IsB (a ++ [48]) := h.app fun c hc => by rw [List.mem_singleton.mp hc]; exact .inl rfl
theorem IsB.o {a : List Nat} (h : IsB a) : IsB (a ++ [49]) := h.app fun c hc => by rw [List.mem_singleton.mp hc]; exact .inr rfl
/-- the number that bits tell -/
def vl (l : List Nat) : Nat := l.foldl (fun a c => 2 * a + (c - 48)) 0
theorem vl_snoc (l : List Nat) (c : Nat) : vl (l ++ [c]) = 2 * vl l + (c - 48) := by simp [vl]
theorem snoc_ind {P : List Nat → Prop} (h0 : P []) (h1 : ∀ l c, P l → P (l ++ [c])) (l : List Nat) : P l := by
  have key : ∀ r : List Nat, P r.reverse := fun r => by
    induction r with
    | nil => exact h0
    | cons c r ih => rw [List.reverse_cons]; exact h1 _ _ ih
  have := key l.reverse
  rwa [List.reverse_reverse] at this
/-- the bits of a number -/
def bN : Nat → Nat → List Nat
  | 0, _ => []
  | n + 1, i => bN n (i / 2) ++ [48 + i % 2]
theorem bN_succ (n i : Nat) : bN (n + 1) i = bN n (i / 2) ++ [48 + i % 2] := rfl
theorem bN_len : ∀ n i, (bN n i).length = n
  | 0, _ => rfl
  | n + 1, i => by simp [bN, bN_len n]
theorem bN_isB : ∀ n i, IsB (bN n i)
  | 0, _ => IsB.nil
  | n + 1, i => (bN_isB n _).app fun c hc => by
    rw [List.mem_singleton.mp hc]
    omega
theorem vl_bN : ∀ n i, i < 2 ^ n → vl (bN n i) = i
  | 0, i, h => by
    have : i = 0 := by simpa using h
    rw [this]; rfl
  | n + 1, i, h => by
    unfold bN
    rw [vl_snoc, vl_bN n (i / 2) (by rw [Nat.pow_succ] at h; omega)]
    omega
theorem bN_vl (l : List Nat) : IsB l → bN l.length (vl l) = l := by
  refine snoc_ind (P := fun l => IsB l → bN l.length (vl l) = l) (fun _ => rfl) (fun l c ih h => ?_) l
  have hl : IsB l := fun x hx => h x (List.mem_append_left _ hx)
  have hc := h c (List.mem_append_right _ (List.mem_singleton.mpr rfl))
  rw [List.length_append, List.length_singleton, vl_snoc]
  show bN l.length ((2 * vl l + (c - 48)) / 2) ++ [48 + (2 * vl l + (c - 48)) % 2] = _
  have e1 : (2 * vl l + (c - 48)) / 2 = vl l := by omega
  have e2 : 48 + (2 * vl l + (c - 48)) % 2 = c := by omega
  rw [e1, e2, ih hl]
theorem vl_lt (l : List Nat) : IsB l → vl l < 2 ^ l.length := by
  refine snoc_ind (P := fun l => IsB l → vl l < 2 ^ l.length) (fun _ => by decide) (fun l c ih h => ?_) l
  have hl : IsB l := fun x hx => h x (List.mem_append_left _ hx)
  have hc := h c (List.mem_append_right _ (List.mem_singleton.mpr rfl))
  rw [List.length_append, List.length_singleton, vl_snoc, Nat.pow_succ]
  have := ih hl
  omega
theorem vl_app (a b : List Nat) : vl (a ++ b) = vl a * 2 ^ b.length + vl b := by
  refine snoc_ind (P := fun b => vl (a ++ b) = vl a * 2 ^ b.length + vl b) (by simp [vl]) (fun b c ih => ?_) b
  rw [← List.append_assoc, vl_snoc, ih, vl_snoc, List.length_append, List.length_singleton, Nat.pow_succ]
  have : vl a * (2 ^ b.length * 2) = 2 * (vl a * 2 ^ b.length) := by rw [← Nat.mul_assoc, Nat.mul_comm]
  rw [this]
  omega
theorem take_bN : ∀ n k i, k ≤ n → (bN n i).take k = bN k (i / 2 ^ (n - k))
  | 0, k, i, h => by
    have : k = 0 := by omega
    subst this
    simp [bN]
  | n + 1, k, i, h => by
    by_cases hk : k = n + 1
    · subst hk
      rw [List.take_of_length_le (by rw [bN_len]; omega)]
      simp
    · rw [bN_succ]
      rw [List.take_append_of_le_length (by rw [bN_len]; omega), take_bN n k (i / 2) (by omega), Nat.div_div_eq_div_mul]
      congr 2
      rw [show n + 1 - k = (n - k) + 1 by omega, Nat.pow_succ, Nat.mul_comm]
/-- the first address of a range, and the one behind its last -/
def lo (r : List Nat) : Nat := vl r * 2 ^ (10 - r.length)
def hi (r : List Nat) : Nat := (vl r + 1) * 2 ^ (10 - r.length)
theorem lo_lt (r : List Nat) : lo r < hi r := by
  unfold lo hi
  exact Nat.mul_lt_mul_of_lt_of_le (by omega) (Nat.le_refl _) (Nat.pow_pos (by decide))
theorem hi_le {r : List Nat} (h : IsB r) (hl : r.length ≤ 10) : hi r ≤ 1024 := by
  unfold hi
  have h1 := vl_lt r h
  have : (2 : Nat) ^ r.length * 2 ^ (10 - r.length) = 1024 := by rw [← Nat.pow_add, show r.length + (10 - r.length) = 10 by omega]
  calc (vl r + 1) * 2 ^ (10 - r.length) ≤ 2 ^ r.length * 2 ^ (10 - r.length) := Nat.mul_le_mul_right _ h1
    _ = 1024 := this
/-- a range has an address -/
theorem take_iff {r : List Nat} {i : Nat} (h : IsB r) (hl : r.length ≤ 10) (hi' : i < 1024) : (bN 10 i).take r.length = r ↔ lo r ≤ i ∧ i < hi r := by
  rw [take_bN 10 r.length i hl]
  have hp : 0 < 2 ^ (10 - r.length) := Nat.pow_pos (by decide)
  have e : (2 : Nat) ^ r.length * 2 ^ (10 - r.length) = 1024 := by rw [← Nat.pow_add, show r.length + (10 - r.length) = 10 by omega]
  have hd : i / 2 ^ (10 - r.length) < 2 ^ r.length := by
    rw [Nat.div_lt_iff_lt_mul hp, e]
    exact hi'
  have key : bN r.length (i / 2 ^ (10 - r.length)) = r ↔ i / 2 ^ (10 - r.length) = vl r := by
    constructor
    · intro z
      have := vl_bN r.length _ hd
      rw [z] at this
      exact this.symm
    · intro z
      rw [z]
      exact bN_vl r h
  rw [key]
  unfold lo hi
  constructor
  · intro z
    rw [← z]
    refine ⟨Nat.div_mul_le_self _ _, ?_⟩
    rw [Nat.add_mul, Nat.one_mul]
    exact Nat.lt_div_mul_add hp
  · intro ⟨z1, z2⟩
    apply Nat.div_eq_of_lt_le z1 z2
/-- all texts of n bits, ascending -/
def AD : Nat → List (List Nat)
  | 0 => [[]]
  | n + 1 => (AD n).flatMap fun r => [r ++ [48], r ++ [49]]
theorem flat_at {α β : Type} (f g : α → β) : ∀ (l : List α) (i : Nat), (l.flatMap fun r => [f r, g r])[i]? = (l[i / 2]?).map fun r => if i % 2 = 0 then f r else g r
  | [], i => by simp
  | a :: l, 0 => by simp
  | a :: l, 1 => by simp
  | a :: l, i + 2 => by
    rw [List.flatMap_cons]
    show (l.flatMap fun r => [f r, g r])[i]? = _
    rw [flat_at f g l i]
    have e1 : (i + 2) / 2 = i / 2 + 1 := by omega
    have e2 : (i + 2) % 2 = i % 2 := by omega
    rw [e1, e2]
    rfl
theorem AD_len : ∀ n, (AD n).length = 2 ^ n
  | 0 => rfl
  | n + 1 => by
    unfold AD
    rw [List.length_flatMap]
    have : ((AD n).map fun a => [a ++ [48], a ++ [49]].length).sum = 2 * (AD n).length := by
      generalize AD n = l
      induction l with
      | nil => rfl
      | cons a l ih => rw [List.map_cons, List.sum_cons, ih]; simp; omega
    rw [this, AD_len n, Nat.pow_succ, Nat.mul_comm]
theorem AD_at : ∀ n i, i < 2 ^ n → (AD n)[i]? = some (bN n i)
  | 0, i, h => by
    have : i = 0 := by simpa using h
    rw [this]; rfl
  | n + 1, i, h => by
    unfold AD
    rw [flat_at, AD_at n (i / 2) (by rw [Nat.pow_succ] at h; omega)]
    rw [bN_succ]
    have : i % 2 = 0 ∨ i % 2 = 1 := by omega
    rcases this with e | e <;> simp [e]
theorem AD_eq (n : Nat) : AD n = (List.range (2 ^ n)).map (bN n) := by
  apply List.ext_getElem?
  intro i
  by_cases h : i < 2 ^ n
  · rw [AD_at n i h, List.getElem?_map, List.getElem?_range h]
    rfl
  · rw [List.getElem?_eq_none (by rw [AD_len]; omega), List.getElem?_eq_none (by simp; omega)]
/-! the widest ranges that have one worth -/
section
variable {α : Type} [DecidableEq α]
def oneB (ws : List α) : Bool := match ws with | [] => true | w :: t => t.all (fun x => decide (x = w))
def mrg : Nat → List α → List Nat → List (List Nat × α)
  | _, [], _ => []
  | 0, w :: _, a => [(a, w)]
  | n + 1, w :: t, a => if oneB (w :: t) = true then [(a, w)] else mrg n ((w :: t).take (2 ^ n)) (a ++ [48]) ++ mrg n ((w :: t).drop (2 ^ n)) (a ++ [49])
/-- a row of ranges that has all addresses from p to q, each range with one worth, and no wider one -/
inductive Prt (W : Nat → α) : Nat → List (List Nat × α) → Nat → Prop
  | nil {p : Nat} : Prt W p [] p
  | cons {r : List Nat} {x : α} {rest : List (List Nat × α)} {p q : Nat} : IsB r → r.length ≤ 10 → lo r = p → (∀ i, lo r ≤ i → i < hi r → W i = x) →
      (r ≠ [] → ∃ i, lo r.dropLast ≤ i ∧ i < hi r.dropLast ∧ W i ≠ x) → Prt W (hi r) rest q → Prt W p ((r, x) :: rest) q
theorem Prt.app {W : Nat → α} : ∀ {l m : List (List Nat × α)} {p q s : Nat}, Prt W p l q → Prt W q m s → Prt W p (l ++ m) s
  | [], _, _, _, _, .nil, k => k
  | _ :: _, _, _, _, _, .cons h1 h2 h3 h4 h5 t, k => .cons h1 h2 h3 h4 h5 (t.app k)
theorem one_all {ws : List α} {w : α} {t : List α} (e : ws = w :: t) (h : oneB ws = true) : ∀ (i : Nat) (x : α), ws[i]? = some x → x = w := by
  subst e
  intro i x hx
  cases i with
  | zero => exact (Option.some.inj hx).symm
  | succ i =>
    have := List.all_eq_true.mp h x (List.mem_of_getElem? (show t[i]? = some x from hx))
    exact of_decide_eq_true this
theorem one_not {w : α} {t : List α} (h : ¬ oneB (w :: t) = true) : ∃ (i : Nat) (x : α), (w :: t)[i]? = some x ∧ x ≠ w := by
  have h : ¬ t.all (fun x => decide (x = w)) = true := h
  rw [List.all_eq_true] at h
  have ⟨x, hx⟩ := Classical.not_forall.mp h
  have ⟨hm, hn⟩ := Classical.not_imp.mp hx
  obtain ⟨i, hi⟩ := List.getElem?_of_mem hm
  exact ⟨i + 1, x, hi, fun z => hn (decide_eq_true z)⟩
theorem mrg_prt {W : Nat → α} : ∀ (n : Nat) (ws : List α) (a : List Nat), IsB a → a.length + n = 10 → ws.length = 2 ^ n → (∀ i, i < 2 ^ n → ws[i]? = some (W (vl a * 2 ^ n + i))) →
    (a ≠ [] → ∀ x, ∃ i, lo a.dropLast ≤ i ∧ i < hi a.dropLast ∧ W i ≠ x) → Prt W (vl a * 2 ^ n) (mrg n ws a) ((vl a + 1) * 2 ^ n)
  | n, [], a, ha, hn, hl, hw, hx => by
    have : 0 < 2 ^ n := Nat.pow_pos (by decide)
    simp at hl
    omega
  | 0, w :: t, a, ha, hn, hl, hw, hx => by
    have el : lo a = vl a * 2 ^ 0 := by unfold lo; rw [show 10 - a.length = 0 by omega]
    have eh : hi a = (vl a + 1) * 2 ^ 0 := by unfold hi; rw [show 10 - a.length = 0 by omega]
    have w0 : w = W (vl a * 2 ^ 0 + 0) := Option.some.inj (hw 0 (by decide))
    refine .cons ha (by omega) el (fun i h1 h2 => ?_) (fun z => hx z w) (by rw [eh]; exact .nil)
    rw [el] at h1
    rw [eh] at h2
    have : i = vl a * 2 ^ 0 + 0 := by omega
    rw [this, ← w0]
  | n + 1, w :: t, a, ha, hn, hl, hw, hx => by
    have el : lo a = vl a * 2 ^ (n + 1) := by unfold lo; rw [show 10 - a.length = n + 1 by omega]
    have eh : hi a = (vl a + 1) * 2 ^ (n + 1) := by unfold hi; rw [show 10 - a.length = n + 1 by omega]
    have hp : 0 < 2 ^ n := Nat.pow_pos (by decide)
    have hp2 : (2 : Nat) ^ (n + 1) = 2 * 2 ^ n := by rw [Nat.pow_succ, Nat.mul_comm]
    have w0 : w = W (vl a * 2 ^ (n + 1) + 0) := Option.some.inj (hw 0 (by omega))
    unfold mrg
    split
    · rename_i h1
      refine .cons ha (by omega) el (fun i k1 k2 => ?_) (fun z => hx z w) (by rw [eh]; exact .nil)
      rw [el] at k1
      rw [eh, Nat.add_mul, Nat.one_mul] at k2
      have hz := hw (i - vl a * 2 ^ (n + 1)) (by omega)
      rw [show vl a * 2 ^ (n + 1) + (i - vl a * 2 ^ (n + 1)) = i by omega] at hz
      exact one_all rfl h1 _ _ hz
    · rename_i h1
      obtain ⟨j, y, hj, hy⟩ := one_not h1
      have hjl : j < 2 ^ (n + 1) := by
        have := (List.getElem?_eq_some_iff.mp hj).1
        omega
      have hjw := hw j hjl
      have ey : y = W (vl a * 2 ^ (n + 1) + j) := Option.some.inj (hj.symm.trans hjw)
      have wide : ∀ x, ∃ i, lo a ≤ i ∧ i < hi a ∧ W i ≠ x := fun x => by
        rw [el, eh, Nat.add_mul, Nat.one_mul]
        by_cases hw2 : w = x
        · exact ⟨vl a * 2 ^ (n + 1) + j, by omega, by omega, by rw [← ey, ← hw2]; exact hy⟩
        · exact ⟨vl a * 2 ^ (n + 1) + 0, by omega, by omega, by rw [← w0]; exact hw2⟩
      have v0 : vl (a ++ [48]) = 2 * vl a := by rw [vl_snoc]; omega
      have v1 : vl (a ++ [49]) = 2 * vl a + 1 := by rw [vl_snoc]
      have e1 : 2 * vl a * 2 ^ n = vl a * 2 ^ (n + 1) := by rw [hp2, Nat.mul_comm 2 (vl a), Nat.mul_assoc]
      have e2 : (2 * vl a + 1) * 2 ^ n = vl a * 2 ^ (n + 1) + 2 ^ n := by rw [Nat.add_mul, e1, Nat.one_mul]
      have e3 : (2 * vl a + 1 + 1) * 2 ^ n = (vl a + 1) * 2 ^ (n + 1) := by rw [Nat.add_mul, e2, Nat.one_mul, Nat.add_mul, Nat.one_mul]; omega
      have p1 := mrg_prt (W := W) n ((w :: t).take (2 ^ n)) (a ++ [48]) ha.z (by simp; omega) (by rw [List.length_take]; omega) (fun i h => by
        rw [List.getElem?_take_of_lt h, hw i (by omega), v0, e1]) (fun _ x => by rw [List.dropLast_concat]; exact wide x)
      have p2 := mrg_prt (W := W) n ((w :: t).drop (2 ^ n)) (a ++ [49]) ha.o (by simp; omega) (by rw [List.length_drop]; omega) (fun i h => by
        rw [List.getElem?_drop, hw (2 ^ n + i) (by omega), v1, e2, Nat.add_assoc]) (fun _ x => by rw [List.dropLast_concat]; exact wide x)
      rw [v0, e1, e2] at p1
      rw [v1, e2, e3] at p2
      exact p1.app p2
theorem mrg_all {W : Nat → α} {ws : List α} (hl : ws.length = 1024) (hw : ∀ i, i < 1024 → ws[i]? = some (W i)) : Prt W 0 (mrg 10 ws []) 1024 := by
  have := mrg_prt (W := W) 10 ws [] IsB.nil rfl hl (fun i h => by rw [hw i h]; simp [vl]) (fun z => absurd rfl z)
  simpa [vl] using this
theorem Prt.le {W : Nat → α} : ∀ {l : List (List Nat × α)} {p q : Nat}, Prt W p l q → p ≤ q
  | [], _, _, .nil => Nat.le_refl _
  | _ :: _, _, _, .cons (r := r) h1 h2 h3 h4 h5 t => by
    have := lo_lt r
    have := t.le
    omega
theorem mrg_len : ∀ (n : Nat) (ws : List α) (a : List Nat), (mrg n ws a).length ≤ 2 ^ n
  | _, [], _ => by simp [mrg]
  | 0, w :: _, a => by simp [mrg]
  | n + 1, w :: t, a => by
    unfold mrg
    split
    · have : 0 < 2 ^ n := Nat.pow_pos (by decide)
      rw [Nat.pow_succ]
      simp
      omega
    · rw [List.length_append, Nat.pow_succ]
      have := mrg_len n ((w :: t).take (2 ^ n)) (a ++ [48])
      have := mrg_len n ((w :: t).drop (2 ^ n)) (a ++ [49])
      omega
end
/-! the fewest ranges -/
inductive Cov (F : Nat → Bool) : Nat → List (List Nat) → Prop
  | nil {p : Nat} : (∀ i, p ≤ i → i < 1024 → F i = false) → Cov F p []
  | cons {r : List Nat} {rest : List (List Nat)} {p : Nat} : IsB r → r.length ≤ 10 → p ≤ lo r → (∀ i, p ≤ i → i < lo r → F i = false) → (∀ i, lo r ≤ i → i < hi r → F i = true) →
      (r ≠ [] → ∃ i, lo r.dropLast ≤ i ∧ i < hi r.dropLast ∧ F i = false) → Cov F (hi r) rest → Cov F p (r :: rest)
theorem Cov.of {F : Nat → Bool} : ∀ {l : List (List Nat × Bool)} {p q : Nat}, q ≤ p → (∀ i, q ≤ i → i < p → F i = false) → Prt F p l 1024 → Cov F q ((l.filter (·.2)).map (·.1))
  | [], _, _, h1, h2, .nil => .nil h2
  | (r, x) :: rest, p, q, h1, h2, .cons k1 k2 k3 k4 k5 t => by
    have lt := lo_lt r
    cases x with
    | false =>
      rw [List.filter_cons_of_neg (by simp)]
      refine Cov.of (by omega) (fun i a b => ?_) t
      by_cases c : i < lo r
      · exact h2 i a (by omega)
      · exact k4 i (by omega) b
    | true =>
      rw [List.filter_cons_of_pos (by simp), List.map_cons]
      have k3 : lo r = p := k3
      show Cov F q (r :: _)
      refine .cons k1 k2 (by omega) (fun i a b => h2 i a (by omega)) k4 (fun z => ?_) (Cov.of (Nat.le_refl _) (fun i a b => by omega) t)
      obtain ⟨i, a, b, c⟩ := k5 z
      exact ⟨i, a, b, by simpa using c⟩
/-- some of the ranges has an address -/
def covB (rs : List (List Nat)) (i : Nat) : Bool := rs.any fun r => decide (lo r ≤ i ∧ i < hi r)
theorem covB_iff {rs : List (List Nat)} {i : Nat} : covB rs i = true ↔ ∃ r ∈ rs, lo r ≤ i ∧ i < hi r := by
  unfold covB
  rw [List.any_eq_true]
  constructor
  · rintro ⟨r, h1, h2⟩
    exact ⟨r, h1, of_decide_eq_true h2⟩
  · rintro ⟨r, h1, h2⟩
    exact ⟨r, h1, decide_eq_true h2⟩
theorem covB_same {rs ss : List (List Nat)} (h : ∀ r, r ∈ rs ↔ r ∈ ss) (i : Nat) : covB rs i = covB ss i := by
  have : covB rs i = true ↔ covB ss i = true := by
    rw [covB_iff, covB_iff]
    exact ⟨fun ⟨r, a, b⟩ => ⟨r, (h r).mp a, b⟩, fun ⟨r, a, b⟩ => ⟨r, (h r).mpr a, b⟩⟩
  cases h1 : covB rs i <;> cases h2 : covB ss i <;> simp_all
theorem Cov.has {F : Nat → Bool} : ∀ {rs : List (List Nat)} {p : Nat}, Cov F p rs → ∀ i, p ≤ i → i < 1024 → covB rs i = F i
  | [], _, .nil h, i, a, b => by rw [h i a b]; rfl
  | r :: rest, p, .cons k1 k2 k3 k4 k5 k6 t, i, a, b => by
    have lt := lo_lt r
    have e : covB (r :: rest) i = (decide (lo r ≤ i ∧ i < hi r) || covB rest i) := rfl
    rw [e]
    by_cases c : i < lo r
    · rw [k4 i a c, decide_eq_false (by omega), Bool.false_or]
      by_cases z : covB rest i = true
      · have low : ∀ {ss : List (List Nat)} {q : Nat}, Cov F q ss → ∀ s ∈ ss, q ≤ lo s := by
          intro ss
          induction ss with
          | nil => intro q _ s hs; cases hs
          | cons s ss ih =>
            intro q hq u hu
            cases hq with
            | cons m1 m2 m3 m4 m5 m6 t =>
              rcases List.mem_cons.mp hu with e | e
              · rw [e]; exact m3
              · have := ih t u e
                have := lo_lt s
                omega
        obtain ⟨s, hs, h1, h2⟩ := covB_iff.mp z
        have := low t s hs
        omega
      · simpa using z
    · by_cases d : i < hi r
      · rw [k5 i (by omega) d, decide_eq_true ⟨by omega, d⟩, Bool.true_or]
      · rw [decide_eq_false (by omega), Bool.false_or]
        exact t.has i (by omega) b
def fewR (F : Nat → Bool) : List (List Nat) := ((mrg 10 ((List.range 1024).map F) []).filter (·.2)).map (·.1)
theorem fewR_cov (F : Nat → Bool) : Cov F 0 (fewR F) := Cov.of (Nat.le_refl _) (fun i a b => by omega) (mrg_all (by simp) fun i h => by rw [List.getElem?_map, List.getElem?_range h]; rfl)
theorem fewR_congr {F G : Nat → Bool} (h : ∀ i, i < 1024 → F i = G i) : fewR F = fewR G := by
  unfold fewR
  rw [List.map_congr_left fun i hi => h i (List.mem_range.mp hi)]
theorem fewR_len (F : Nat → Bool) : (fewR F).length ≤ 1024 := by
  unfold fewR
  rw [List.length_map]
  exact Nat.le_trans (List.length_filter_le _ _) (mrg_len 10 _ _)
theorem Cov.bits {F : Nat → Bool} : ∀ {rs : List (List Nat)} {p : Nat}, Cov F p rs → ∀ r ∈ rs, IsB r ∧ r.length ≤ 10
  | [], _, _, r, h => by cases h
  | s :: rest, p, .cons k1 k2 k3 k4 k5 k6 t, r, h => (List.mem_cons.mp h).elim (fun e => by rw [e]; exact ⟨k1, k2⟩) (t.bits r)
end Wk

set_option Elab.async false
set_option linter.all false
set_option maxRecDepth 100000
set_option maxHeartbeats 4000000
namespace Wk
open PySem PySem.Spec PyProof.Rows L2 Evl
/-! [f(x, y) for x in a list for y in a tuple] -/
def Lw (D : Addr) (H : Hp) (acc : List V) (H' : Hp) : Prop := H D = none ∧ Ex H H' ∧ H' D = some (.lst acc)
theorem Lw.ext {D : Addr} {H H' H2 : Hp} {acc : List V} (h : Lw D H acc H') (e : Ex H' H2) : Lw D H acc H2 := ⟨h.1, h.2.1.trans e, e _ _ h.2.2⟩
theorem Lw.put {D : Addr} {H H' : Hp} {acc : List V} {u : V} (h : Lw D H acc H') : Lw D H (acc ++ [u]) (upd H' D (.lst (acc ++ [u]))) := ⟨h.1, Ex.mut h.2.1 h.1, upd_same⟩
theorem flat_take {xs ys : List V} {v : V → V → V} {i : Nat} {x : V} (h : xs[i]? = some x) : (xs.take (i + 1)).flatMap (fun x => ys.map (v x)) = (xs.take i).flatMap (fun x => ys.map (v x)) ++ ys.map (v x) := by
  rw [take_snoc h, List.flatMap_append]
  simp
theorem flat_len {xs ys : List V} {v : V → V → V} : (xs.flatMap fun x => ys.map (v x)).length = xs.length * ys.length := by
  induction xs with
  | nil => simp
  | cons x xs ih => rw [List.flatMap_cons, List.length_append, ih, List.length_map, List.length_cons, Nat.add_mul, Nat.one_mul, Nat.add_comm]
theorem el_lc2 {K : PySem.W.Frag} {a : Addr} {xs ys : List V} {tl tu te : TE} {i j : Nat} {vs vs1 : List Nat} {σ : L2.St} {H : Hp} (v : V → V → V) (h : Ev tl σ H (.ref a)) (hx : SqL K H a xs) (hz : xs.length * ys.length ≤ 40000)
    (hw : ∀ x, wipe ((wipe σ vs).set i (some x)) vs = wipe σ vs) (hw1 : ∀ x y, wipe ((wipe ((wipe σ vs).set i (some x)) vs1).set j (some y)) vs1 = wipe ((wipe σ vs).set i (some x)) vs1)
    (hu : ∀ x, EvS tu ((wipe σ vs).set i (some x)) H ys) (he : ∀ x y, x ∈ xs → y ∈ ys → Ev te ((wipe ((wipe σ vs).set i (some x)) vs1).set j (some y)) H (v x y)) :
    EvL (tLc2 (iList K tl) (gName i) tYes (iTup K tu) (gName j) tYes te vs vs1) σ H (xs.flatMap fun x => ys.map (v x)) := fun H0 e Q q => h H0 e _ fun H1 e1 => by
  have e01 := e.trans e1
  refine ⟨a, rfl, ⟨xs, ex_l e01 hx⟩, fun D hD => ?_⟩
  refine ⟨fun k m Hx => m = xs.length - k ∧ k ≤ xs.length ∧ Lw D H1 ((xs.take k).flatMap fun x => ys.map (v x)) Hx, ⟨xs.length, by simp, Nat.zero_le _, hD, Ex.new hD, upd_same⟩, ?_⟩
  rintro k m H2 ⟨rfl, hk, lw⟩
  have s2 : SqL K H2 a xs := ex_l lw.2.1 (ex_l e01 hx)
  by_cases lt : k < xs.length
  · refine .inr ⟨walk_list.goes k H2 lt s2, fun Hx => Lw D H1 ((xs.take (k + 1)).flatMap fun x => ys.map (v x)) Hx, fun Hx p => ⟨xs.length - (k + 1), by omega, rfl, lt, p⟩, fun x H3 hy => ?_⟩
    obtain ⟨rfl, hxk⟩ := walk_list.yields k H2 x H3 lt s2 hy
    have hxm : x ∈ xs := List.mem_of_getElem? hxk
    rw [flat_take hxk]
    have hpl : ((xs.take k).flatMap fun x => ys.map (v x)).length + ys.length ≤ 40000 := by
      rw [flat_len, List.length_take]
      have : (min k xs.length + 1) * ys.length ≤ xs.length * ys.length := Nat.mul_le_mul_right _ (by omega)
      rw [Nat.add_mul, Nat.one_mul] at this
      omega
    generalize ((xs.take k).flatMap fun x => ys.map (v x)) = pre at *
    refine ⟨hw _, et_yes H3 (Ex.refl _) _ fun H4 e4 => ?_⟩
    rw [if_pos rfl]
    have lw4 := lw.ext e4
    refine hu x H4 (e01.trans lw4.2.1) _ fun T H5 e5 hT => ?_
    have lw5 := lw4.ext e5
    have hne : T ≠ D := fun z => by rw [z, lw5.2.2] at hT; cases hT
    refine ⟨T, rfl, ⟨ys, st_of hT⟩, fun j' m' Hx => m' = ys.length - j' ∧ j' ≤ ys.length ∧ Lw D H1 (pre ++ (ys.take j').map (v x)) Hx ∧ Hx T = some (.tup ys), ⟨ys.length, by simp, Nat.zero_le _, by simpa using lw5, hT⟩, ?_⟩
    rintro j' m' H6 ⟨rfl, hj, lw6, hT6⟩
    by_cases ltj : j' < ys.length
    · refine .inr ⟨walk_tup.goes j' H6 ltj (st_of hT6), fun Hx => Lw D H1 (pre ++ (ys.take (j' + 1)).map (v x)) Hx ∧ Hx T = some (.tup ys), fun Hx p => ⟨ys.length - (j' + 1), by omega, rfl, ltj, p.1, p.2⟩, fun y H7 hyy => ?_⟩
      obtain ⟨rfl, hyk⟩ := walk_tup.yields j' H6 y H7 ltj (st_of hT6) hyy
      refine ⟨hw1 _ _, et_yes H7 (Ex.refl _) _ fun H8 e8 => ?_⟩
      rw [if_pos rfl]
      have lw8 := lw6.ext e8
      refine he x y hxm (List.mem_of_getElem? hyk) H8 (e01.trans lw8.2.1) _ fun H9 e9 => ?_
      have lw9 := lw8.ext e9
      refine ⟨_, lw9.2.2, ?_, ?_, ?_⟩
      · rw [List.length_append, List.length_map, List.length_take]
        exact sz_lt (by omega)
      · rw [take_snoc hyk, List.map_append, ← List.append_assoc]
        exact lw9.put
      · rw [upd_ne hne]
        exact e9 _ _ (e8 _ _ hT6)
    · have ej : j' = ys.length := by omega
      subst ej
      refine .inl ⟨walk_tup.stops H6 (st_of hT6), ?_⟩
      rw [List.take_of_length_le (Nat.le_refl _)] at lw6
      exact lw6
  · have ek : k = xs.length := by omega
    subst ek
    rw [List.take_of_length_le (Nat.le_refl _)] at lw
    exact .inl ⟨walk_list.stops H2 s2, q D H2 (fresh_back e1 hD) (e1.trans lw.2.1) lw.2.2⟩
theorem pi_tupK {X : Cx} {K : PySem.W.Frag} {tg l : Expr} {tl : TE} (hK : X.K = K) (hl : PE X l tl) : PI X tg l (iTup K tl) := by
  subst hK
  exact pi_tup hl
section
variable {P : Program} {w : World} {K : PySem.W.Frag} {mg : Str → Option Value} {base : Heap} {f : Addr} {fd : FuncData}
/-! addresses -/
def adV (n : Nat) : List V := (AD n).map fun l => V.str (T l)
theorem adV_len (n : Nat) : (adV n).length = 2 ^ n := by unfold adV; rw [List.length_map, AD_len]
theorem adV_succ (n : Nat) (v : V → V → V) (hv : ∀ l ∈ AD n, v (.str (T l)) (.str "0") = .str (T (l ++ [48])) ∧ v (.str (T l)) (.str "1") = .str (T (l ++ [49]))) : ((adV n).flatMap fun x => [V.str "0", V.str "1"].map (v x)) = adV (n + 1) := by
  have e : adV (n + 1) = (AD n).flatMap fun r => [V.str (T (r ++ [48])), V.str (T (r ++ [49]))] := by
    unfold adV
    show ((AD n).flatMap fun r => [r ++ [48], r ++ [49]]).map _ = _
    rw [List.map_flatMap]
    rfl
  rw [e]
  unfold adV
  rw [List.flatMap_map]
  clear e
  generalize AD n = A at *
  induction A with
  | nil => rfl
  | cons l A ih =>
    rw [List.flatMap_cons, List.flatMap_cons, ih fun x hx => hv x (List.mem_cons_of_mem _ hx)]
    obtain ⟨h1, h2⟩ := hv l List.mem_cons_self
    congr 1
    show [v _ _, v _ _] = _
    rw [h1, h2]
def spAds : Sp := fun vs H Q _ => vs = [] ∧ ∀ H' D, H D = none → Ex H H' → H' D = some (.lst (adV 10)) → Q (.ref D) H'
abbrev sAds : Stmt := top 15
abbrev nAds : List Str := ["rows", "_", "row", "sign"]
theorem scAds : FnScope nAds [] (defScope sAds) := ⟨rfl, rfl, rfl, by decide +kernel, rfl, by decide +kernel, by decide +kernel⟩
def addV : V → V → V
  | .str a, .str b => .str (a ++ b)
  | _, _ => .non
theorem AD_lenOf {n : Nat} {l : List Nat} (h : l ∈ AD n) : l.length = n := by
  rw [AD_eq] at h
  obtain ⟨i, _, rfl⟩ := List.mem_map.mp h
  exact bN_len n i
theorem ok_ads (B : Bl mg) {t1 : Tok} (hM : mg "ADDRESS_LENGTH" = some (.int 10 t1)) (F : FnP K "addresses" sAds f fd) : FnOk P w K mg base CX0 1 f fd [] spAds := by
  refine F.ok scAds (fun vs H Q E h => ?_) (fun cdv A outer s H vs Q E hr h => ?_)
  · obtain ⟨rfl, _⟩ := h
    rfl
  · obtain ⟨rfl, k⟩ := h
    refine ⟨_, pss_cons (ps_set (i := 0) scAds.nd rfl (Or.inl rfl) (pe_lst (pa_cons pe_str pa_nil)))
      (pss_cons (ps_for (passes_of rfl) rfl (pi_range1 (by rfl) B.range (pa_cons (pe_glob (v := .int 10) (by rfl) hM ⟨_, rfl⟩) pa_nil)) (pg_name (i := 1) scAds.nd rfl (.inl rfl))
        (pss_one (ps_setLc2 (i := 0) (own := [("row", 2), ("sign", 3)]) (vs1 := [3]) (g := gName 2) (g1 := gName 3) (tt := tYes) (tt1 := tYes) rfl scAds.nd rfl rfl (sw_true rfl rfl rfl (by decide +kernel)) (pi_list (pv 0)) (blkOk_by (N := nAds) (sc := defScope sAds) (by decide +kernel)) (by decide)
          (fun _ _ _ _ _ => pg_name (i := 2) scAds.nd rfl (Or.inl rfl)) (fun _ _ _ _ _ => pts_nil)
          (fun _ _ _ _ _ => pi_tupK (K := K) rfl (pe_tup (pa_cons pe_str (pa_cons pe_str pa_nil))))
          (fun _ _ _ _ _ => pg_name (i := 3) scAds.nd rfl (Or.inl rfl)) (fun _ _ _ _ _ => pts_nil) (fun _ _ _ _ _ => pe_op op_add_str (pv 2) (pv 3)))))
      (pss_one (ps_ret (pv 0)))), ?_⟩
    refine q_asgL (xs := [V.str ""]) (el_lst (ea_cons ev_c ea_nil) (by decide)) fun D0 H0 hD0 e0 h0 => ?_
    refine q_forR1 (n := 10) (ea_cons ev_c ea_nil) (by omega) (fun i σ' H' => ∃ (D : Addr) (o1 : Option V), σ' = [some (.ref D), o1, none, none] ∧ Ex H H' ∧ H D = none ∧ H' D = some (.lst (adV i))) (fun H1 e1 => ⟨D0, none, rfl, e0.trans e1, hD0, e1 _ _ (by rw [h0]; show some (HO.lst [V.str (Str.ofString "")]) = _; rw [t_empty]; rfl)⟩) (fun i σ' H' hi hp => ?_) (fun σ' H' hp => ?_)
    · obtain ⟨D, o1, rfl, e1, hD, h1⟩ := hp
      have hi2 : i < 10 := by omega
      have hp2 : (2 : Nat) ^ i ≤ 512 := Nat.pow_le_pow_right (by decide) (show i ≤ 9 by omega)
      have lit : (Str.ofString "0" = T [48]) ∧ (Str.ofString "1" = T [49]) := by decide +kernel
      change tAsg _ _ _ [some (.ref D), some (.int (i : Int)), none, none] H'
      have z := el_lc2 (K := K) (a := D) (xs := adV i) (ys := [V.str "0", V.str "1"]) (tl := tVar 0) (tu := tTup (tCons (tC (.str "0")) (tCons (tC (.str "1")) tNil))) (te := tOp rAddS (tVar 2) (tVar 3)) (i := 2) (j := 3) (vs := [2, 3]) (vs1 := [3]) (σ := [some (.ref D), some (.int (i : Int)), none, none]) (H := H') addV (ev_var rfl) (sq_of h1) (by rw [adV_len]; show _ * 2 ≤ _; omega) (fun x => rfl) (fun x y => rfl)
        (fun x => es_tup (ea_cons ev_c (ea_cons ev_c ea_nil)) (by decide)) (fun x y hx hy => by
          unfold adV at hx
          obtain ⟨l, hl, rfl⟩ := List.mem_map.mp hx
          have hll := AD_lenOf hl
          have hy2 : ∃ c, y = .str (T [c]) := by
            rcases List.mem_cons.mp hy with e | e
            · exact ⟨48, by rw [e]; exact congrArg V.str lit.1⟩
            · exact ⟨49, by rw [List.mem_singleton.mp e]; exact congrArg V.str lit.2⟩
          obtain ⟨c, rfl⟩ := hy2
          show Ev _ _ _ (V.str (T l ++ T [c]))
          rw [T_cat]
          exact ev_addS (ev_var rfl) (ev_var rfl) (by simp; omega))
      rw [adV_succ i addV (fun l hl => ⟨by show V.str (T l ++ Str.ofString "0") = _; rw [lit.1, T_cat], by show V.str (T l ++ Str.ofString "1") = _; rw [lit.2, T_cat]⟩)] at z
      exact s_asgL z fun D2 H2 hD2 e2 h2 => ⟨D2, _, rfl, e1.trans e2, fresh_back e1 hD2, h2⟩
    · obtain ⟨D, o1, rfl, e1, hD, h1⟩ := hp
      exact s_ret (v := .ref D) (ev_var rfl) fun H2 e2 => k H2 D hD (e1.trans e2) (e2 _ _ h1)
end
end Wk

set_option Elab.async false
set_option linter.all false
set_option maxRecDepth 100000
set_option maxHeartbeats 4000000
namespace Wk
open PySem PySem.Spec PyProof.Rows L2 Evl
/-! how often something is in a list of data -/
def rCntD (K : PySem.W.Frag) : V → List V → Hp → VK → Prop := fun x xs H Q => ∃ (l : Addr) (vs : List V) (ds : List PyData) (v : V) (d : PyData), x = .ref l ∧ xs = [v] ∧ H l = some (.lst vs) ∧ DpAll K H vs ds ∧ Dp K H v d ∧ PyData.plainAll ds = true ∧ d.plain = true ∧ d.depth ≤ 60 ∧ Q (.int ((ds.countP fun y => PyData.eqv y d : Nat) : Int)) H
theorem mt_countD {X : Cx} {K : PySem.W.Frag} (hK : X.K = K) (hu : X.A.units + 64 < cLine) : MtR X "list.count" (rCntD K) := by
  subst hK
  intro pins s σ H x xs v us Q I rx rxs h
  obtain ⟨l, vs, ds, v', d, rfl, rfl, hH, hds, hd, hp1, hp2, hdep, q⟩ := h
  cases rx
  obtain ⟨u, rfl, ru⟩ := rxs.one
  obtain ⟨z, its, n, r, hl, e⟩ := I.lstM hH
  obtain ⟨as, q1⟩ := Dp.readsAll I ds _ _ hds r
  obtain ⟨bs, q2⟩ := Dp.reads I d _ _ hd ru
  refine SeqAt.count_list_data (vs := its.toArray) ⟨_, e, rfl, n, rfl⟩ q1 q2 hp1 hp2 (by have := Nat.min_le_right (PyData.depthAll ds) d.depth; omega) ?_
  exact ⟨.int _, H, I.tok _, ⟨s.toks, rfl⟩, q⟩
theorem ret_one {te : TE} {D : Ends} {σ : L2.St} {H : Hp} (h : te σ H fun x H1 => 1 ≤ sizeLine ∧ ∀ b, H1 b = none → D.rt (.ref b) (upd H1 b (.lst [x]))) : tRet (tLst (tCons te tNil)) D σ H := h
/-! values that tell worths -/
structure Wth (K : PySem.W.Frag) (α : Type) [DecidableEq α] where
  R : Hp → V → α → Prop
  dat : α → PyData
  mono : ∀ {H H' : Hp} {v : V} {a : α}, Ex H H' → R H v a → R H' v a
  dp : ∀ {H : Hp} {v : V} {a : α}, R H v a → Dp K H v (dat a)
  pl : ∀ a, (dat a).plain = true
  dep : ∀ a, (dat a).depth ≤ 60
  eqv : ∀ a b, PyData.eqv (dat a) (dat b) = decide (a = b)
inductive RA {α : Type} (R : V → α → Prop) : List V → List α → Prop
  | nil : RA R [] []
  | cons {v : V} {vs : List V} {a : α} {as : List α} : R v a → RA R vs as → RA R (v :: vs) (a :: as)
section
variable {α : Type} {R R' : V → α → Prop}
theorem RA.mono (h : ∀ v a, R v a → R' v a) : ∀ {vs : List V} {as : List α}, RA R vs as → RA R' vs as
  | _, _, .nil => .nil
  | _, _, .cons a t => .cons (h _ _ a) (t.mono h)
theorem RA.length : ∀ {vs : List V} {as : List α}, RA R vs as → vs.length = as.length
  | _, _, .nil => rfl
  | _, _, .cons a t => by simp [t.length]
theorem RA.take : ∀ {vs : List V} {as : List α} (n : Nat), RA R vs as → RA R (vs.take n) (as.take n)
  | _, _, 0, _ => by rw [List.take_zero, List.take_zero]; exact .nil
  | _, _, n + 1, .nil => .nil
  | _, _, n + 1, .cons a t => .cons a (t.take n)
theorem RA.drop : ∀ {vs : List V} {as : List α} (n : Nat), RA R vs as → RA R (vs.drop n) (as.drop n)
  | _, _, 0, h => h
  | _, _, n + 1, .nil => .nil
  | _, _, n + 1, .cons a t => t.drop n
theorem RA.app : ∀ {vs us : List V} {as bs : List α}, RA R vs as → RA R us bs → RA R (vs ++ us) (as ++ bs)
  | _, _, _, _, .nil, k => k
  | _, _, _, _, .cons a t, k => .cons a (t.app k)
theorem RA.at_ : ∀ {vs : List V} {as : List α} {i : Nat} {v : V}, RA R vs as → vs[i]? = some v → ∃ a, as[i]? = some a ∧ R v a
  | _, _, i, v, .nil, h => by cases h
  | _, _, 0, v, .cons (a := a) ha t, h => ⟨a, rfl, by rw [← Option.some.inj h]; exact ha⟩
  | _, _, i + 1, v, .cons ha t, h => t.at_ (show _ = some v from h)
end
section
variable {K : PySem.W.Frag} {α : Type} [DecidableEq α]
theorem Wth.dpAll (W : Wth K α) {H : Hp} : ∀ {us : List V} {as : List α}, RA (W.R H) us as → DpAll K H us (as.map W.dat)
  | _, _, .nil => .nil
  | _, _, .cons h t => .cons (W.dp h) (W.dpAll t)
theorem Wth.plAll (W : Wth K α) : ∀ as : List α, PyData.plainAll (as.map W.dat) = true
  | [] => rfl
  | a :: as => by
    show (_ && _) = true
    rw [W.pl a, W.plAll as]
    rfl
theorem Wth.cnt (W : Wth K α) (a : α) (t : List α) : decide (V.int ((((a :: t).map W.dat).countP fun y => PyData.eqv y (W.dat a) : Nat) : Int) = V.int (((a :: t).length : Nat) : Int)) = oneB (a :: t) := by
  have e : (((a :: t).map W.dat).countP fun y => PyData.eqv y (W.dat a)) = (a :: t).countP fun x => decide (x = a) := by
    rw [List.countP_map]
    congr 1
    funext x
    exact W.eqv x a
  rw [e]
  have e2 : (V.int (((a :: t).countP fun x => decide (x = a) : Nat) : Int) = V.int (((a :: t).length : Nat) : Int)) ↔ t.all (fun x => decide (x = a)) = true := by
    constructor
    · intro z
      injection z with z
      have z : (a :: t).countP (fun x => decide (x = a)) = (a :: t).length := by omega
      have := List.countP_eq_length.mp z
      rw [List.all_eq_true]
      exact fun x hx => this x (List.mem_cons_of_mem _ hx)
    · intro z
      rw [List.all_eq_true] at z
      have : (a :: t).countP (fun x => decide (x = a)) = (a :: t).length := List.countP_eq_length.mpr fun x hx => by
        rcases List.mem_cons.mp hx with y | y
        · rw [y]; exact decide_eq_true rfl
        · exact z x y
      rw [this]
  show _ = t.all (fun x => decide (x = a))
  cases h : t.all (fun x => decide (x = a)) with
  | true => exact decide_eq_true (e2.mpr h)
  | false => exact decide_eq_false fun z => by rw [e2.mp z] at h; cases h
/-- what merged gives: new pairs -/
def MR1 (W : Wth K α) (H : Hp) (u : V) (p : List Nat × α) : Prop := ∃ t v, u = .ref t ∧ H t = some (.tup [.str (T p.1), v]) ∧ W.R H v p.2
theorem MR1.mono {W : Wth K α} {H H' : Hp} {u : V} {p : List Nat × α} (e : Ex H H') (h : MR1 W H u p) : MR1 W H' u p := by
  obtain ⟨t, v, h1, h2, h3⟩ := h
  exact ⟨t, v, h1, e _ _ h2, W.mono e h3⟩
def spM (W : Wth K α) (n : Nat) : Sp := fun vs H Q _ => ∃ (l : Addr) (us : List V) (as : List α) (a : List Nat), vs = [.ref l, .str (T a)] ∧ H l = some (.lst us) ∧ RA (W.R H) us as ∧ as.length = 2 ^ n ∧ a.length + n ≤ 10 ∧
  ∀ H' D rs, H D = none → Ex H H' → H' D = some (.lst rs) → RA (MR1 W H') rs (mrg n as a) → Q (.ref D) H'
def spMx (W : Wth K α) : Nat → Sp
  | 0 => fun _ _ _ _ => False
  | n + 1 => spM W n
end
section
variable {P : Program} {w : World} {K : PySem.W.Frag} {mg : Str → Option Value} {base : Heap} {f : Addr} {fd : FuncData} {α : Type} [DecidableEq α]
abbrev sMg : Stmt := top 17
abbrev nMg : List Str := ["worths", "ahead", "half"]
abbrev FnMg (K : PySem.W.Frag) (f : Addr) (fd : FuncData) : Prop := FunD K "merged" "merged" (defArgs sMg) (defBody sMg) (defScope sMg) [V.str ""] [] f fd
theorem scMg : FnScope nMg ["worths", "ahead"] (defScope sMg) := ⟨rfl, rfl, rfl, by decide +kernel, rfl, by decide +kernel, by decide +kernel⟩
theorem mg_step {W : Wth K α} {n : Nat} (B : Bl mg) (C : Cal P w K mg base "merged" ["worths", "ahead"] (n + 1) (spMx W n)) (F : FnMg K f fd) : FnOk P w K mg base CX0 (n + 2) f fd ["worths", "ahead"] (spM W n) := by
  refine F.ok scMg (fun vs H Q E h => ?_) (fun cdv A outer s H vs Q E hr h => ?_)
  · obtain ⟨l, us, as, a, rfl, _⟩ := h
    rfl
  · obtain ⟨l, us, as, a, rfl, hl, hus, hlen, han, k⟩ := h
    refine ⟨_, pss_cons (ps_if (pt_cmpR op_eq (pe_bm PySem.F.plainAttrs_list PySem.F.slot_list_count PySem.F.type_list_count (mt_countD (K := K) rfl hr.units) (pv 0) (pa_cons (pe_ix (ix_listK (K := K) rfl) (pv 0) pe_int (fun _ _ => rfl)) pa_nil)) (pe_callB call_len_seq (by rfl) B.len PySem.boot_len (pa_cons (pv 0) pa_nil)) (nomark _))
        (pss_one (ps_ret (pe_lst (pa_cons (pe_tup (pa_cons (pv 1) (pa_cons (pe_ix (ix_listK (K := K) rfl) (pv 0) pe_int (fun _ _ => rfl)) pa_nil))) pa_nil)))) pss_nil)
      (pss_cons (ps_set (i := 2) scMg.nd rfl (Or.inl rfl) (pe_op op_fdiv (pe_callB call_len_seq (by rfl) B.len PySem.boot_len (pa_cons (pv 0) pa_nil)) pe_int))
      (pss_one (ps_ret (pe_op op_cat (pe_cal C hr (by rfl) (pa_cons (pe_slice sl_list (pv 0) po_none (po_some (pv 2))) (pa_cons (pe_op op_add_str (pv 1) pe_str) pa_nil)) (Nat.le_refl _)) (pe_cal C hr (by rfl) (pa_cons (pe_slice sl_list (pv 0) (po_some (pv 2)) po_none) (pa_cons (pe_op op_add_str (pv 1) pe_str) pa_nil)) (Nat.le_refl _)))))), ?_⟩
    have hp : 0 < 2 ^ n := Nat.pow_pos (by decide)
    have hp10 : (2 : Nat) ^ n ≤ 1024 := Nat.pow_le_pow_right (by decide) (show n ≤ 10 by omega)
    have hul := hus.length
    have lit : (Str.ofString "0" = T [48]) ∧ (Str.ofString "1" = T [49]) := by decide +kernel
    obtain ⟨a0, t, rfl⟩ : ∃ a0 t, as = a0 :: t := by
      cases as with
      | nil => simp at hlen; omega
      | cons a0 t => exact ⟨a0, t, rfl⟩
    obtain ⟨u0, us', rfl⟩ : ∃ u0 us', us = u0 :: us' := by
      cases us with
      | nil => simp at hul
      | cons u0 us' => exact ⟨u0, us', rfl⟩
    have hu0 : W.R H u0 a0 := by cases hus with | cons h t => exact h
    have v0 : ∀ {H1 : Hp}, Ev (tVar 0) (start nMg [V.ref l, .str (T a)]) H1 (.ref l) := ev_var rfl
    have i0 : ∀ {H1 : Hp}, Ex H H1 → Ev (tOp (rIxL K) (tVar 0) (tC (.int 0))) (start nMg [V.ref l, .str (T a)]) H1 u0 := fun {H1} e => ev_op (ev_var rfl) ev_c (rv_ixL (sq_of (e _ _ hl)) (atI_nat (j := 0) rfl))
    have c1 : Ev (tBM K "list" (rCntD K) (tVar 0) (tCons (tOp (rIxL K) (tVar 0) (tC (.int 0))) tNil)) (start nMg [V.ref l, .str (T a)]) H (.int ((((a0 :: t).map W.dat).countP fun y => PyData.eqv y (W.dat a0) : Nat) : Int)) := fun H1 e Q1 q1 =>
      ⟨.ref l, rfl, .inl ⟨rfl, _, sq_of (e _ _ hl)⟩, ea_cons (i0 e) ea_nil H1 (Ex.refl _) _ fun H2 e2 => ⟨l, _, (a0 :: t).map W.dat, u0, W.dat a0, rfl, rfl, e2 _ _ (e _ _ hl), W.dpAll (hus.mono fun v x h => W.mono (e.trans e2) h), W.dp (W.mono (e.trans e2) hu0), W.plAll _, W.pl _, W.dep _, q1 H2 e2⟩⟩
    have c2 : Ev (tCB (rLenS K) (tCons (tVar 0) tNil)) (start nMg [V.ref l, .str (T a)]) H (.int (((a0 :: t).length : Nat) : Int)) := by
      rw [← hul]
      exact ev_len v0 (sq_of hl)
    refine q_when (b := oneB (a0 :: t)) (by rw [← W.cnt a0 t]; exact et_test (ev_op (r := rEq) c1 c2 (rv_eq rfl))) (fun hb H1 e1 => ?_) fun hb H1 e1 => ?_
    · have em : mrg n (a0 :: t) a = [(a, a0)] := by
        cases n with
        | zero => rfl
        | succ n => show (if _ then _ else _) = _; rw [if_pos hb]
      rw [em] at k
      have z : EvS (tTup (tCons (tVar 1) (tCons (tOp (rIxL K) (tVar 0) (tC (.int 0))) tNil))) (start nMg [V.ref l, .str (T a)]) H1 [.str (T a), u0] := es_tup (ea_cons (ev_var rfl) (ea_cons (i0 e1) ea_nil)) (by show 2 ≤ 100000; decide)
      refine ret_one (z H1 (Ex.refl _) _ fun p H2 e2 hp => ⟨by decide, fun D hD => ?_⟩)
      refine k _ D _ (fresh_back (e1.trans e2) hD) ((e1.trans e2).trans (Ex.new hD)) upd_same (.cons ⟨p, u0, rfl, Ex.new hD _ _ hp, W.mono ((e1.trans e2).trans (Ex.new hD)) hu0⟩ .nil)
    · obtain ⟨m, rfl⟩ : ∃ m, n = m + 1 := by
        cases n with
        | zero =>
          exfalso
          have : t = [] := by
            cases t with
            | nil => rfl
            | cons x t => simp at hlen
          subst this
          cases hb
        | succ m => exact ⟨m, rfl⟩
      have em : mrg (m + 1) (a0 :: t) a = mrg m ((a0 :: t).take (2 ^ m)) (a ++ [48]) ++ mrg m ((a0 :: t).drop (2 ^ m)) (a ++ [49]) := by
        show (if _ then _ else _) = _
        rw [if_neg (by rw [hb]; decide)]
      rw [em] at k
      have hm2 : 2 ^ (m + 1) = 2 * 2 ^ m := by rw [Nat.pow_succ, Nat.mul_comm]
      have hhalf : (((u0 :: us').length : Nat) : Int) / 2 = ((2 ^ m : Nat) : Int) := by rw [hul, hlen, hm2]; omega
      refine q_asg (v := .int ((2 ^ m : Nat) : Int)) ?_ fun H2 e2 => ?_
      · have z := ev_op (r := rI CDiv fun i j => .int (i / j)) (ev_len (K := K) (σ := start nMg [V.ref l, .str (T a)]) (H := H1) (ta := tVar 0) (ev_var rfl) (sq_of (e1 _ _ hl))) (ev_c (v := .int 2)) (rv_I ⟨by decide, by decide⟩)
        rw [hhalf] at z
        exact z
      have e02 := e1.trans e2
      change tRet _ _ [some (.ref l), some (.str (T a)), some (.int ((2 ^ m : Nat) : Int))] H2
      generalize hL : (a0 :: t) = as at *
      generalize hU : (u0 :: us') = us at *
      have sl1 := el_sl (K := K) (te := tVar 0) (tl := tNoPart) (th := tPart (tVar 2)) (σ := [some (.ref l), some (.str (T a)), some (.int ((2 ^ m : Nat) : Int))]) (H := H2) (ev_var rfl) eo_none (eo_some (ev_var rfl)) (sq_of (e02 _ _ hl))
      rw [cut_to _ _ (by omega)] at sl1
      refine sl1 H2 (Ex.refl _) _ fun p3 H3 n3 e3 h3 => ?_
      refine ev_addS (b := [48]) (ev_var rfl) (ev_is ev_c (congrArg V.str lit.1)) (by simp; omega) H3 (Ex.refl _) _ fun H4 e4 => ?_
      have e04 := (e02.trans e3).trans e4
      refine ⟨p3, _, as.take (2 ^ m), a ++ [48], rfl, e4 _ _ h3, (hus.take _).mono fun v x h => W.mono e04 h, by rw [List.length_take]; omega, by simp; omega, fun H5 D5 rs5 n5 e5 h5 r5 => ?_⟩
      have e05 := e04.trans e5
      have sl2 := el_sl (K := K) (te := tVar 0) (tl := tPart (tVar 2)) (th := tNoPart) (σ := [some (.ref l), some (.str (T a)), some (.int ((2 ^ m : Nat) : Int))]) (H := H5) (ev_var rfl) (eo_some (ev_var rfl)) eo_none (sq_of (e05 _ _ hl))
      rw [cut_from _ _ (by omega)] at sl2
      refine sl2 H5 (Ex.refl _) _ fun p6 H6 n6 e6 h6 => ?_
      refine ev_addS (b := [49]) (ev_var rfl) (ev_is ev_c (congrArg V.str lit.2)) (by simp; omega) H6 (Ex.refl _) _ fun H7 e7 => ?_
      have e57 := e6.trans e7
      have e07 := e05.trans e57
      refine ⟨p6, _, as.drop (2 ^ m), a ++ [49], rfl, e7 _ _ h6, (hus.drop _).mono fun v x h => W.mono e07 h, by rw [List.length_drop]; omega, by simp; omega, fun H8 D8 rs8 n8 e8 h8 r8 => ?_⟩
      have l5 := r5.length
      have l8 := r8.length
      have m5 := mrg_len m (as.take (2 ^ m)) (a ++ [48])
      have m8 := mrg_len m (as.drop (2 ^ m)) (a ++ [49])
      have e58 := e57.trans e8
      refine ⟨D5, D8, rs5, rs8, rfl, rfl, e58 _ _ h5, h8, sz_of (by omega), fun D hD => ?_⟩
      have e08 := e07.trans e8
      exact k _ D _ (fresh_back e08 hD) (e08.trans (Ex.new hD)) upd_same (((r5.mono fun v x h => h.mono e58).app r8).mono fun v x h => h.mono (Ex.new hD))
theorem ok_mg {W : Wth K α} (B : Bl mg) (hg : mg "merged" = some (.ref f)) (hk : PySem.W.keepIn K (.ref f) = true) (hb : Binds K fd ["worths", "ahead"] []) (F : FnMg K f fd) : ∀ n, Cal P w K mg base "merged" ["worths", "ahead"] (n + 1) (spMx W n)
  | 0 => ⟨f, fd, F.ok scMg (fun vs H Q E h => h.elim) (fun cdv A outer s H vs Q E hr h => h.elim), hg, hk, hb⟩
  | n + 1 => ⟨f, fd, mg_step B (ok_mg B hg hk hb F n) F, hg, hk, hb⟩
end
end Wk

set_option Elab.async false
set_option linter.all false
set_option maxRecDepth 100000
set_option maxHeartbeats 4000000
namespace Wk
open PySem PySem.Spec PyProof.Rows L2 Evl
/-! list of a text -/
theorem vals_of : ∀ {ys : List V} {its : List Value}, ys.length = its.length → (∀ (j : Nat) (y : V), ys[j]? = some y → ∃ v, its[j]? = some v ∧ RelV y v) → Vals ys its
  | [], [], _, _ => .nil
  | [], _ :: _, h, _ => by cases h
  | _ :: _, [], h, _ => by cases h
  | y :: ys, v :: its, h, k => by
    obtain ⟨v', e, r⟩ := k 0 y rfl
    obtain rfl : v = v' := Option.some.inj e
    exact .cons r (vals_of (by simpa using h) fun j z hz => k (j + 1) z hz)
abbrev rListS : List V → Hp → VK → Prop := fun xs H Q => ∃ l : List Nat, xs = [.str (T l)] ∧ l.length ≤ 1000 ∧ ∀ a, H a = none → Q (.ref a) (upd H a (.lst (l.map fun c => .str (T [c]))))
theorem call_listS {X : Cx} (hc : X.calm = true) : CallR X (.type "list") rListS := by
  intro pins s σ H xs us Q I r h
  obtain ⟨l, rfl, hl, q⟩ := h
  obtain ⟨u, rfl, rx⟩ := vals1 r
  obtain ⟨t, rfl⟩ := rx
  have hsz : (T l).cps.size = l.length := by simp [T]
  refine call_list_str (I.ok.hd hc) (T l) t (fun h' tk acc' c' kp e hacc => ?_) (by rw [hsz, sizeLine_eq]; omega)
  refine ⟨.ref s.heap.objs.size, _, I.laid (t' := tk) kp (Nat.le_refl _) (show ObjOk X.prog X.w _ h' _ (.lst (l.map fun c => .str (T [c]))) from ⟨?_, acc'.toList, c', ?_, ?_⟩), rfl, q _ (I.hok.fresh (Nat.le_refl _))⟩
  · rw [List.length_map]; exact sz_of (by omega)
  · refine vals_of ?_ fun j y hj => ?_
    · have h1 := hacc.1
      rw [hsz] at h1
      rw [List.length_map, ← h1]
      simp
    · rw [List.getElem?_map] at hj
      cases hcj : l[j]? with
      | none => rw [hcj] at hj; cases hj
      | some c =>
        rw [hcj] at hj
        have hy := (Option.some.inj hj).symm
        subst hy
        have hjl := (List.getElem?_eq_some_iff.mp hcj).1
        have hja : j < acc'.size := by rw [hacc.1, hsz]; exact hjl
        obtain ⟨c2, u, h1, h2⟩ := hacc.2 j acc'[j] (Array.getElem?_eq_getElem hja)
        have : c2 = c := by
          have e2 : l[j]? = some c2 := by simpa [T] using h1
          rw [hcj] at e2
          exact (Option.some.inj e2).symm
        subst this
        refine ⟨acc'[j], by rw [Array.getElem?_toList, Array.getElem?_eq_getElem hja], ?_⟩
        rw [h2]
        exact ⟨u, rfl⟩
  · simpa using e
/-! the longest by the law's walk -/
def LawIs (es : List Row) (l : List Nat) (v : V) : Prop := (v = .str "drop" ∧ ∀ e ∈ es, l.take e.1.length ≠ e.1) ∨ ∃ e ∈ es, l.take e.1.length = e.1 ∧ v = e.2 ∧ ∀ e' ∈ es, l.take e'.1.length = e'.1 → e'.1.length ≤ e.1.length
theorem long_law {es : List Row} {l : List Nat} {v1 v2 : V} (nd : (es.map (·.1)).Nodup) (hl : l.length = 10) (h10 : ∀ e ∈ es, e.1.length ≤ 10) (h1 : LongIs es l v1) (h2 : LawIs es l v2) : v1 = v2 := by
  have key : ∀ e ∈ es, l.take e.1.length = e.1 → valV es (l.take (10 - (10 - e.1.length))) = some e.2 := fun e he hp => by
    have : 10 - (10 - e.1.length) = e.1.length := by have := h10 e he; omega
    rw [this, hp]
    exact valE_mem nd he
  have back : ∀ k v, valV es k = some v → (k, v) ∈ es := fun k v hv => by
    clear key h1 h2 h10 nd
    induction es with
    | nil => cases hv
    | cons e r ih =>
      obtain ⟨a, b⟩ := e
      by_cases c : a = k
      · rw [valV_pos c] at hv
        rw [← Option.some.inj hv, c]
        exact List.mem_cons_self
      · rw [valV_neg c] at hv
        exact List.mem_cons_of_mem _ (ih hv)
  rcases h1 with ⟨i, hi, hv, hno⟩ | ⟨rfl, hno⟩
  · have hm := back _ _ hv
    have hlen : (l.take (10 - i)).length = 10 - i := by rw [List.length_take]; omega
    have hpre : l.take (l.take (10 - i)).length = l.take (10 - i) := by rw [hlen]
    rcases h2 with ⟨_, h2⟩ | ⟨e, he, hp, rfl, hmax⟩
    · exact absurd hpre (h2 _ hm)
    · have h3 := hmax _ hm hpre
      rw [hlen] at h3
      have h4 := h10 e he
      by_cases c : e.1.length = 10 - i
      · have z := valE_mem nd he
        rw [← hp, c, hv] at z
        exact Option.some.inj z
      · have z := key e he hp
        rw [hno (10 - e.1.length) (by omega)] at z
        cases z
  · rcases h2 with ⟨rfl, _⟩ | ⟨e, he, hp, rfl, _⟩
    · rfl
    · have z := key e he hp
      rw [hno _ (by omega)] at z
      cases z
theorem law_nx {es : List Row} {l : List Nat} {v : V} {m : Nat} (hes : EsOk es m) (h : LawIs es l v) : NxV v := by
  rcases h with ⟨rfl, _⟩ | ⟨e, he, _, rfl, _⟩
  · exact .inr (.inl rfl)
  · exact (hes.it e he).2.2
section
variable {P : Program} {w : World} {K : PySem.W.Frag} {mg : Str → Option Value} {base : Heap} {f : Addr} {fd : FuncData} {CT : Addr}
/-! _law_same -/
def spSame : Sp := fun vs H Q _ => ∃ v : V, vs = [v, v] ∧ NxV v ∧ ∀ H', Ex H H' → Q (.bl true) H'
abbrev nSame : List Str := ["_law_told", "_law_due"]
end
end Wk

set_option Elab.async false
set_option linter.all false
set_option maxRecDepth 100000
set_option maxHeartbeats 4000000
namespace Wk
open PySem PySem.Spec PyProof.Rows L2 Evl
/-! tests with draws -/
def EvTP (p g c : Addr) (G : Hp) (t : TT) (σ : L2.St) : Prop := ∀ H, Pq G H p g c → ∀ Q : Bool → Hp → Prop, (∀ H' b, Gq p g c G H G H' → Q b H') → t σ H Q
section
variable {p g c : Addr} {G : Hp} {σ : L2.St} {te : TE} {t u : TT}
theorem etp_eq {i : Nat} {z : Int} {k : Int} {E : XK} (hp : σ[i]? = some (some (.ref p))) (hz : Ev te σ G (.int z)) (h0 : 0 < z) (h1 : z ≤ 1000000000) : EvTP p g c G (tTest (tOp rEq (tCall spDrw [] E (tCons (tVar i) (tCons te tNil))) (tC (.int k)))) σ := fun H hP Q q => by
  refine ep_drw hp hz h0 h1 H hP _ fun H' v g1 hv => ?_
  obtain ⟨j, rfl, _⟩ := hv
  exact ⟨rfl, _, rfl, q H' _ g1⟩
theorem etp_or {a : Bool} {H : Hp} {Q : Bool → Hp → Prop} (hP : Pq G H p g c) (h1 : EvT t σ G a) (h2 : a = false → EvTP p g c G u σ) (k : ∀ H' b, Gq p g c G H G H' → (b = false → a = false) → Q b H') : tOr t u σ H Q := by
  refine h1 H hP.ex _ fun H1 e1 => ?_
  have g1 := Gq.ext hP e1
  cases a with
  | true =>
    rw [if_pos rfl]
    exact k H1 true g1 (fun z => by cases z)
  | false =>
    rw [if_neg (by decide)]
    exact h2 rfl H1 g1.pl _ fun H2 b g2 => k H2 b (g1.trans g2) fun _ => rfl
end
end Wk

set_option Elab.async false
set_option linter.all false
set_option maxRecDepth 100000
set_option maxHeartbeats 4000000
namespace Wk
open PySem PySem.Spec PyProof.Rows L2 Evl
/-! rows as data that compare -/
theorem strOk_T {l : List Nat} (h : IsB l) : PyData.strOk (T l) = true := by
  unfold PyData.strOk
  rw [← Array.all_toList]
  show l.all _ = true
  rw [List.all_eq_true]
  intro c hc
  rcases h c hc with z | z <;> (rw [z]; decide)
theorem lay_nx {v : V} (h : NxV v) : (nxD v).canLay0 = true ∧ (nxD v).depth ≤ 1 := by
  rcases h with rfl | rfl | ⟨i, _, rfl⟩
  · exact ⟨by show PyData.strOk _ = true; decide +kernel, by show (PyData.str _).depth ≤ 1; simp [PyData.depth]⟩
  · exact ⟨by show PyData.strOk _ = true; decide +kernel, by show (PyData.str _).depth ≤ 1; simp [PyData.depth]⟩
  · exact ⟨by show (PyData.int _).canLay0 = true; simp [PyData.canLay0], by show (PyData.int _).depth ≤ 1; simp [PyData.depth]⟩
theorem lay_rows : ∀ {es : List Row}, (∀ e ∈ es, IsB e.1 ∧ NxV e.2) → PyData.canLayAll0 (es.map rowD) = true ∧ PyData.depthAll (es.map rowD) ≤ 3
  | [], _ => ⟨by simp [PyData.canLayAll0], by simp [PyData.depthAll]⟩
  | e :: es, h => by
    obtain ⟨h1, h2⟩ := lay_rows (es := es) fun x hx => h x (List.mem_cons_of_mem _ hx)
    obtain ⟨hb, hn⟩ := h e List.mem_cons_self
    obtain ⟨l1, l2⟩ := lay_nx hn
    have hs := strOk_T hb
    refine ⟨?_, ?_⟩
    · rw [List.map_cons]
      simp [PyData.canLayAll0, rowD, PyData.canLay0, hs, l1, h1]
    · rw [List.map_cons]
      simp only [PyData.depthAll, rowD, PyData.depth]
      omega
theorem rows_dp {K : PySem.W.Frag} {H : Hp} {t : Addr} {us : List V} {es : List Row} (ht : H t = some (.tup us)) (hus : EsT H us es) (hes : ∀ e ∈ es, IsB e.1 ∧ NxV e.2) : Dp K H (.ref t) (.tuple (es.map rowD)) := by
  refine Dq.dp ?_ (.tup ht (hus.dq fun e he => (hes e he).2))
  simp only [PyData.canLay0]
  exact (lay_rows hes).1
theorem rows_shaped {es : List Row} (hes : ∀ e ∈ es, IsB e.1 ∧ NxV e.2) : SeqAt.shaped (.tuple (es.map rowD)) = true := by
  unfold SeqAt.shaped
  obtain ⟨h1, h2⟩ := lay_rows hes
  rw [Bool.and_eq_true]
  refine ⟨by simp only [PyData.canLay0]; exact h1, decide_eq_true ?_⟩
  simp only [PyData.depth]
  omega
theorem rows_eqv {es : List Row} (hes : ∀ e ∈ es, IsB e.1 ∧ NxV e.2) : PyData.eqv (.tuple (es.map rowD)) (.tuple (es.map rowD)) = true :=
  SeqAt.eqv_refl _ (by simp only [PyData.canLay0]; exact (lay_rows hes).1)
/-! what stays, with all that stands beside the pool -/
theorem kv_ne_pl {es : List Row} (h : ∀ e ∈ es, IsB e.1) {c g : Addr} {a s m : Int} : kvOf es ≠ plV c g a s m := fun z => by
  cases es with
  | nil => cases z
  | cons e r =>
    have z1 : (.inr (T e.1) : L2.Key) = kC := congrArg Prod.fst (List.cons.inj z).1
    have z2 : T e.1 = Str.ofString "cells" := by injection z1
    have z3 : Str.ofString "cells" = T [99, 101, 108, 108, 115] := by decide +kernel
    rw [z3] at z2
    have z4 := T_inj z2
    have := h e List.mem_cons_self 99 (by rw [z4]; simp)
    omega
section
variable {G H : Hp} {p g c : Addr}
theorem Pq.tupH (h : Pq G H p g c) {b : Addr} {xs : List V} (hb : H b = some (.tup xs)) : Hd2 H p g b = some (.tup xs) := by
  obtain ⟨cs, gs, k, s, m, h1, h2, h3, h4, h5, r⟩ := h.at_
  rw [hd2_at (fun z => by rw [z, h4] at hb; cases hb) (fun z => by rw [z, h5] at hb; cases hb)]
  exact hb
theorem EsT.hd (h : Pq G H p g c) : ∀ {us : List V} {es : List Row}, EsT H us es → EsT (Hd2 H p g) us es
  | _, _, .nil => .nil
  | _, _, .cons hb t => .cons (h.tupH hb) (t.hd h)
theorem Tb.hd {CT x : Addr} {es : List Row} (h : Pq G H p g c) (hes : ∀ e ∈ es, IsB e.1) (hT : Tb CT H x es) : Tb CT (Hd2 H p g) x es := by
  obtain ⟨dx, fs, te, nd, us', es', h1, h2, h3, h4, h5, h6, h7, h8⟩ := hT
  obtain ⟨cs, gs, k, s, m, i1, i2, i3, i4, i5, r⟩ := id h.at_
  refine ⟨dx, fs, te, nd, us', es', ?_, h2, h3, h4, h.tupH h5, h6.hd h, h7, ?_⟩
  · rw [hd2_at (fun z => by rw [z, i4] at h1; cases h1) (fun z => by rw [z, i5] at h1; cases h1)]
    exact h1
  · rw [hd2_at (fun z => by rw [z, i4] at h8; injection h8 with h8; injection h8 with h8; exact kv_ne_pl hes h8.symm) (fun z => by rw [z, i5] at h8; cases h8)]
    exact h8
end
section
variable {P : Program} {w : World} {K : PySem.W.Frag} {mg : Str → Option Value} {base : Heap} {f : Addr} {fd : FuncData} {CT CB : Addr}
/-- the entries are the sorted rows -/
theorem ask_sorted {H : Hp} {σ : L2.St} {tx tr : TE} {x L : Addr} {us : List V} {es : List Row} (X : TX K CT) (hx : Ev tx σ H (.ref x)) (hT : Tb CT H x es) (hr : Ev tr σ H (.ref L)) (hL : H L = some (.lst us)) (hus : EsT H us es) (hes : EsOk es 24) :
    Ev (tOp (rEqD K) (tFld K tx "entries") (tCB (fun xs H Q => ∃ p ys, xs = [.ref p] ∧ ((SqL K H p ys ∧ ∀ l, H l = none → Q (.ref l) (upd H l (.tup ys))) ∨ (SqT K H p ys ∧ Q (.ref p) H))) (tCons (tCB (rSortR K) (tCons tr tNil)) tNil))) σ H (.bl true) := fun H1 e Q q => by
  refine hx H1 e _ fun H2 e2 => ?_
  obtain ⟨dx, fs, te, nd, us', es', h1, h2, h3, h4, h5, h6, h7, h8⟩ := id hT
  refine ⟨x, CT, dx, fs, .ref te, rfl, (e.trans e2) _ _ h1, X.ic.cl, X.nE, h2, ?_⟩
  refine hr H2 (e.trans e2) _ fun H3 e3 => ?_
  have e03 := (e.trans e2).trans e3
  refine ⟨L, us, es, rfl, .inl (sq_of (e03 _ _ hL)), hus.mono e03, hes.nd, fun e he => flat_nx (hes.it e he).2.2, fun ys es2 p hsr hys hp => ?_⟩
  obtain rfl := hsr.uniq h7
  have e4 := Ex.new (o := .lst ys) hp
  have hpp : (upd H3 p (.lst ys)) p = some (.lst ys) := upd_same
  generalize upd H3 p (.lst ys) = H4 at *
  refine ⟨p, ys, rfl, .inl ⟨sq_of hpp, fun t ht => ?_⟩⟩
  have e5 := Ex.new (o := .tup ys) ht
  have htt : (upd H4 t (.tup ys)) t = some (.tup ys) := upd_same
  generalize upd H4 t (.tup ys) = H5 at *
  have hok : ∀ e ∈ es2, IsB e.1 ∧ NxV e.2 := fun e he => by
    have := hes.it e (hsr.2.perm.mem_iff.mp he)
    exact ⟨this.1, this.2.2⟩
  exact ⟨_, _, rows_dp ((((e03.trans e4).trans e5)) _ _ h5) (h6.mono ((e03.trans e4).trans e5)) hok, rows_dp htt (hys.mono (e4.trans e5)) hok, rows_shaped hok, rows_shaped hok, by rw [rows_eqv hok]; exact q H5 (((e2.trans e3).trans e4).trans e5)⟩
theorem ev_ixR {σ : L2.St} {H : Hp} {ta tb : TE} {a : Addr} {xs : List V} {i : Nat} {v : V} (ha : Ev ta σ H (.ref a)) (hb : Ev tb σ H (.int (i : Int))) (h : H a = some (.lst xs)) (hv : xs[i]? = some v) : Ev (tOp (rIxL K) ta tb) σ H v := ev_op ha hb (rv_ixL (sq_of h) (atI_nat hv))
end
end Wk

set_option Elab.async false
set_option linter.all false
set_option maxRecDepth 100000
set_option maxHeartbeats 4000000
namespace Wk
open PySem PySem.Spec PyProof.Rows L2 Evl
section
variable {P : Program} {w : World} {K : PySem.W.Frag} {mg : Str → Option Value} {base : Heap} {f : Addr} {fd : FuncData} {CT : Addr}
structure MkT (P : Program) (w : World) (K : PySem.W.Frag) (mg : Str → Option Value) (base : Heap) (CT : Addr) : Prop where
  g : mg "Table" = some (.ref CT)
  ex : ∃ (fI : Addr) (fd : FuncData), Mk K CT fI ∧ FnOk P w K mg base CX0 6 fI fd ["self", "entries"] (spInit CT) ∧ Binds K fd ["self", "entries"] []
/-- a table made of a row: what stood stays -/
theorem mk_tab {W : XK} {H : Hp} {Q : Addr → Hp → Prop} {l : Addr} {us : List V} {es : List Row} (hrow : RowA H l us) (hus : EsT H us es) (hes : EsOk es 24) (k : ∀ x H', Ex H H' → H x = none → Tb CT H' x es → Q x H') :
    ∀ x dx, H x = none → H dx = none → dx ≠ x → spInit CT [.ref x, .ref l] (upd (upd H dx (.own x)) x (.ins CT dx [])) (fun v H2 => v = .non ∧ Q x H2) W := fun x dx hx hdx hne => by
  have e1 : Ex H (upd (upd H dx (.own x)) x (.ins CT dx [])) := (Ex.new hdx).trans (Ex.new (by rw [upd_ne (Ne.symm hne)]; exact hx))
  refine ⟨x, l, dx, us, es, rfl, upd_same, hrow.mono e1, hus.mono e1, hes, fun H' o hT => ⟨rfl, k x H' (fun b u hb => ?_) hx hT⟩⟩
  exact o b u (fun z => by rw [z, hx] at hb; cases hb) (e1 _ _ hb)
end
end Wk

set_option Elab.async false
set_option linter.all false
set_option maxRecDepth 100000
set_option maxHeartbeats 4000000
namespace Wk
open PySem PySem.Spec PyProof.Rows L2 Evl
section
variable {P : Program} {w : World} {K : PySem.W.Frag} {mg : Str → Option Value} {base : Heap} {f : Addr} {fd : FuncData} {CT CF : Addr}
def spOnw0 (CT : Addr) : Sp := fun vs H Q _ => ∃ (x : Addr) (l : List Nat) (es : List Row), vs = [.ref x, .str (T l)] ∧ Tb CT H x es ∧ l.length ≤ 100 ∧ adrB l = true ∧ ∀ H' z, Ex H H' → LongIs es l z → Q z H'
theorem ok_onw0 {t1 : Tok} (hM : mg "DROP" = some (.str "drop" t1)) (X : TX K CT) (CA : Cal P w K mg base "is_address" ["thing"] 2 (spAddr K)) (CG : Cal P w K mg base "beginnings" ["address"] 1 spBeg) (F : FnM K "onward" "Table.onward" sOnw f fd) : FnOk P w K mg base CX0 3 f fd ["self", "address"] (spOnw0 CT) := by
  refine F.ok scOnw (fun vs H Q E h => ?_) (fun cdv A outer s H vs Q E hr h => ?_)
  · obtain ⟨x, l, es, rfl, _⟩ := h
    rfl
  · obtain ⟨x, l, es, rfl, hT, hl, had, k⟩ := h
    have hu : (A.deeper (envOfC "Table.onward" (defScope sOnw) s.heap.objs.size f cdv)).units + 1 < cLine := by have := hr.un; omega
    refine ⟨_, pss_cons (ps_if (pt_not (pt_val (pe_cal CA hr (by rfl) (pa_cons (pv 1) pa_nil)))) (pss_one ps_never) pss_nil)
      (pss_cons (ps_for (passes_of rfl) rfl (pi_list (pe_cal CG hr (by rfl) (pa_cons (pv 1) pa_nil))) (pg_name (i := 2) scOnw.nd rfl (Or.inl rfl))
        (pss_one (ps_if (pt_cmp (pc_din hu (pv 2) (pe_fld (pv 0) rfl))) (pss_one (ps_ret (pe_dget hu (pe_fld (pv 0) rfl) (pv 2) (fun _ _ => rfl)))) pss_nil)))
      (pss_one (ps_ret (pe_glob (v := .str "drop") (by rfl) hM ⟨_, rfl⟩)))), ?_⟩
    obtain ⟨dx, fs, te, nd, us', es', hx, lE, lN, lO, hte, hus, hsr, hnd⟩ := hT
    have v1 : ∀ {H1 : Hp}, Ev (tVar 1) (start nOnw [V.ref x, .str (T l)]) H1 (.str (T l)) := ev_var rfl
    have c1 : Ev (tCall (spAddr K) [] E0 (tCons (tVar 1) tNil)) (start nOnw [V.ref x, .str (T l)]) H (.bl true) := ev_call (ea_cons v1 ea_nil) (spP_v fun H1 e1 => ⟨_, rfl, .inl ⟨l, rfl, hl, by rw [had]⟩⟩)
    refine q_when (b := !true) (et_not (et_B c1)) (fun z => by cases z) fun _ H1 e1 => ?_
    have c2 : EvL (tCall spBeg [] E0 (tCons (tVar 1) tNil)) (start nOnw [V.ref x, .str (T l)]) H1 (begs l) := fun H2 e2 Q2 q2 => ⟨_, rfl, l, rfl, hl, fun H3 D e3 hD hD3 => q2 D H3 hD e3 hD3⟩
    have hbl : (begs l).length = 11 := by unfold begs; simp
    refine q_forNLn (K := K) c2 (fun D i σ' H' => ∃ o, σ' = [some (.ref x), some (.str (T l)), o] ∧ Ex H H' ∧ H' D = some (.lst (begs l)) ∧ ∀ j, j < i → valV es (l.take (10 - j)) = none) (fun D H2 hD e2 hD2 => ⟨_, rfl, e1.trans e2, hD2, fun j hj => absurd hj (Nat.not_lt_zero _)⟩) (fun D i σ' H' _ hp => ?_) (fun D i y σ' H' hy hp => ?_) (fun D σ' H' hp => ?_)
    · obtain ⟨_, _, _, hD, _⟩ := hp
      exact sq_of hD
    · obtain ⟨o, rfl, e2, hD2, hno⟩ := hp
      have hi : i < 11 := by rw [← hbl]; exact (List.getElem?_eq_some_iff.mp hy).1
      have hyv : y = .str (T (l.take (10 - i))) := by
        unfold begs at hy
        rw [List.getElem?_map, List.getElem?_range hi] at hy
        exact (Option.some.inj hy).symm
      subst hyv
      change tIfS _ _ _ _ [some (.ref x), some (.str (T l)), some (.str (T (l.take (10 - i))))] H'
      have fN : ∀ {H3 : Hp}, Ex H H3 → Ev (tFld K (tVar 0) "_nexts") [some (.ref x), some (.str (T l)), some (.str (T (l.take (10 - i))))] H3 (.ref nd) := fun {H3} e3 H4 e4 Q4 q4 => ⟨.ref x, rfl, x, CT, dx, _, _, rfl, e4 _ _ (e3 _ _ hx), X.ic.cl, X.nN, lN, q4 H4 (Ex.refl H4)⟩
      have d1 : Ev (tDIn (tVar 2) (tFld K (tVar 0) "_nexts")) [some (.ref x), some (.str (T l)), some (.str (T (l.take (10 - i))))] H' (.bl (valV es (l.take (10 - i))).isSome) := fun H5 e5 Q5 q5 => ⟨_, rfl, fN e2 H5 e5 _ fun H6 e6 => ⟨nd, _, rfl, .inl ⟨kvOf es, .inr (T (l.take (10 - i))), .inl (e6 _ _ (e5 _ _ (e2 _ _ hnd))), rfl, rfl⟩, by rw [kv_val]; exact q5 H6 e6⟩⟩
      refine s_when (b := (valV es (l.take (10 - i))).isSome) (et_B d1) (fun hs H5 e5 => ?_) fun hs H5 e5 => ?_
      · obtain ⟨z, hz⟩ := Option.isSome_iff_exists.mp hs
        have g1 : Ev (tDGet (tFld K (tVar 0) "_nexts") (tVar 2)) [some (.ref x), some (.str (T l)), some (.str (T (l.take (10 - i))))] H5 z := fun H6 e6 Q6 q6 => fN (e2.trans e5) H6 e6 _ fun H7 e7 => ⟨_, rfl, nd, z, rfl, .inl ⟨kvOf es, .inr (T (l.take (10 - i))), .inl (e7 _ _ (e6 _ _ (e5 _ _ (e2 _ _ hnd)))), rfl, by rw [kv_val]; exact hz.symm⟩, q6 H7 e7⟩
        exact s_ret g1 fun H6 e6 => k H6 z ((e2.trans e5).trans e6) (.inl ⟨i, by omega, hz, hno⟩)
      · refine ⟨_, rfl, e2.trans e5, e5 _ _ hD2, fun j hj => ?_⟩
        by_cases c : j = i
        · rw [c]
          cases hz : valV es (l.take (10 - i)) with
          | none => rfl
          | some z => rw [hz] at hs; cases hs
        · exact hno j (by omega)
    · obtain ⟨o, rfl, e2, hD2, hno⟩ := hp
      rw [hbl] at hno
      exact k H' _ e2 (.inr ⟨rfl, fun j hj => hno j (by omega)⟩)
end
end Wk

set_option Elab.async false
set_option linter.all false
set_option maxRecDepth 100000
set_option maxHeartbeats 4000000
namespace Wk
open PySem PySem.Spec PyProof.Rows L2 Evl
/-- a call that leaves the last arguments to their defaults -/
structure CalD (P : Program) (w : World) (K : PySem.W.Frag) (mg : Str → Option Value) (base : Heap) (x : Str) (ps : List Str) (dvs : List V) (k : Nat) (sp : Sp) : Prop where
  ex : ∃ (f : Addr) (fd : FuncData) (ds : List Value), FnOk P w K mg base CX0 k f fd ps sp ∧ mg x = some (.ref f) ∧ PySem.W.keepIn K (.ref f) = true ∧ Binds K fd ps ds ∧ Vals dvs ds
theorem pe_calD {X : Cx} {x : Str} {p pos : Pos} {e : Expr} {es : List Expr} {ps : List Str} {dvs : List V} {k j : Nat} {sp : Sp} {t : TA} (C : CalD X.prog X.w X.K X.mg X.base x ps dvs k sp) (hr : Room j X.A) (hg : Gl X x) (ha : PA X (e :: es) t) (hk : k ≤ j := by decide)
    (hdb : (x == ("__debug__" : Str)) = false := by decide) (he : starEach (e :: es) X.env = (false, eval e X.env) :: starEach es X.env := by rfl) (hpl : (backTo pos (starEach es X.env)).any (·.1) = false := by rfl) :
    PE X (.Call (.Name x p) (e :: es) [] pos) (tCall sp dvs E0 t) := by
  obtain ⟨f, fd, ds, F, g, kp, b, hd⟩ := C.ex
  exact pe_call F (hr.mono hk) hg g kp b hd pass0 ha hdb he hpl
theorem pe_ads {X : Cx} {x : Str} {p pos : Pos} {k j : Nat} {sp : Sp} (C : Cal X.prog X.w X.K X.mg X.base x [] k sp) (hr : Room j X.A) (hg : Gl X x) (hk : k ≤ j := by decide) (hdb : (x == ("__debug__" : Str)) = false := by decide) : PE X (.Call (.Name x p) [] [] pos) (tCall sp [] E0 tNil) := by
  obtain ⟨f, fd, F, g, kp, b⟩ := C.ex
  exact pe_call0 F (hr.mono hk) hg g kp b .nil pass0 hdb
theorem pi_listK {X : Cx} {K : PySem.W.Frag} {tg l : Expr} {tl : TE} (hK : X.K = K) (hl : PE X l tl) : PI X tg l (iList K tl) := by
  subst hK
  exact pi_list hl
theorem cr_anyK {X : Cx} {K : PySem.W.Frag} (hK : X.K = K) (hc : X.calm = true) : CallR X (.builtin "any") (rAny K) := by
  subst hK
  exact cr_any hc
end Wk

set_option Elab.async false
set_option linter.all false
set_option maxRecDepth 100000
set_option maxHeartbeats 4000000
namespace Wk
open PySem PySem.Spec PyProof.Rows L2 Evl
/-! the head's facts with more of them -/
abbrev AlX : Type := He.AlD × Bool
def obsX (n : Nat) (fa : List He.Fa) (fn : List He.DefD) (eb : PySem.W.Frag → Bool) (g : Addr → Option Obj) : AlX := (He.obsDG n fa fn g, eb (He.frG g (He.asD g n)))
def hookX (n : Nat) (fa : List He.Fa) (fn : List He.DefD) (eb : PySem.W.Frag → Bool) : PySem.W.Hook where
  α := AlX
  obs := fun s => obsX n fa fn eb s.heap.get?
  val := fun _ => (He.valD fn, true)
  says := fun _ h => ∃ K : PySem.W.Frag, K.In h ∧ He.SaysD fa fn K ∧ eb K = true
  of := fun _ _ e => ⟨_, He.frG_in, congrArg Prod.fst e, congrArg Prod.snd e⟩
  keeps := fun _ _ _ ⟨K, hK, c⟩ k => ⟨K, PySem.W.Frag.In.keeps hK k, c⟩
theorem obsX_eq {n : Nat} {fa : List He.Fa} {fn : List He.DefD} {eb : PySem.W.Frag → Bool} {g : Addr → Option Obj} {s : Shared} (h : ∀ a, g a = s.heap.get? a) : obsX n fa fn eb g = (hookX n fa fn eb).obs s := by
  have e : g = s.heap.get? := funext h
  rw [e]
  rfl
theorem calOf {P : Program} {w : World} {K : PySem.W.Frag} {mg : Str → Option Value} {base : Heap} {x q : Str} {params : Arguments} {body : List Stmt} {scope : Scope} {f : Addr} {fd : FuncData} {ps : List Str} {k : Nat} {sp : Sp} (F : FunD K x q params body scope [] [] f fd) (o : FnOk P w K mg base CX0 k f fd ps sp) (g : mg x = some (.ref f)) (b : Binds K fd ps []) : Cal P w K mg base x ps k sp := ⟨⟨f, fd, o, g, F.kp, b⟩⟩
def dG (x : Str) (i : Nat) : He.DefD := ⟨(x, none), x, x, defArgs (top i), defBody (top i), defScope (top i), [], []⟩
def dM (c m q : Str) (i j : Nat) : He.DefD := ⟨(c, some m), m, q, defArgs (inClass (top i) j), defBody (inClass (top i) j), defScope (inClass (top i) j), [], []⟩
end Wk

set_option Elab.async false
set_option linter.all false
set_option maxRecDepth 100000
set_option maxHeartbeats 2000000
namespace Wk
open PySem PySem.Spec PyProof.Rows L2 Evl
def insB (K : PySem.W.Frag) (C : Addr) : Bool := He.eqO (PySem.W.findIn K (.ref C) "__class__") (some (some (.builtin "object.__class__"))) && (He.eqO (PySem.W.specialIn K (.builtin "object.__class__") "__get__") (some (some (.builtin "getset_descriptor.__get__"))) && (decide (PySem.W.takesIn K (.builtin "object.__class__") = some true) &&
  (decide (PySem.W.mroIn K C (.type "object") = some true) && (decide (PySem.W.kitOne K (.ref C) (.ref C) = some true) && decide (PySem.W.kitOne K (.ref C) (.type "str") = some false)))))
theorem insB_ok {K : PySem.W.Frag} {C : Addr} (h : insB K C = true) (cl : Cls K C) (nE : NoAttr K C "entries") (nN : NoAttr K C "_nexts") : TX K C := by
  obtain ⟨h1, h⟩ := He.ba h
  obtain ⟨h2, h⟩ := He.ba h
  obtain ⟨h3, h⟩ := He.ba h
  obtain ⟨h4, h⟩ := He.ba h
  obtain ⟨h5, h6⟩ := He.ba h
  exact ⟨⟨cl, He.eqO_ok h1, He.eqO_ok h2, of_decide_eq_true h3, of_decide_eq_true h4, of_decide_eq_true h5⟩, nE, nN, of_decide_eq_true h6⟩

/-! a def with defaults -/
def dD (x : Str) (i : Nat) (ds : List He.Dv) : He.DefD := ⟨(x, none), x, x, defArgs (top i), defBody (top i), defScope (top i), ds, []⟩
theorem mg_full {K : PySem.W.Frag} {f : Addr} {fd : FuncData} (F : FnMg K f fd) : Binds K fd ["worths", "ahead"] [] := by
  obtain ⟨ds, v, b⟩ := FunD.binds1 (ps := ["worths", "ahead"]) F 2 1 (by simp) rfl fun T kV doc pm an cdv ct us its hl hi => match us, hl, its, hi with | [_, _], _, [_], _ => ⟨_, rfl, rfl⟩
  cases v
  exact b
theorem mg_one {K : PySem.W.Frag} {f : Addr} {fd : FuncData} (F : FnMg K f fd) : ∃ ds, Vals [V.str ""] ds ∧ Binds K fd ["worths", "ahead"] ds :=
  FunD.binds1 (ps := ["worths", "ahead"]) F 1 0 (by simp) rfl fun T kV doc pm an cdv ct us its hl hi => match us, hl, its, hi with | [_], _, [_], _ => ⟨_, rfl, rfl⟩
end Wk


set_option Elab.async false
set_option linter.all false
set_option maxRecDepth 100000
set_option maxHeartbeats 0
namespace Wk
open PySem PySem.Spec PyProof.Rows L2 Evl
def fn : List He.DefD := ([dG "is_integer" 6, dG "is_between" 7, dG "is_row" 8, dG "is_tuple_of" 9, dG "is_router" 10, dG "is_range" 13, dG "is_address" 14, dG "addresses" 15, dG "beginnings" 16, dD "merged" 17 [.str ""], dG "refuse_wrong_entries" 23, dG "is_entry" 24, dG "is_end" 25, dG "parts" 26, dG "fewest" 28, dG "fewest_entries" 29, dG "_law_pool" 31, dG "_law_draw" 32, dG "_law_painted" 33, dG "_law_small_entries" 34, dG "_law_small_painted" 35, dG "_law_possible" 36, dG "_law_is_entry" 37, dG "law" 38, dM "Table" "__init__" "Table.__init__" 22 0, dM "Table" "__eq__" "Table.__eq__" 22 1, dM "Table" "onward" "Table.onward" 22 2] : List He.DefD)
def fa : List He.Fa := ([.glo "is_integer", .glo "is_between", .glo "is_row", .glo "is_tuple_of", .glo "is_router", .glo "is_range", .glo "is_address", .glo "addresses", .glo "beginnings", .glo "merged", .glo "refuse_wrong_entries", .glo "is_entry", .glo "is_end", .glo "parts", .glo "fewest", .glo "fewest_entries", .glo "_law_pool", .glo "_law_draw", .glo "_law_painted", .glo "_law_small_entries", .glo "_law_small_painted", .glo "_law_possible", .glo "_law_is_entry", .glo "law", .free "isinstance", .free "len", .free "tuple", .free "list", .free "int", .free "bool"] : List He.Fa) ++ ([.free "str", .free "all", .free "set", .free "enumerate", .free "range", .free "abs", .free "min", .free "repr", .free "sorted", .int "MOST_ROUTERS" 8, .int "ADDRESS_LENGTH" 10, .int "MOST_ENTRIES" 24, .glo "Table", .cls "Table", .mkr "Table", .meth "Table" "__eq__", .meth "Table" "onward", .noat "Table" "entries", .noat "Table" "_nexts", .str "HERE" "here", .str "DROP" "drop"] : List He.Fa)
def eb (K : PySem.W.Frag) : Bool := insB K (He.ga K "Table")
abbrev R : PySem.W.OpenRow := PySem.W.OpenLaw.row PySem.Challenge.rw_wishreels_k85_whole_fewest_entries_of_sm
def tf : List He.Defn := [("fewest_entries", none)]
abbrev hk : PySem.W.Hook := He.hookX 4 fa fn [] tf eb
def ob (s : PySem.W.SharedT) : He.AlX := He.obsX 4 fa fn [] tf eb (HandSHeadRun.getT s)
theorem ob_eq (s : PySem.W.SharedT) : ob s = hk.obs s.abs := He.obsX_eq (HandSHeadRun.getT_eq s)
def loose0 : List Str := ["__name__", "WishError", "BadTable", "BadAddress", "MOST_ROUTERS", "is_integer", "is_between", "is_row", "is_tuple_of", "is_router", "ADDRESS_LENGTH", "is_range", "is_address", "addresses", "beginnings", "merged", "MOST_ENTRIES", "HERE", "DROP", "Table", "refuse_wrong_entries", "is_entry", "is_end", "parts", "fewest", "fewest_entries", "_law_pool", "_law_draw", "_law_painted", "_law_small_entries"]
def loose1 : List Str := ["_law_small_painted", "_law_possible", "_law_is_entry"]
def loose : List Str := loose0 ++ loose1
theorem run (w : World) : HandSHeadRun.RunEq R (PySem.W.view R.prog [38]) hk ob 9000 loose w := by
  intro os
  kernel_rfl
end Wk

set_option Elab.async false
set_option linter.all false
set_option maxRecDepth 100000
set_option maxHeartbeats 4000000
namespace Wk
theorem Prt.map {α β : Type} [DecidableEq α] [DecidableEq β] {W : Nat → α} {g : α → β} (hg : ∀ a b, g a = g b → a = b) : ∀ {l : List (List Nat × α)} {p q : Nat}, Prt W p l q → Prt (fun i => g (W i)) p (l.map fun e => (e.1, g e.2)) q
  | [], _, _, .nil => .nil
  | _ :: _, _, _, .cons h1 h2 h3 h4 h5 t => by
    rw [List.map_cons]
    refine .cons h1 h2 h3 (fun i a b => congrArg g (h4 i a b)) (fun z => ?_) (t.map hg)
    obtain ⟨i, a, b, c⟩ := h5 z
    exact ⟨i, a, b, fun y => c (hg _ _ y)⟩
theorem Prt.bits {α : Type} {W : Nat → α} : ∀ {l : List (List Nat × α)} {p q : Nat}, Prt W p l q → ∀ e ∈ l, IsB e.1 ∧ e.1.length ≤ 10 ∧ p ≤ lo e.1 ∧ W (lo e.1) = e.2
  | [], _, _, _, e, he => by cases he
  | _ :: _, p, _, .cons (r := r) h1 h2 h3 h4 h5 t, e, he => by
    rcases List.mem_cons.mp he with z | z
    · rw [z]
      exact ⟨h1, h2, by rw [h3]; exact Nat.le_refl _, h4 _ (Nat.le_refl _) (lo_lt r)⟩
    · obtain ⟨a, b, c, d⟩ := t.bits e z
      have := lo_lt r
      exact ⟨a, b, by omega, d⟩
theorem Prt.nd {α : Type} {W : Nat → α} : ∀ {l : List (List Nat × α)} {p q : Nat}, Prt W p l q → (l.map (·.1)).Nodup
  | [], _, _, _ => List.nodup_nil
  | _ :: _, p, _, .cons (r := r) h1 h2 h3 h4 h5 t => by
    rw [List.map_cons, List.nodup_cons]
    refine ⟨fun hm => ?_, t.nd⟩
    obtain ⟨e, he, hr⟩ := List.mem_map.mp hm
    obtain ⟨_, _, h, _⟩ := t.bits e he
    have := lo_lt r
    have hr : e.1 = r := hr
    rw [hr] at h
    omega
/-! painting -/
section
variable {β : Type}
def hit (e : List Nat × β) (i : Nat) : Prop := lo e.1 ≤ i ∧ i < hi e.1
instance (e : List Nat × β) (i : Nat) : Decidable (hit e i) := inferInstanceAs (Decidable (_ ∧ _))
def pn1 (s : Nat) (F : Nat → β) (e : List Nat × β) : Nat → β := fun i => if e.1.length = s ∧ hit e i then e.2 else F i
def pnS (es : List (List Nat × β)) (F : Nat → β) (s : Nat) : Nat → β := es.foldl (pn1 s) F
def pnN (d : β) (es : List (List Nat × β)) : Nat → Nat → β
  | 0 => fun _ => d
  | n + 1 => pnS es (pnN d es n) n
def pnt (d : β) (es : List (List Nat × β)) : Nat → β := pnN d es 11
theorem pnS_at (s : Nat) (i : Nat) : ∀ (es : List (List Nat × β)) (F : Nat → β), (∃ e ∈ es, e.1.length = s ∧ hit e i ∧ es.foldl (pn1 s) F i = e.2) ∨ (es.foldl (pn1 s) F i = F i ∧ ∀ e ∈ es, e.1.length = s → ¬ hit e i)
  | [], F => .inr ⟨rfl, fun _ h => by cases h⟩
  | e :: es, F => by
    rw [List.foldl_cons]
    rcases pnS_at s i es (pn1 s F e) with ⟨e', h1, h2, h3, h4⟩ | ⟨h1, h2⟩
    · exact .inl ⟨e', List.mem_cons_of_mem _ h1, h2, h3, h4⟩
    · by_cases c : e.1.length = s ∧ hit e i
      · refine .inl ⟨e, List.mem_cons_self, c.1, c.2, ?_⟩
        rw [h1]
        exact if_pos c
      · refine .inr ⟨?_, fun e' he' => (List.mem_cons.mp he').elim (fun z => by rw [z]; exact fun a b => c ⟨a, b⟩) (h2 e')⟩
        rw [h1]
        exact if_neg c
theorem pnN_at (d : β) (es : List (List Nat × β)) (i : Nat) : ∀ s : Nat, (pnN d es s i = d ∧ ∀ e ∈ es, e.1.length < s → ¬ hit e i) ∨ ∃ e ∈ es, e.1.length < s ∧ hit e i ∧ pnN d es s i = e.2 ∧ ∀ e' ∈ es, e'.1.length < s → hit e' i → e'.1.length ≤ e.1.length
  | 0 => .inl ⟨rfl, fun e _ h => absurd h (Nat.not_lt_zero _)⟩
  | s + 1 => by
    have ih := pnN_at d es i s
    have st : pnN d es (s + 1) i = es.foldl (pn1 s) (pnN d es s) i := rfl
    rw [st]
    rcases pnS_at s i es (pnN d es s) with ⟨e, h1, h2, h3, h4⟩ | ⟨h1, h2⟩
    · exact .inr ⟨e, h1, by omega, h3, h4, fun e' _ h' _ => by omega⟩
    · rw [h1]
      rcases ih with ⟨i1, i2⟩ | ⟨e, i1, i2, i3, i4, i5⟩
      · refine .inl ⟨i1, fun e he hl => ?_⟩
        by_cases c : e.1.length = s
        · exact h2 e he c
        · exact i2 e he (by omega)
      · refine .inr ⟨e, i1, by omega, i3, i4, fun e' he hl hh => ?_⟩
        by_cases c : e'.1.length = s
        · exact absurd hh (h2 e' he c)
        · exact i5 e' he (by omega) hh
theorem pnt_at (d : β) {es : List (List Nat × β)} (h : ∀ e ∈ es, e.1.length ≤ 10) (i : Nat) : (pnt d es i = d ∧ ∀ e ∈ es, ¬ hit e i) ∨ ∃ e ∈ es, hit e i ∧ pnt d es i = e.2 ∧ ∀ e' ∈ es, hit e' i → e'.1.length ≤ e.1.length := by
  rcases pnN_at d es i 11 with ⟨h1, h2⟩ | ⟨e, h1, h2, h3, h4, h5⟩
  · exact .inl ⟨h1, fun e he => h2 e he (by have := h e he; omega)⟩
  · exact .inr ⟨e, h1, h3, h4, fun e' he => h5 e' he (by have := h e' he; omega)⟩
end
theorem Prt.congr {α : Type} {W U : Nat → α} (h : ∀ i, i < 1024 → W i = U i) : ∀ {l : List (List Nat × α)} {p q : Nat}, Prt W p l q → Prt U p l q
  | [], _, _, .nil => .nil
  | _ :: _, _, _, .cons (r := r) h1 h2 h3 h4 h5 t => by
    have hh := hi_le h1 h2
    refine .cons h1 h2 h3 (fun i a b => by rw [← h i (by omega)]; exact h4 i a b) (fun z => ?_) (t.congr h)
    obtain ⟨i, a, b, c⟩ := h5 z
    have h6 : IsB r.dropLast := fun c hc => h1 c (by rw [List.dropLast_eq_take] at hc; exact List.mem_of_mem_take hc)
    have h7 := hi_le h6 (by rw [List.length_dropLast]; omega)
    exact ⟨i, a, b, by rw [← h i (by omega)]; exact c⟩
/-- the wider range has the range -/
theorem wide_in {r : List Nat} (hB : IsB r) (hne : r ≠ []) (hl : r.length ≤ 10) : lo r.dropLast ≤ lo r ∧ hi r ≤ hi r.dropLast := by
  obtain ⟨s, c, rfl⟩ : ∃ s c, r = s ++ [c] := ⟨r.dropLast, r.getLast hne, (List.dropLast_concat_getLast hne).symm⟩
  rw [List.dropLast_concat]
  have hc := hB c (List.mem_append_right _ (List.mem_singleton.mpr rfl))
  rw [List.length_append, List.length_singleton] at hl
  unfold lo hi
  rw [vl_snoc, List.length_append, List.length_singleton]
  have e : 10 - s.length = (10 - (s.length + 1)) + 1 := by omega
  rw [e, Nat.pow_succ]
  generalize 2 ^ (10 - (s.length + 1)) = x
  have h1 : vl s * (x * 2) = (2 * vl s) * x := by rw [Nat.mul_comm x 2, ← Nat.mul_assoc, Nat.mul_comm (vl s) 2]
  have h2 : (vl s + 1) * (x * 2) = (2 * vl s + 2) * x := by rw [Nat.mul_comm x 2, ← Nat.mul_assoc]; congr 1; omega
  rw [h1, h2]
  exact ⟨Nat.mul_le_mul_right _ (by omega), Nat.mul_le_mul_right _ (by omega)⟩
theorem Prt.hits {α : Type} {W : Nat → α} : ∀ {l : List (List Nat × α)} {p q : Nat}, Prt W p l q → (∀ i, p ≤ i → i < q → ∃ e ∈ l, hit e i) ∧ ∀ e ∈ l, ∀ i, hit e i → W i = e.2
  | [], p, _, .nil => ⟨fun i h1 h2 => by omega, fun _ h => by cases h⟩
  | _ :: _, p, q, .cons (r := r) h1 h2 h3 h4 h5 t => by
    obtain ⟨a, b⟩ := t.hits
    refine ⟨fun i k1 k2 => ?_, fun e he i hh => ?_⟩
    · by_cases c : i < hi r
      · exact ⟨_, List.mem_cons_self, by rw [← h3] at k1; exact ⟨k1, c⟩⟩
      · obtain ⟨e, he, hh⟩ := a i (by omega) k2
        exact ⟨e, List.mem_cons_of_mem _ he, hh⟩
    · rcases List.mem_cons.mp he with z | z
      · rw [z] at hh ⊢
        exact h4 i hh.1 hh.2
      · exact b e z i hh
theorem Prt.pnt {β : Type} {W : Nat → β} {l : List (List Nat × β)} (d : β) (h : Prt W 0 l 1024) {i : Nat} (hi : i < 1024) : pnt d l i = W i := by
  obtain ⟨a, b⟩ := h.hits
  rcases pnt_at d (fun e he => (h.bits e he).2.1) i with ⟨h1, h2⟩ | ⟨e, h1, h2, h3, _⟩
  · obtain ⟨e, he, hh⟩ := a i (Nat.zero_le _) hi
    exact absurd hh (h2 e he)
  · rw [h3, b e h1 i h2]
open PySem PySem.Spec PyProof.Rows L2 Evl
/-- the painted way is that of the longest range that has the address -/
theorem pnt_law {es : List Row} {i : Nat} (h : ∀ e ∈ es, IsB e.1 ∧ e.1.length ≤ 10) (hi : i < 1024) : LawIs es (bN 10 i) (pnt (.str "drop") es i) := by
  have key : ∀ e ∈ es, (bN 10 i).take e.1.length = e.1 ↔ hit e i := fun e he => take_iff (h e he).1 (h e he).2 hi
  rcases pnt_at (V.str "drop") (fun e he => (h e he).2) i with ⟨h1, h2⟩ | ⟨e, h1, h2, h3, h4⟩
  · exact .inl ⟨h1, fun e he z => h2 e he ((key e he).mp z)⟩
  · exact .inr ⟨e, h1, (key e h1).mpr h2, h3, fun e' he z => h4 e' he ((key e' he).mp z)⟩
theorem pnt_way {es : List Row} {m i : Nat} {v : V} (hes : EsOk es m) (hi : i < 1024) (h : LongIs es (bN 10 i) v) : v = pnt (.str "drop") es i :=
  long_law hes.nd (bN_len 10 i) (fun e he => (hes.it e he).2.1) h (pnt_law (fun e he => ⟨(hes.it e he).1, (hes.it e he).2.1⟩) hi)
theorem pnt_nx {es : List Row} {m i : Nat} (hes : EsOk es m) (hi : i < 1024) : NxV (pnt (.str "drop") es i) := law_nx hes (pnt_law (fun e he => ⟨(hes.it e he).1, (hes.it e he).2.1⟩) hi)
/-! 1024 values -/
def fV (F : Nat → V) : List V := (List.range 1024).map F
theorem fV_len (F : Nat → V) : (fV F).length = 1024 := by unfold fV; rw [List.length_map, List.length_range]
theorem fV_at (F : Nat → V) (i : Nat) : (fV F)[i]? = if i < 1024 then some (F i) else none := by
  unfold fV
  rw [List.getElem?_map]
  by_cases h : i < 1024
  · rw [List.getElem?_range h, if_pos h]; rfl
  · rw [List.getElem?_eq_none (by rw [List.length_range]; omega), if_neg h]; rfl
theorem fV_put {F : Nat → V} {a c : Nat} {x : V} (hac : a ≤ c) (hc : c ≤ 1024) : (fV F).take a ++ List.replicate (c - a) x ++ (fV F).drop c = fV fun i => if a ≤ i ∧ i < c then x else F i := by
  apply List.ext_getElem?
  intro i
  have hl := fV_len F
  rw [fV_at]
  have lt : ((fV F).take a).length = a := by rw [List.length_take]; omega
  by_cases h1 : i < a
  · rw [List.append_assoc, List.getElem?_append_left (by omega), List.getElem?_take_of_lt h1, fV_at]
    rw [if_neg (show ¬ (a ≤ i ∧ i < c) by omega)]
  · by_cases h2 : i < c
    · rw [List.append_assoc, List.getElem?_append_right (by omega), lt, List.getElem?_append_left (by rw [List.length_replicate]; omega), List.getElem?_replicate, if_pos (by omega), if_pos (by omega), if_pos ⟨by omega, h2⟩]
    · rw [List.getElem?_append_right (by rw [List.length_append, lt, List.length_replicate]; omega), List.length_append, lt, List.length_replicate, List.getElem?_drop, fV_at]
      rw [show c + (i - (a + (c - a))) = i by omega, if_neg (show ¬ (a ≤ i ∧ i < c) by omega)]
theorem fV_const (x : V) : List.replicate 1024 x = fV fun _ => x := by
  apply List.ext_getElem?
  intro i
  rw [fV_at, List.getElem?_replicate]
theorem fV_congr {F G : Nat → V} (h : ∀ i, F i = G i) : fV F = fV G := by
  have : F = G := funext h
  rw [this]
end Wk

set_option Elab.async false
set_option linter.all false
set_option maxRecDepth 100000
set_option maxHeartbeats 4000000
namespace Wk
open PySem PySem.Spec PyProof.Rows L2 Evl
/-! int(bits, 2) -/
section
open PySem.NumText PySem.Calls
theorem bit_hex {l : List Nat} (h : IsB l) : ∀ c ∈ l, Hx.IsHex c := fun c hc => by
  unfold Hx.IsHex
  rcases h c hc with e | e <;> omega
theorem b2_step {ds : Array Nat} {b : Bool} {c : Nat} (h : c = 48 ∨ c = 49) : NumText.step 2 (ds, b) c = some (ds.push (c - 48), true) := by
  rcases h with rfl | rfl <;> rfl
theorem b2_fold : ∀ (l : List Nat) (ds : Array Nat), IsB l → l.foldlM (NumText.step 2) (ds, true) = some (l.foldl (fun a c => a.push (c - 48)) ds, true)
  | [], _, _ => rfl
  | c :: l, ds, h => by
    rw [List.foldlM_cons, b2_step (h c List.mem_cons_self)]
    exact b2_fold l _ fun x hx => h x (List.mem_cons_of_mem _ hx)
theorem b2_digits {l : List Nat} (h : IsB l) (hne : l ≠ []) : digits? 2 l = some (l.foldl (fun a c => a.push (c - 48)) #[]) := by
  cases l with
  | nil => exact absurd rfl hne
  | cons c l =>
    unfold digits?
    rw [List.foldlM_cons, b2_step (h c List.mem_cons_self)]
    show (l.foldlM (NumText.step 2) ((#[] : Array Nat).push (c - 48), true)).bind _ = _
    rw [b2_fold l _ fun x hx => h x (List.mem_cons_of_mem _ hx)]
    rfl
theorem b2_worth : ∀ (l : List Nat) (ds : Array Nat), (l.foldl (fun a c => a.push (c - 48)) ds).foldl (fun acc d => acc * 2 + d) 0 = l.foldl (fun a c => 2 * a + (c - 48)) (ds.foldl (fun acc d => acc * 2 + d) 0)
  | [], _ => rfl
  | c :: l, ds => by
    rw [List.foldl_cons, b2_worth l, List.foldl_cons]
    congr 1
    simp
    omega
theorem b2_based : ∀ {l : List Nat}, IsB l → based 2 l = (2, false, l)
  | [], _ => rfl
  | [c], h => by
    rcases h c List.mem_cons_self with rfl | rfl <;> rfl
  | c :: d :: l, h => by
    rcases h c List.mem_cons_self with rfl | rfl
    · rcases h d (List.mem_cons_of_mem _ List.mem_cons_self) with rfl | rfl <;> rfl
    · rfl
theorem b2_read {l : List Nat} (h : IsB l) (hne : l ≠ []) : (int_private% "readNumeral") 0 2 l = (int_private% "Numeral.value") ((vl l : Nat) : Int) := by
  have hx := bit_hex h
  have hr : ∀ c ∈ l.reverse, Hx.IsHex c := fun c hc => hx c (List.mem_reverse.mp hc)
  have hb := b2_based h
  refine (readNumeral_eq 0 2 l).trans ?_
  rw [Hx.dropB hx, Hx.signH hx]
  show judge 0 false (based 2 l).1 (based 2 l).2.1 (digits? (based 2 l).1 (((based 2 l).2.2.reverse.dropWhile blank).reverse)) = _
  rw [hb]
  show judge 0 false 2 false (digits? 2 ((l.reverse.dropWhile blank).reverse)) = _
  rw [Hx.dropB hr, List.reverse_reverse, b2_digits h hne]
  show (int_private% "Numeral.value") (((l.foldl (fun a c => a.push (c - 48)) (#[] : Array Nat)).foldl (fun acc d => acc * 2 + d) 0 : Nat) : Int) = _
  rw [b2_worth]
  rfl
theorem b2_gives {l : List Nat} {u t : Tok} (hl : l.length ≤ 640) (h : IsB l) (hne : l ≠ []) :
    Gives (Builtin.«int.__new__» ⟨[.type "int", .str (T l) u, .int 2 t], []⟩) (.int ((vl l : Nat) : Int)) :=
  .of_wp fun M A E s Q hQ => by
    obtain ⟨hp, g, d, tk, os⟩ := s
    have f1 := F.conv_sub_int
    have f2 := F.madeHere_int
    have f6 : typeOf (.str (T l) u) = pure (.type "str") := rfl
    obtain ⟨e1, e2⟩ := Hx.seen_hex (x := T l) (bit_hex h)
    have e2' : numSeenOf (T l) = l := e2
    have e1' : numTextOf (T l) = l := e1
    have hk : Hx.Hid ((numSeenOf (T l)).length ≤ 640 ∧ (int_private% "readNumeral") 0 2 (numSeenOf (T l)) = (int_private% "Numeral.value") ((vl l : Nat) : Int) ∧ ((numSeenOf (T l)).length == (numTextOf (T l)).length) = true) :=
      ⟨by rw [e2']; exact hl, by rw [e2']; exact b2_read h hne, by rw [e1', e2']; exact beq_self_eq_true _⟩
    clear e1 e2 e1' e2' hl hne h
    repeat (any_goals (first
      | assumption
      | ((with_reducible show wpAny _ _ ((int_private% "intFromText") _ _ _) _ _ _); refine Hx.wp_textB hk.out.1 hk.out.2.1 hk.out.2.2 ?_)
      | wp_step))
    all_goals first | exact ⟨_, rfl, hQ⟩ | skip
theorem b2_call {prog : Program} {w : World} {A : Around} {E : Value → Shared → Prop} {s : Shared} {Q : Value → Shared → Prop} {l : List Nat} {u t : Tok} (hl : l.length ≤ 640) (h : IsB l) (hne : l ≠ [])
    (hQ : Q (.int ((vl l : Nat) : Int) s.toks) { s with toks := s.toks + 1 }) : wpAny (model prog w) A (call (.type "int") [.str (T l) u, .int 2 t]) Q E s :=
  callType_new F.called_int F.newNe_int (Hx.typeCall_int_2 _ _) (Hx.newCall_int_2 _ _) (fun obj => F.initArgs_range_2 obj _ _) F.entry_int_new (b2_gives hl h hne).meets (show (Made.int ((vl l : Nat) : Int)).post _ s from ⟨rfl, hQ⟩)
end
def rInt2 : List V → Hp → VK → Prop := fun xs H Q => ∃ l : List Nat, xs = [.str (T l), .int 2] ∧ l ≠ [] ∧ l.length ≤ 640 ∧ IsB l ∧ Q (.int ((vl l : Nat) : Int)) H
theorem call_int2 {X : Cx} : CallR X (.type "int") rInt2 := by
  intro pins s σ H xs us Q I r h
  obtain ⟨l, rfl, hne, hl, hx, q⟩ := h
  obtain ⟨u, w', rfl, r1, r2⟩ := vals2 r
  obtain ⟨t1, rfl⟩ := r1
  obtain ⟨t2, rfl⟩ := r2
  exact b2_call hl hx hne ⟨.int ((vl l : Nat) : Int), H, I.tok _, ⟨_, rfl⟩, q⟩
/-! a sign times a number -/
def rMulS : R2 := fun x y H Q => ∃ c k : Nat, x = .str (T [c]) ∧ y = .int (k : Int) ∧ k ≤ 10 ∧ Q (.str (T (List.replicate k c))) H
theorem mul_T (c : Nat) : ∀ k : Nat, k ≤ 10 → Txt.mul (T [c]) (k : Int) = T (List.replicate k c)
  | 0, _ => rfl
  | 1, _ => rfl
  | 2, _ => rfl
  | 3, _ => rfl
  | 4, _ => rfl
  | 5, _ => rfl
  | 6, _ => rfl
  | 7, _ => rfl
  | 8, _ => rfl
  | 9, _ => rfl
  | 10, _ => rfl
  | k + 11, h => by omega
theorem mul_ok (c : Nat) : ∀ k : Nat, k ≤ 10 → MulOk (T [c]) (k : Int) := fun k hk => by
  have h1 : (T [c]).length = 1 := rfl
  have key : ∀ k : Nat, k ≤ 10 → ((decide ((k : Int) < -(2 ^ 63 : Int)) || decide ((k : Int) ≥ 2 ^ 63)) = false ∧ (¬ (k : Int) < 1 → ((k : Int) == 1 || (1 : Nat) == 0) = false → ¬ (((1 : Nat) : Int) > (2 ^ 63 - 1) / (k : Int))) ∧
    (¬ (k : Int) < 1 → ((k : Int) == 1 || (1 : Nat) == 0) = false → Builtin.Str.tooLong (1 * (k : Int).toNat) = false)) := by decide +kernel
  exact key k hk
theorem op_mulS {X : Cx} : OpR X (binaryOp .Mult) rMulS := by
  intro pins s σ H x y v u Q I rx ry h
  obtain ⟨c, k, rfl, rfl, hk, q⟩ := h
  obtain ⟨t, rfl⟩ := rx
  obtain ⟨t', rfl⟩ := ry
  refine PySem.SB.mul (mul_ok c k hk) fun t2 tk => ?_
  rw [mul_T c k hk]
  exact ⟨.str (T (List.replicate k c)), H, I.tok _, ⟨_, rfl⟩, q⟩
/-! xs[a:b] = ys, ys another list -/
def gSl (to tl th : TE) : TG := fun v σ H Q => to σ H fun o H1 => tl σ H1 fun i H2 => th σ H2 fun j H3 => ∃ (l b : Addr) (xs ys : List V) (a c : Int), o = .ref l ∧ i = .int a ∧ j = .int c ∧ v = .ref b ∧ H3 l = some (.lst xs) ∧ H3 b = some (.lst ys) ∧ l ≠ b ∧ 0 ≤ a ∧ a ≤ c ∧ c ≤ xs.length ∧ xs.length + ys.length ≤ sizeLine ∧
  Q σ (upd H3 l (.lst (xs.take a.toNat ++ ys ++ xs.drop c.toNat)))
theorem pg_slice {X : Cx} {o lo hi : Expr} {p2 pos : Pos} {to tl th : TE} (ho : PE X o to) (hl : PE X lo tl) (hh : PE X hi th)
    (ha : ∀ v, assign (.Subscript o (.Slice (some lo) (some hi) none p2) pos) X.env v = (do
      let ov ← holding [v] (eval o X.env)
      let iv ← holding [v, ov] (eval (.Slice (some lo) (some hi) none p2) X.env)
      standAt pos
      holding [v, ov, iv] (setItem ov iv v)
      release [iv, v, ov] []) := by intro _; rfl) : PG X (.Subscript o (.Slice (some lo) (some hi) none p2) pos) (gSl to tl th) := by
  refine ⟨fun pins s σ H v u Q I r h => ?_⟩
  rw [ha]
  refine wpAny_bind (wpAny_holding (thn (ho.run pins s σ H _ I h) fun ov s1 ⟨x, H1, I1, r1, q1⟩ => ?_))
  refine wpAny_bind (wpAny_holding ?_)
  refine wpAny_Slice (thn (hl.run pins s1 σ H1 _ I1 q1) fun vl s2 ⟨y, H2, I2, r2, q2⟩ => thn (hh.run pins s2 σ H2 _ I2 q2) fun vh s3 ⟨z, H3, I3, r3, q3⟩ => ?_)
  rw [evalPart_none]
  refine wpAny_pure ?_
  obtain ⟨l, b, xs, ys, a, c, rfl, rfl, rfl, rfl, hx, hy, hne, h0, hac, hc, hz, q⟩ := q3
  cases (show ov = Value.ref l from r1)
  cases (show u = Value.ref b from r)
  have I4 : Inv X pins σ H3 { s3 with heap := s3.heap.push { cls := .type "slice", data := .fields #[vl, vh, .none] } } := I3.kept (t' := s3.toks) fun b ob q => Heap.get?_push_of_some _ q
  refine wpAny_bind (wpAny_standAt (wpAny_bind (wpAny_holding ?_)))
  exact set_slice I4 hx hy hne (Heap.IsSliceOf.new ..) r2 r3 h0 hac hc hz fun s' I' => wpAny_release ⟨σ, _, I', q⟩
end Wk

set_option Elab.async false
set_option linter.all false
set_option maxRecDepth 100000
set_option maxHeartbeats 4000000
namespace Wk
open PySem PySem.Spec PyProof.Rows L2 Evl
theorem dbl (x y : Nat) : x * (y * 2) = 2 * (x * y) := by rw [← Nat.mul_assoc, Nat.mul_comm]
theorem vl_zeros (r : List Nat) : ∀ k : Nat, vl (r ++ List.replicate k 48) = vl r * 2 ^ k
  | 0 => by simp
  | k + 1 => by
    rw [List.replicate_succ', ← List.append_assoc, vl_snoc, vl_zeros r k, Nat.pow_succ, dbl]
    rfl
theorem vl_ones (r : List Nat) : ∀ k : Nat, vl (r ++ List.replicate k 49) + 1 = (vl r + 1) * 2 ^ k
  | 0 => by simp
  | k + 1 => by
    rw [List.replicate_succ', ← List.append_assoc, vl_snoc, Nat.pow_succ, dbl, ← vl_ones r k]
    omega
theorem lo_eq (r : List Nat) : vl (r ++ List.replicate (10 - r.length) 48) = lo r := vl_zeros r _
theorem hi_eq (r : List Nat) : vl (r ++ List.replicate (10 - r.length) 49) + 1 = hi r := vl_ones r _
theorem isB_rep {c : Nat} (hc : c = 48 ∨ c = 49) (k : Nat) : IsB (List.replicate k c) := fun x hx => by
  rw [(List.mem_replicate.mp hx).2]
  exact hc
theorem cut_nat (xs : List V) (a b : Nat) (hab : a ≤ b) (hb : b ≤ xs.length) : cutV xs (some (a : Int)) (some (b : Int)) = (xs.drop a).take (b - a) := by
  unfold cutV
  rw [HT.sIx_nat, HT.sIx_nat, Nat.min_eq_left hb, Nat.min_eq_left (Nat.le_trans hab hb)]
section
variable {σ : L2.St} {H : Hp} {tr : TE}
/-- int(r + '0' * (10 - len(r)), 2) -/
abbrev tEnd (tr : TE) (z : Str) : TE := tCB rInt2 (tCons (tOp rAddS tr (tOp rMulS (tC (.str z)) (tOp (rI0 fun i j => .int (i - j)) (tC (.int 10)) (tCB rLenStr (tCons tr tNil))))) (tCons (tC (.int 2)) tNil))
theorem ev_end {r : List Nat} {z : Str} {c : Nat} (hz : z = T [c]) (hc : c = 48 ∨ c = 49) (h : Ev tr σ H (.str (T r))) (hB : IsB r) (hl : r.length ≤ 10) : Ev (tEnd tr z) σ H (.int ((vl (r ++ List.replicate (10 - r.length) c) : Nat) : Int)) := by
  have hk : ((10 : Int) - (r.length : Int)) = ((10 - r.length : Nat) : Int) := by omega
  have e1 : Ev (tOp rMulS (tC (.str z)) (tOp (rI0 fun i j => .int (i - j)) (tC (.int 10)) (tCB rLenStr (tCons tr tNil)))) σ H (.str (T (List.replicate (10 - r.length) c))) := ev_op ev_c (ev_op (r := rI0 fun i j => .int (i - j)) ev_c (ev_lenS h (by omega)) rv_I0) fun H1 _ Q q => by
    subst hz
    exact ⟨c, 10 - r.length, rfl, by rw [hk], by omega, q H1 (Ex.refl _)⟩
  have e2 := ev_addS h e1 (by rw [List.length_replicate]; omega)
  intro H1 e Q q
  refine e2 H1 e _ fun H2 x2 => ⟨_, rfl, ?_, ?_, hB.app (isB_rep hc _), q H2 x2⟩
  · intro y
    have := congrArg List.length y
    rw [List.length_append, List.length_replicate, List.length_nil] at this
    omega
  · rw [List.length_append, List.length_replicate]
    omega
end
section
variable {P : Program} {w : World} {K : PySem.W.Frag} {mg : Str → Option Value} {base : Heap} {f : Addr} {fd : FuncData}
/-! _law_ends -/
def spEnds : Sp := fun vs H Q _ => ∃ r : List Nat, vs = [.str (T r)] ∧ IsB r ∧ r.length ≤ 10 ∧ ∀ H' D, H D = none → Ex H H' → H' D = some (.lst [.int (lo r : Nat), .int (hi r : Nat)]) → Q (.ref D) H'
end
end Wk

set_option Elab.async false
set_option linter.all false
set_option maxRecDepth 100000
set_option maxHeartbeats 4000000
namespace Wk
open PySem PySem.Spec PyProof.Rows L2 Evl
theorem ret_c1 {sp : Sp} {dvs : List V} {E : XK} {te : TE} {D : Ends} {σ : L2.St} {H : Hp} (h : te σ H fun x H1 => sp (x :: dvs) H1 D.rt E) : tRet (tCall sp dvs E (tCons te tNil)) D σ H := h
/-! ways as worths -/
abbrev NxS := { v : V // NxV v }
theorem nx_eqv {a b : V} (ha : NxV a) (hb : NxV b) : PyData.eqv (nxD a) (nxD b) = decide (a = b) := by
  have ss : ∀ x y : Str, PyData.eqv (.str x) (.str y) = decide (V.str x = V.str y) := fun x y => by
    rw [PyData.eqv]
    by_cases c : x = y
    · rw [c]; simp
    · rw [decide_eq_false (fun z => c (by injection z))]
      simpa using c
  have ii : ∀ i j : Int, PyData.eqv (.int i) (.int j) = decide (V.int i = V.int j) := fun i j => by
    rw [PyData.eqv]
    by_cases c : i = j
    · rw [c]; simp
    · rw [decide_eq_false (fun z => c (by injection z))]
      simpa using c
  have si : ∀ (x : Str) (j : Int), PyData.eqv (.str x) (.int j) = decide (V.str x = V.int j) := fun x j => by
    rw [PyData.eqv, decide_eq_false (fun z => by cases z)]
  have is : ∀ (i : Int) (y : Str), PyData.eqv (.int i) (.str y) = decide (V.int i = V.str y) := fun i y => by
    rw [PyData.eqv, decide_eq_false (fun z => by cases z)]
  rcases ha with rfl | rfl | ⟨i, _, rfl⟩ <;> rcases hb with rfl | rfl | ⟨j, _, rfl⟩
  · exact ss _ _
  · exact ss _ _
  · exact si _ _
  · exact ss _ _
  · exact ss _ _
  · exact si _ _
  · exact is _ _
  · exact is _ _
  · exact ii _ _
def WN (K : PySem.W.Frag) : Wth K NxS where
  R := fun _ v a => v = a.1
  dat := fun a => nxD a.1
  mono := fun _ h => h
  dp := fun {_ _ a} h => by rw [h]; exact Dq.dp (lay_nx a.2).1 (dq_nx a.2)
  pl := fun a => PyData.plain_of_canLay0 _ (lay_nx a.2).1
  dep := fun a => Nat.le_trans (lay_nx a.2).2 (by decide)
  eqv := fun a b => by
    rw [nx_eqv a.2 b.2]
    by_cases c : a = b
    · rw [c, decide_eq_true rfl, decide_eq_true rfl]
    · rw [decide_eq_false c, decide_eq_false fun z => c (Subtype.ext z)]
/-- the pairs of ranges and ways -/
def pls (W : Nat → V) (h : ∀ i, i < 1024 → NxV (W i)) : List Row := (mrg 10 ((List.range 1024).attach.map fun i => (⟨W i.1, h i.1 (List.mem_range.mp i.2)⟩ : NxS)) []).map fun e => (e.1, e.2.1)
theorem att_at {W : Nat → V} (h : ∀ i, i < 1024 → NxV (W i)) {i : Nat} (hi : i < 1024) : ((List.range 1024).attach.map fun i => (⟨W i.1, h i.1 (List.mem_range.mp i.2)⟩ : NxS))[i]? = some ⟨W i, h i hi⟩ := by
  rw [List.getElem?_map, List.getElem?_attach]
  simp [List.getElem?_range hi]
theorem pls_prt {W : Nat → V} (h : ∀ i, i < 1024 → NxV (W i)) : Prt W 0 (pls W h) 1024 := by
  have hd : NxV (.str "drop") := .inr (.inl rfl)
  have z := mrg_all (W := fun i => if c : i < 1024 then (⟨W i, h i c⟩ : NxS) else ⟨.str "drop", hd⟩) (ws := (List.range 1024).attach.map fun i => (⟨W i.1, h i.1 (List.mem_range.mp i.2)⟩ : NxS)) (by simp) (fun i hi => by rw [att_at h hi, dif_pos hi])
  have y := z.map (g := fun a : NxS => a.1) (fun a b e => Subtype.ext e)
  refine Prt.congr (fun i hi => ?_) y
  show (if c : i < 1024 then (⟨W i, h i c⟩ : NxS) else ⟨.str "drop", hd⟩).1 = W i
  rw [dif_pos hi]
theorem pls_len {W : Nat → V} (h : ∀ i, i < 1024 → NxV (W i)) : (pls W h).length ≤ 1024 := by
  unfold pls
  rw [List.length_map]
  exact mrg_len 10 _ _
theorem ra_wn {K : PySem.W.Frag} {H : Hp} : ∀ as : List NxS, RA ((WN K).R H) (as.map (·.1)) as
  | [] => .nil
  | a :: as => .cons rfl (ra_wn as)
theorem mr_est {K : PySem.W.Frag} {H : Hp} : ∀ {rs : List V} {l : List (List Nat × NxS)}, RA (MR1 (WN K) H) rs l → EsT H rs (l.map fun e => (e.1, e.2.1))
  | _, _, .nil => .nil
  | _, _, .cons h t => by
    obtain ⟨b, v, rfl, h2, h3⟩ := h
    have h3 : v = _ := h3
    subst h3
    exact .cons h2 (mr_est t)
section
variable {P : Program} {w : World} {K : PySem.W.Frag} {mg : Str → Option Value} {base : Heap} {f : Addr} {fd : FuncData} {CT : Addr}
structure MskO (P : Program) (w : World) (K : PySem.W.Frag) (mg : Str → Option Value) (base : Heap) (CS : Addr) (m : Str) (ps : List Str) (n : Nat) (sp : Sp) : Prop where
  ex : ∃ (fM : Addr) (fd : FuncData), Meth K CS m fM ∧ FnOk P w K mg base CX0 n fM fd ps sp ∧ Binds K fd ps []
/-- table.onward(address) -/
theorem ev_onw {σ : L2.St} {H : Hp} {ta tb : TE} {x : Addr} {es : List Row} {m i : Nat} (hx : Ev ta σ H (.ref x)) (hT : Tb CT H x es) (hes : EsOk es m) (hi : i < 1024) (hb : Ev tb σ H (.str (T (bN 10 i)))) : Ev (tMeth CT "onward" (spOnw0 CT) [] E0 ta (tCons tb tNil)) σ H (pnt (.str "drop") es i) := fun H1 e Q q =>
  hx H1 e _ fun H2 e2 => by
    obtain ⟨dx, fs, te, nd, us', es', h1, h2, h3, h4, h5⟩ := id hT
    exact ⟨x, dx, fs, rfl, (e.trans e2) _ _ h1, h4, hb H2 (e.trans e2) _ fun H3 e3 => ⟨x, bN 10 i, es, rfl, hT.mono ((e.trans e2).trans e3), by rw [bN_len]; decide, adr_yes (bN_isB 10 i) (bN_len 10 i), fun H4 z e4 hz => by
      rw [pnt_way hes hi hz]
      exact q H4 ((e2.trans e3).trans e4)⟩⟩
/-! parts -/
def spPar (CT : Addr) : Sp := fun vs H Q _ => ∃ (x : Addr) (es : List Row) (hes : EsOk es 24), vs = [.ref x] ∧ Tb CT H x es ∧ ∀ H' D rs, H D = none → Ex H H' → H' D = some (.lst rs) → EsT H' rs (pls (pnt (.str "drop") es) fun _ hi => pnt_nx hes hi) → Q (.ref D) H'
abbrev sPar : Stmt := top 26
abbrev nPar : List Str := ["table", "address"]
theorem scPar : FnScope nPar ["table"] (defScope sPar) := ⟨rfl, rfl, rfl, by decide +kernel, rfl, by decide +kernel, by decide +kernel⟩
theorem ok_par (X : TX K CT) (CM : CalD P w K mg base "merged" ["worths", "ahead"] [V.str ""] 12 (spM (WN K) 10)) (CA : Cal P w K mg base "addresses" [] 1 spAds) (MO : MskO P w K mg base CT "onward" ["self", "address"] 3 (spOnw0 CT)) (F : FnP K "parts" sPar f fd) : FnOk P w K mg base CX0 13 f fd ["table"] (spPar CT) := by
  obtain ⟨f2, fd2, me2, F2, b2⟩ := MO.ex
  refine F.ok scPar (fun vs H Q E h => ?_) (fun cdv A outer s H vs Q E hr h => ?_)
  · obtain ⟨x, es, hes, rfl, _⟩ := h
    rfl
  · obtain ⟨x, es, hes, rfl, hT, k⟩ := h
    have r3 : Room 3 _ := hr.mono (by decide)
    refine ⟨_, pss_one (ps_ret (pe_calD CM hr (by rfl) (pa_cons (pe_lc (own := [("address", 1)]) (g := gName 1) (tt := tYes) rfl scPar.nd (pi_list (pe_ads CA hr (by rfl))) (blkOk_by (N := nPar) (sc := defScope sPar) (by decide +kernel))
        (fun _ _ _ _ _ => pg_name (i := 1) scPar.nd rfl (.inl rfl)) (fun _ _ _ _ _ => pts_nil) (fun _ _ _ _ _ => pe_meth (pv 0) X.ic.cl me2 F2 r3 b2 .nil pass0 (pa_cons (pv 1) pa_nil))) pa_nil))), ?_⟩
    have lit : Str.ofString "" = T [] := by decide +kernel
    have z := el_lcNL (K := K) (xs := adV 10) (tl := tCall spAds [] E0 tNil) (t := tYes) (te := tMeth CT "onward" (spOnw0 CT) [] E0 (tVar 0) (tCons (tVar 1) tNil)) (j := 1) (vs := [1]) (σ := start nPar [V.ref x]) (H := H)
      (fun _ => true) (fun i => pnt (.str "drop") es i) (fun H2 e2 Q2 q2 => ⟨rfl, fun H3 D3 hD3 e3 h3 => q2 D3 H3 hD3 e3 h3⟩) (by rw [adV_len]; decide) (fun x => rfl) (fun i x H2 e2 hx => et_yes) (fun i y H2 e2 hx _ => by
        have hi : i < 1024 := by have := (List.getElem?_eq_some_iff.mp hx).1; rw [adV_len] at this; exact this
        have ex : y = .str (T (bN 10 i)) := by
          unfold adV at hx
          rw [List.getElem?_map, AD_at 10 i hi] at hx
          exact (Option.some.inj hx).symm
        subst ex
        exact ev_onw (ev_var rfl) (hT.mono e2) hes hi (ev_var rfl))
    rw [given_yesAll, adV_len] at z
    refine ret_c1 (z H (Ex.refl _) _ fun D H1 nD e1 hD => ?_)
    refine ⟨D, _, (List.range 1024).attach.map fun i => (⟨pnt (.str "drop") es i.1, pnt_nx hes (List.mem_range.mp i.2)⟩ : NxS), [], by rw [← lit], hD, ?_, by simp, by decide, fun H2 D2 rs n2 e2 h2 hrs => ?_⟩
    · have y := ra_wn (K := K) (H := H1) ((List.range 1024).attach.map fun i => (⟨pnt (.str "drop") es i.1, pnt_nx hes (List.mem_range.mp i.2)⟩ : NxS))
      rw [List.map_map] at y
      have e : (List.range 1024).attach.map ((fun a : NxS => a.1) ∘ fun i => (⟨pnt (.str "drop") es i.1, pnt_nx hes (List.mem_range.mp i.2)⟩ : NxS)) = (List.range (2 ^ 10)).map fun i => pnt (.str "drop") es i := by
        show (List.range 1024).attach.map (fun i => pnt (.str "drop") es i.1) = (List.range 1024).map _
        exact List.attach_map_val (f := fun i => pnt (.str "drop") es i)
      rw [e] at y
      exact y
    · exact k H2 D2 rs (fresh_back e1 n2) (e1.trans e2) h2 (mr_est hrs)
end
end Wk

set_option Elab.async false
set_option linter.all false
set_option maxRecDepth 100000
set_option maxHeartbeats 4000000
/-! the fewest entries, as mathematics (k85, k86): what a row of entries paints, read from the root downward; the least number of entries, level by level; no row of entries that paints the same has fewer -/
namespace Fw
variable {β : Type} [DecidableEq β]
/-- the way of an address (its bits behind b are a), where c is told from above -/
def pt (m : List Nat → Option β) : List Nat → List Nat → β → β
  | [], b, c => (m b).getD c
  | x :: a, b, c => pt m a (b ++ [x]) ((m b).getD c)
/-- how many entries stand at b and below it, n levels down -/
def cnt (m : List Nat → Option β) : Nat → List Nat → Nat
  | 0, b => if (m b).isSome then 1 else 0
  | n + 1, b => (if (m b).isSome then 1 else 0) + (cnt m n (b ++ [48]) + cnt m n (b ++ [49]))
/-- the first of the least -/
def bst (f : β → Nat) : β → List β → β
  | x, [] => x
  | x, y :: ys => if f y < f x then bst f y ys else bst f x ys
theorem bst_le (f : β → Nat) : ∀ (ys : List β) (x : β), f (bst f x ys) ≤ f x ∧ ∀ k ∈ ys, f (bst f x ys) ≤ f k
  | [], x => ⟨Nat.le_refl _, fun k h => by cases h⟩
  | y :: ys, x => by
    unfold bst
    by_cases h : f y < f x
    · rw [if_pos h]
      obtain ⟨h1, h2⟩ := bst_le f ys y
      refine ⟨by omega, fun k hk => ?_⟩
      rcases List.mem_cons.mp hk with z | z
      · rw [z]; exact h1
      · exact h2 k z
    · rw [if_neg h]
      obtain ⟨h1, h2⟩ := bst_le f ys x
      refine ⟨h1, fun k hk => ?_⟩
      rcases List.mem_cons.mp hk with z | z
      · rw [z]; omega
      · exact h2 k z
theorem bst_mem (f : β → Nat) : ∀ (ys : List β) (x : β), bst f x ys ∈ x :: ys
  | [], x => List.mem_cons_self
  | y :: ys, x => by
    unfold bst
    by_cases h : f y < f x
    · rw [if_pos h]
      exact List.mem_cons_of_mem _ (bst_mem f ys y)
    · rw [if_neg h]
      rcases List.mem_cons.mp (bst_mem f ys x) with z | z
      · rw [z]; exact List.mem_cons_self
      · exact List.mem_cons_of_mem _ (List.mem_cons_of_mem _ z)
theorem bst_congr {f g : β → Nat} (h : ∀ k, f k = g k) : ∀ (ys : List β) (x : β), bst f x ys = bst g x ys
  | [], x => rfl
  | y :: ys, x => by
    unfold bst
    rw [h y, h x, bst_congr h ys y, bst_congr h ys x]
section
variable (F : List Nat → β) (x0 : β) (xs : List β)
/-- the least number of entries at b and below, where c is told from above -/
def mn : Nat → List Nat → β → Nat
  | 0, b, c => if c = F b then 0 else 1
  | n + 1, b, c => min (mn n (b ++ [48]) c + mn n (b ++ [49]) c) (1 + (mn n (b ++ [48]) (bst (fun k => mn n (b ++ [48]) k + mn n (b ++ [49]) k) x0 xs) + mn n (b ++ [49]) (bst (fun k => mn n (b ++ [48]) k + mn n (b ++ [49]) k) x0 xs)))
def Bt (a : List Nat) : Prop := ∀ x ∈ a, x = 48 ∨ x = 49
/-- no row of entries paints the same with fewer -/
theorem low {m : List Nat → Option β} (hm : ∀ r k, m r = some k → k ∈ x0 :: xs) : ∀ (n : Nat) (b : List Nat) (c : β), (∀ a, Bt a → a.length = n → pt m a b c = F (b ++ a)) → mn F x0 xs n b c ≤ cnt m n b
  | 0, b, c, h => by
    have h0 := h [] (fun x hx => by cases hx) rfl
    rw [List.append_nil] at h0
    unfold pt at h0
    unfold mn cnt
    cases hq : m b with
    | none =>
      rw [hq] at h0
      have h0' : c = F b := h0
      rw [if_pos h0']
      exact Nat.zero_le _
    | some k =>
      simp only [Option.isSome_some, if_true]
      split <;> omega
  | n + 1, b, c, h => by
    have sub : ∀ x, x = 48 ∨ x = 49 → mn F x0 xs n (b ++ [x]) ((m b).getD c) ≤ cnt m n (b ++ [x]) := fun x hx => low hm n (b ++ [x]) _ fun a ha hl => by
      have z := h (x :: a) (fun y hy => by
        rcases List.mem_cons.mp hy with q | q
        · rw [q]; exact hx
        · exact ha y q) (by rw [List.length_cons, hl])
      unfold pt at z
      rw [z, List.append_assoc]
      rfl
    have s0 := sub 48 (.inl rfl)
    have s1 := sub 49 (.inr rfl)
    unfold mn cnt
    cases hq : m b with
    | none =>
      rw [hq] at s0 s1
      have s0' : mn F x0 xs n (b ++ [48]) c ≤ _ := s0
      have s1' : mn F x0 xs n (b ++ [49]) c ≤ _ := s1
      simp only [Option.isSome_none, Bool.false_eq_true, if_false]
      refine Nat.le_trans (Nat.min_le_left _ _) ?_
      omega
    | some k =>
      rw [hq] at s0 s1
      have s0' : mn F x0 xs n (b ++ [48]) k ≤ _ := s0
      have s1' : mn F x0 xs n (b ++ [49]) k ≤ _ := s1
      simp only [Option.isSome_some, if_true]
      refine Nat.le_trans (Nat.min_le_right _ _) ?_
      have hk := hm b k hq
      obtain ⟨g1, g2⟩ := bst_le (fun k => mn F x0 xs n (b ++ [48]) k + mn F x0 xs n (b ++ [49]) k) xs x0
      have : (fun k => mn F x0 xs n (b ++ [48]) k + mn F x0 xs n (b ++ [49]) k) (bst (fun k => mn F x0 xs n (b ++ [48]) k + mn F x0 xs n (b ++ [49]) k) x0 xs) ≤ mn F x0 xs n (b ++ [48]) k + mn F x0 xs n (b ++ [49]) k := by
        rcases List.mem_cons.mp hk with z | z
        · rw [z]; exact g1
        · exact g2 k z
      have this' : mn F x0 xs n (b ++ [48]) (bst (fun k => mn F x0 xs n (b ++ [48]) k + mn F x0 xs n (b ++ [49]) k) x0 xs) + mn F x0 xs n (b ++ [49]) (bst (fun k => mn F x0 xs n (b ++ [48]) k + mn F x0 xs n (b ++ [49]) k) x0 xs) ≤ mn F x0 xs n (b ++ [48]) k + mn F x0 xs n (b ++ [49]) k := this
      omega
/-- where all is alike one entry is enough -/
theorem mn_uni {v : β} (hv : v ∈ x0 :: xs) : ∀ (n : Nat) (b : List Nat) (c : β), (∀ a, Bt a → a.length = n → F (b ++ a) = v) → mn F x0 xs n b c = if c = v then 0 else 1
  | 0, b, c, h => by
    have h0 := h [] (fun x hx => by cases hx) rfl
    rw [List.append_nil] at h0
    unfold mn
    rw [h0]
  | n + 1, b, c, h => by
    have sub : ∀ x k, x = 48 ∨ x = 49 → mn F x0 xs n (b ++ [x]) k = if k = v then 0 else 1 := fun x k hx => mn_uni hv n (b ++ [x]) k fun a ha hl => by
      rw [List.append_assoc]
      exact h (x :: a) (fun y hy => by
        rcases List.mem_cons.mp hy with q | q
        · rw [q]; exact hx
        · exact ha y q) (by rw [List.length_cons, hl])
    unfold mn
    have e0 : ∀ k, mn F x0 xs n (b ++ [48]) k = if k = v then 0 else 1 := fun k => sub 48 k (.inl rfl)
    have e1 : ∀ k, mn F x0 xs n (b ++ [49]) k = if k = v then 0 else 1 := fun k => sub 49 k (.inr rfl)
    obtain ⟨g1, g2⟩ := bst_le (fun k => mn F x0 xs n (b ++ [48]) k + mn F x0 xs n (b ++ [49]) k) xs x0
    have hz : (fun k => mn F x0 xs n (b ++ [48]) k + mn F x0 xs n (b ++ [49]) k) (bst (fun k => mn F x0 xs n (b ++ [48]) k + mn F x0 xs n (b ++ [49]) k) x0 xs) ≤ mn F x0 xs n (b ++ [48]) v + mn F x0 xs n (b ++ [49]) v := by
      rcases List.mem_cons.mp hv with z | z
      · rw [z]; exact g1
      · exact g2 v z
    have hz' : mn F x0 xs n (b ++ [48]) (bst (fun k => mn F x0 xs n (b ++ [48]) k + mn F x0 xs n (b ++ [49]) k) x0 xs) + mn F x0 xs n (b ++ [49]) (bst (fun k => mn F x0 xs n (b ++ [48]) k + mn F x0 xs n (b ++ [49]) k) x0 xs) ≤ mn F x0 xs n (b ++ [48]) v + mn F x0 xs n (b ++ [49]) v := hz
    rw [e0 v, e1 v, if_pos rfl] at hz'
    rw [e0 c, e1 c]
    by_cases hc : c = v
    · rw [if_pos hc]; omega
    · rw [if_neg hc]; omega
end
section
variable (nx : List Nat → Option β) (x0 : β) (xs : List β)
/-- the entries at b and below, where c is told from above -/
def fwE : Nat → List Nat → β → List (List Nat × β)
  | 0, b, c => match nx b with
    | some v => if c = v then [] else [(b, v)]
    | none => []
  | n + 1, b, c => match nx b with
    | some v => if c = v then [] else [(b, v)]
    | none =>
      if ((b, bst (fun k => (fwE n (b ++ [48]) k ++ fwE n (b ++ [49]) k).length) x0 xs) :: (fwE n (b ++ [48]) (bst (fun k => (fwE n (b ++ [48]) k ++ fwE n (b ++ [49]) k).length) x0 xs) ++ fwE n (b ++ [49]) (bst (fun k => (fwE n (b ++ [48]) k ++ fwE n (b ++ [49]) k).length) x0 xs))).length < (fwE n (b ++ [48]) c ++ fwE n (b ++ [49]) c).length then
        (b, bst (fun k => (fwE n (b ++ [48]) k ++ fwE n (b ++ [49]) k).length) x0 xs) :: (fwE n (b ++ [48]) (bst (fun k => (fwE n (b ++ [48]) k ++ fwE n (b ++ [49]) k).length) x0 xs) ++ fwE n (b ++ [49]) (bst (fun k => (fwE n (b ++ [48]) k ++ fwE n (b ++ [49]) k).length) x0 xs))
      else fwE n (b ++ [48]) c ++ fwE n (b ++ [49]) c
/-- nx names the parts of F -/
def NxOk (F : List Nat → β) : Nat → List Nat → Prop
  | 0, b => nx b = some (F b) ∧ F b ∈ x0 :: xs
  | n + 1, b => (∃ v, nx b = some v ∧ v ∈ x0 :: xs ∧ ∀ a, Bt a → a.length = n + 1 → F (b ++ a) = v) ∨ (nx b = none ∧ NxOk F n (b ++ [48]) ∧ NxOk F n (b ++ [49]))
variable {nx x0 xs}
theorem fw_len {F : List Nat → β} : ∀ (n : Nat) (b : List Nat) (c : β), NxOk nx x0 xs F n b → (fwE nx x0 xs n b c).length = mn F x0 xs n b c
  | 0, b, c, h => by
    unfold fwE mn
    rw [h.1]
    dsimp only
    split <;> rfl
  | n + 1, b, c, h => by
    rcases h with ⟨v, h1, hv, h2⟩ | ⟨h1, h2, h3⟩
    · rw [mn_uni F x0 xs hv (n + 1) b c h2]
      unfold fwE
      rw [h1]
      dsimp only
      split <;> rfl
    · have e0 : ∀ k, (fwE nx x0 xs n (b ++ [48]) k).length = mn F x0 xs n (b ++ [48]) k := fun k => fw_len n _ k h2
      have e1 : ∀ k, (fwE nx x0 xs n (b ++ [49]) k).length = mn F x0 xs n (b ++ [49]) k := fun k => fw_len n _ k h3
      have eb : bst (fun k => (fwE nx x0 xs n (b ++ [48]) k ++ fwE nx x0 xs n (b ++ [49]) k).length) x0 xs = bst (fun k => mn F x0 xs n (b ++ [48]) k + mn F x0 xs n (b ++ [49]) k) x0 xs := bst_congr (fun k => by rw [List.length_append, e0, e1]) xs x0
      unfold fwE mn
      rw [h1]
      dsimp only
      rw [eb]
      generalize bst (fun k => mn F x0 xs n (b ++ [48]) k + mn F x0 xs n (b ++ [49]) k) x0 xs = q
      rw [List.length_cons, List.length_append, List.length_append, e0, e1, e0, e1]
      split
      · rw [List.length_cons, List.length_append, e0, e1]
        omega
      · rw [List.length_append, e0, e1]
        omega
end
end Fw

set_option Elab.async false
set_option linter.all false
set_option maxRecDepth 100000
set_option maxHeartbeats 4000000
namespace Fw
variable {β : Type} [DecidableEq β]
/-- the way that a row tells at some bits -/
def vE (es : List (List Nat × β)) (r : List Nat) : Option β := (es.find? fun e => decide (e.1 = r)).map (·.2)
theorem vE_app (l1 l2 : List (List Nat × β)) (r : List Nat) : vE (l1 ++ l2) r = (vE l1 r).or (vE l2 r) := by
  unfold vE
  rw [List.find?_append]
  cases l1.find? (fun e => decide (e.1 = r)) with
  | none => rfl
  | some x => rfl
theorem vE_cons (e : List Nat × β) (l : List (List Nat × β)) (r : List Nat) : vE (e :: l) r = if e.1 = r then some e.2 else vE l r := by
  unfold vE
  rw [List.find?_cons]
  by_cases h : e.1 = r
  · rw [decide_eq_true h, if_pos h]; rfl
  · rw [decide_eq_false h, if_neg h]
theorem vE_none {es : List (List Nat × β)} {r : List Nat} (h : ∀ e ∈ es, e.1 ≠ r) : vE es r = none := by
  unfold vE
  rw [List.find?_eq_none.mpr fun e he => by simpa using h e he]
  rfl
theorem vE_mem {es : List (List Nat × β)} {r : List Nat} {v : β} (h : vE es r = some v) : (r, v) ∈ es := by
  unfold vE at h
  cases hq : es.find? (fun e => decide (e.1 = r)) with
  | none => rw [hq] at h; cases h
  | some x =>
    rw [hq] at h
    have h1 : x.2 = v := Option.some.inj h
    have h2 : x.1 = r := by simpa using List.find?_some hq
    have h3 := List.mem_of_find?_eq_some hq
    rw [← h1, ← h2]
    exact h3
theorem vE_at {es : List (List Nat × β)} (nd : (es.map (·.1)).Nodup) {e : List Nat × β} (h : e ∈ es) : vE es e.1 = some e.2 := by
  induction es with
  | nil => cases h
  | cons x xs ih =>
    rw [List.map_cons, List.nodup_cons] at nd
    rw [vE_cons]
    rcases List.mem_cons.mp h with z | z
    · rw [z, if_pos rfl]
    · rw [if_neg fun c => nd.1 (by rw [c]; exact List.mem_map.mpr ⟨e, z, rfl⟩)]
      exact ih nd.2 z
/-- only what stands at b and below tells the way of an address behind b -/
theorem pt_ext {m m' : List Nat → Option β} : ∀ (a b : List Nat) (c : β), (∀ s, s <+: a → m (b ++ s) = m' (b ++ s)) → pt m a b c = pt m' a b c
  | [], b, c, h => by
    have h0 := h [] List.nil_prefix
    rw [List.append_nil] at h0
    unfold pt
    rw [h0]
  | x :: a, b, c, h => by
    have h0 := h [] List.nil_prefix
    rw [List.append_nil] at h0
    unfold pt
    rw [h0]
    exact pt_ext a _ _ fun s hs => by
      rw [List.append_assoc]
      exact h (x :: s) (List.cons_prefix_cons.mpr ⟨rfl, hs⟩)
/-- the longest that is told -/
theorem pt_at {m : List Nat → Option β} : ∀ (a b : List Nat) (c : β), (pt m a b c = c ∧ ∀ s, s <+: a → m (b ++ s) = none) ∨ ∃ s, s <+: a ∧ m (b ++ s) = some (pt m a b c) ∧ ∀ s', s' <+: a → (m (b ++ s')).isSome = true → s'.length ≤ s.length
  | [], b, c => by
    unfold pt
    cases hq : m b with
    | none =>
      refine .inl ⟨rfl, fun s hs => ?_⟩
      rw [List.prefix_nil.mp hs, List.append_nil]
      exact hq
    | some k =>
      refine .inr ⟨[], List.nil_prefix, by rw [List.append_nil]; exact hq, fun s' hs' _ => ?_⟩
      rw [List.prefix_nil.mp hs']
      exact Nat.le_refl _
  | x :: a, b, c => by
    unfold pt
    have as : ∀ s : List Nat, b ++ x :: s = (b ++ [x]) ++ s := fun s => by rw [List.append_assoc]; rfl
    rcases pt_at (m := m) a (b ++ [x]) ((m b).getD c) with ⟨h1, h2⟩ | ⟨s, h1, h2, h3⟩
    · cases hq : m b with
      | none =>
        rw [hq] at h1
        refine .inl ⟨h1, fun s hs => ?_⟩
        cases s with
        | nil => rw [List.append_nil]; exact hq
        | cons y s =>
          obtain ⟨rfl, hs'⟩ := List.cons_prefix_cons.mp hs
          rw [as]
          exact h2 s hs'
      | some k =>
        rw [hq] at h1
        refine .inr ⟨[], List.nil_prefix, by rw [List.append_nil, hq, h1]; rfl, fun s' hs' hi => ?_⟩
        cases s' with
        | nil => exact Nat.le_refl _
        | cons y s =>
          obtain ⟨rfl, hs''⟩ := List.cons_prefix_cons.mp hs'
          rw [as, h2 s hs''] at hi
          cases hi
    · refine .inr ⟨x :: s, List.cons_prefix_cons.mpr ⟨rfl, h1⟩, by rw [as]; exact h2, fun s' hs' hi => ?_⟩
      cases s' with
      | nil => exact Nat.zero_le _
      | cons y s2 =>
        obtain ⟨rfl, hs''⟩ := List.cons_prefix_cons.mp hs'
        rw [as] at hi
        have := h3 s2 hs'' hi
        rw [List.length_cons, List.length_cons]
        omega
/-- as many entries as are told -/
theorem cnt_le (es : List (List Nat × β)) : ∀ (n : Nat) (b : List Nat), cnt (vE es) n b ≤ es.countP fun e => decide (b <+: e.1)
  | 0, b => by
    unfold cnt
    cases hq : vE es b with
    | none => exact Nat.zero_le _
    | some v =>
      simp only [Option.isSome_some, if_true]
      exact List.countP_pos_iff.mpr ⟨_, vE_mem hq, by simp⟩
  | n + 1, b => by
    have h0 := cnt_le es n (b ++ [48])
    have h1 := cnt_le es n (b ++ [49])
    have key : es.countP (fun e => decide (e.1 = b)) + (es.countP (fun e => decide (b ++ [48] <+: e.1)) + es.countP (fun e => decide (b ++ [49] <+: e.1))) ≤ es.countP fun e => decide (b <+: e.1) := by
      clear h0 h1
      induction es with
      | nil => simp
      | cons e es ih =>
        rw [List.countP_cons, List.countP_cons, List.countP_cons, List.countP_cons]
        have n1 : ∀ x, b ++ [x] <+: e.1 → e.1 ≠ b := fun x h z => by
          rw [z] at h
          have := h.length_le
          rw [List.length_append] at this
          simp at this <;> omega
        have n2 : b ++ [48] <+: e.1 → ¬ b ++ [49] <+: e.1 := fun h k => by
          obtain ⟨s, hs⟩ := h
          obtain ⟨t, ht⟩ := k
          rw [← hs, List.append_assoc, List.append_assoc] at ht
          have := List.append_cancel_left ht
          cases this
        have n3 : ∀ x, b ++ [x] <+: e.1 → b <+: e.1 := fun x h => (List.prefix_append b [x]).trans h
        by_cases c0 : e.1 = b
        · have p : b <+: e.1 := by rw [c0]; exact List.prefix_refl _
          have q0 : ¬ b ++ [48] <+: e.1 := fun h => n1 48 h c0
          have q1 : ¬ b ++ [49] <+: e.1 := fun h => n1 49 h c0
          simp only [decide_eq_true c0, decide_eq_true p, decide_eq_false q0, decide_eq_false q1, if_true, Bool.false_eq_true, if_false]
          omega
        · by_cases c1 : b ++ [48] <+: e.1
          · have p := n3 48 c1
            have q1 := n2 c1
            simp only [decide_eq_false c0, decide_eq_true p, decide_eq_true c1, decide_eq_false q1, if_true, Bool.false_eq_true, if_false]
            omega
          · by_cases c2 : b ++ [49] <+: e.1
            · have p := n3 49 c2
              simp only [decide_eq_false c0, decide_eq_true p, decide_eq_false c1, decide_eq_true c2, if_true, Bool.false_eq_true, if_false]
              omega
            · simp only [decide_eq_false c0, decide_eq_false c1, decide_eq_false c2, Bool.false_eq_true, if_false]
              split <;> omega
    unfold cnt
    cases hq : vE es b with
    | none =>
      simp only [Option.isSome_none, Bool.false_eq_true, if_false]
      omega
    | some v =>
      have hp : 0 < es.countP (fun e => decide (e.1 = b)) := List.countP_pos_iff.mpr ⟨_, vE_mem hq, by simp⟩
      simp only [Option.isSome_some, if_true]
      omega
theorem cnt_len (es : List (List Nat × β)) (n : Nat) : cnt (vE es) n [] ≤ es.length := Nat.le_trans (cnt_le es n []) List.countP_le_length
section
variable {nx : List Nat → Option β} {x0 : β} {xs : List β}
/-- what the fewest entries are -/
theorem bt_nil : Bt [] := fun x hx => by cases hx
theorem fw_pre {F : List Nat → β} : ∀ (n : Nat) (b : List Nat) (c : β), NxOk nx x0 xs F n b → ∀ e ∈ fwE nx x0 xs n b c, (∃ s, e.1 = b ++ s ∧ Bt s ∧ s.length ≤ n) ∧ e.2 ∈ x0 :: xs
  | 0, b, c, h, e, he => by
    unfold fwE at he
    rw [h.1] at he
    dsimp only at he
    split at he
    · cases he
    · rw [List.mem_singleton.mp he]
      exact ⟨⟨[], by simp, bt_nil, Nat.le_refl _⟩, h.2⟩
  | n + 1, b, c, h, e, he => by
    have nil : ∃ s, b = b ++ s ∧ Bt s ∧ s.length ≤ n + 1 := ⟨[], by simp, bt_nil, Nat.zero_le _⟩
    rcases h with ⟨v, h1, hv, h2⟩ | ⟨h1, h2, h3⟩
    · unfold fwE at he
      rw [h1] at he
      dsimp only at he
      split at he
      · cases he
      · rw [List.mem_singleton.mp he]
        exact ⟨nil, hv⟩
    · have up : ∀ x, x = 48 ∨ x = 49 → ((∃ s, e.1 = (b ++ [x]) ++ s ∧ Bt s ∧ s.length ≤ n) ∧ e.2 ∈ x0 :: xs) → (∃ s, e.1 = b ++ s ∧ Bt s ∧ s.length ≤ n + 1) ∧ e.2 ∈ x0 :: xs := fun x hx ⟨⟨s, e1, e2, e3⟩, e4⟩ => ⟨⟨x :: s, by rw [e1, List.append_assoc]; rfl, fun y hy => by
          rcases List.mem_cons.mp hy with q | q
          · rw [q]; exact hx
          · exact e2 y q, by rw [List.length_cons]; omega⟩, e4⟩
      have both : ∀ k, e ∈ fwE nx x0 xs n (b ++ [48]) k ++ fwE nx x0 xs n (b ++ [49]) k → (∃ s, e.1 = b ++ s ∧ Bt s ∧ s.length ≤ n + 1) ∧ e.2 ∈ x0 :: xs := fun k hk => by
        rcases List.mem_append.mp hk with z | z
        · exact up 48 (.inl rfl) (fw_pre n _ k h2 e z)
        · exact up 49 (.inr rfl) (fw_pre n _ k h3 e z)
      unfold fwE at he
      rw [h1] at he
      dsimp only at he
      split at he
      · rcases List.mem_cons.mp he with z | z
        · rw [z]
          exact ⟨nil, bst_mem _ xs x0⟩
        · exact both _ z
      · exact both _ he
theorem vE_both {F : List Nat → β} {n : Nat} {b : List Nat} (h2 : NxOk nx x0 xs F n (b ++ [48])) (h3 : NxOk nx x0 xs F n (b ++ [49])) (k : β) : (∀ s, vE (fwE nx x0 xs n (b ++ [48]) k ++ fwE nx x0 xs n (b ++ [49]) k) ((b ++ [48]) ++ s) = vE (fwE nx x0 xs n (b ++ [48]) k) ((b ++ [48]) ++ s)) ∧
    (∀ s, vE (fwE nx x0 xs n (b ++ [48]) k ++ fwE nx x0 xs n (b ++ [49]) k) ((b ++ [49]) ++ s) = vE (fwE nx x0 xs n (b ++ [49]) k) ((b ++ [49]) ++ s)) ∧ vE (fwE nx x0 xs n (b ++ [48]) k ++ fwE nx x0 xs n (b ++ [49]) k) b = none := by
  have p0 := fw_pre n (b ++ [48]) k h2
  have p1 := fw_pre n (b ++ [49]) k h3
  refine ⟨fun s => ?_, fun s => ?_, ?_⟩
  · rw [vE_app, vE_none (es := fwE nx x0 xs n (b ++ [49]) k) fun e he z => ?_]
    · cases vE (fwE nx x0 xs n (b ++ [48]) k) ((b ++ [48]) ++ s) <;> rfl
    · obtain ⟨⟨t, e1, _⟩, _⟩ := p1 e he
      rw [e1, List.append_assoc, List.append_assoc] at z
      have := List.append_cancel_left z
      cases this
  · rw [vE_app, vE_none (es := fwE nx x0 xs n (b ++ [48]) k) fun e he z => ?_]
    · rfl
    · obtain ⟨⟨t, e1, _⟩, _⟩ := p0 e he
      rw [e1, List.append_assoc, List.append_assoc] at z
      have := List.append_cancel_left z
      cases this
  · refine vE_none fun e he z => ?_
    have : ∃ x t, e.1 = (b ++ [x]) ++ t := by
      rcases List.mem_append.mp he with q | q
      · obtain ⟨⟨t, e1, _⟩, _⟩ := p0 e q
        exact ⟨48, t, e1⟩
      · obtain ⟨⟨t, e1, _⟩, _⟩ := p1 e q
        exact ⟨49, t, e1⟩
    obtain ⟨x, t, e1⟩ := this
    rw [z] at e1
    have := congrArg List.length e1
    simp at this <;> omega
/-- they paint F -/
theorem fw_pt {F : List Nat → β} : ∀ (n : Nat) (b : List Nat) (c : β), NxOk nx x0 xs F n b → ∀ a, Bt a → a.length = n → pt (vE (fwE nx x0 xs n b c)) a b c = F (b ++ a)
  | 0, b, c, h, a, ha, hl => by
    cases a with
    | cons x a => cases hl
    | nil =>
      unfold fwE pt
      rw [h.1, List.append_nil]
      dsimp only
      split
      · rename_i z
        exact z
      · rw [vE_cons, if_pos rfl]
        rfl
  | n + 1, b, c, h, a, ha, hl => by
    rcases h with ⟨v, h1, hv, h2⟩ | ⟨h1, h2, h3⟩
    · rw [h2 a ha hl]
      unfold fwE
      rw [h1]
      dsimp only
      have nop : ∀ (a b' : List Nat) (c : β) (m : List Nat → Option β), (∀ s, m (b' ++ s) = none) → pt m a b' c = c := fun a => by
        induction a with
        | nil =>
          intro b' c m hm
          have := hm []
          rw [List.append_nil] at this
          unfold pt
          rw [this]
          rfl
        | cons x a ih =>
          intro b' c m hm
          have := hm []
          rw [List.append_nil] at this
          unfold pt
          rw [this]
          exact ih _ _ _ fun s => by rw [List.append_assoc]; exact hm _
      split
      · rename_i z
        rw [nop a b c _ fun s => rfl]
        exact z
      · cases a with
        | nil => cases hl
        | cons x a =>
          unfold pt
          rw [vE_cons, if_pos rfl]
          refine nop a _ _ _ fun s => ?_
          rw [vE_cons, if_neg fun z => ?_]
          · rfl
          · have z' : b = (b ++ [x]) ++ s := z
            have := congrArg List.length z'
            simp at this <;> omega
    · cases a with
      | nil => cases hl
      | cons x a =>
        have hl' : a.length = n := by rw [List.length_cons] at hl; omega
        have ha' : Bt a := fun y hy => ha y (List.mem_cons_of_mem _ hy)
        have hx := ha x List.mem_cons_self
        -- one of the halves
        have half : ∀ (k : β) (m : List Nat → Option β), (∀ s, m ((b ++ [x]) ++ s) = vE (fwE nx x0 xs n (b ++ [48]) k ++ fwE nx x0 xs n (b ++ [49]) k) ((b ++ [x]) ++ s)) → pt m a (b ++ [x]) k = F (b ++ x :: a) := fun k m hm => by
          obtain ⟨v0, v1, _⟩ := vE_both h2 h3 k
          rcases hx with rfl | rfl
          · rw [pt_ext (m' := vE (fwE nx x0 xs n (b ++ [48]) k)) a _ k fun s _ => (hm s).trans (v0 s), fw_pt n _ k h2 a ha' hl', List.append_assoc]
            rfl
          · rw [pt_ext (m' := vE (fwE nx x0 xs n (b ++ [49]) k)) a _ k fun s _ => (hm s).trans (v1 s), fw_pt n _ k h3 a ha' hl', List.append_assoc]
            rfl
        unfold fwE
        rw [h1]
        dsimp only
        generalize bst (fun k => (fwE nx x0 xs n (b ++ [48]) k ++ fwE nx x0 xs n (b ++ [49]) k).length) x0 xs = q
        split
        · unfold pt
          rw [vE_cons, if_pos rfl]
          refine half q _ fun s => ?_
          rw [vE_cons, if_neg fun z => ?_]
          have z' : b = (b ++ [x]) ++ s := z
          have := congrArg List.length z'
          simp at this <;> omega
        · unfold pt
          rw [(vE_both h2 h3 c).2.2]
          exact half c _ fun s => rfl
end
end Fw

set_option Elab.async false
set_option linter.all false
set_option maxRecDepth 100000
set_option maxHeartbeats 4000000
namespace Fw
variable {β : Type} [DecidableEq β]
theorem lt_app (b : List Nat) {x y : List Nat} (h : x < y) : b ++ x < b ++ y := by
  induction b with
  | nil => exact h
  | cons z b ih => exact List.cons_lt_cons_iff.mpr (.inr ⟨rfl, ih⟩)
theorem lt_ext (b : List Nat) (x : Nat) (s : List Nat) : b < (b ++ [x]) ++ s := by
  have h := lt_app b (x := []) (y := x :: s) (List.nil_lt_cons x s)
  rw [List.append_nil] at h
  rw [List.append_assoc]
  exact h
section
variable {nx : List Nat → Option β} {x0 : β} {xs : List β}
/-- in order -/
theorem fw_asc {F : List Nat → β} : ∀ (n : Nat) (b : List Nat) (c : β), NxOk nx x0 xs F n b → (fwE nx x0 xs n b c).Pairwise fun e e' => e.1 < e'.1
  | 0, b, c, h => by
    unfold fwE
    rw [h.1]
    dsimp only
    split
    · exact .nil
    · exact List.pairwise_singleton _ _
  | n + 1, b, c, h => by
    rcases h with ⟨v, h1, hv, h2⟩ | ⟨h1, h2, h3⟩
    · unfold fwE
      rw [h1]
      dsimp only
      split
      · exact .nil
      · exact List.pairwise_singleton _ _
    · have both : ∀ k, (fwE nx x0 xs n (b ++ [48]) k ++ fwE nx x0 xs n (b ++ [49]) k).Pairwise fun e e' => e.1 < e'.1 := fun k => by
        refine List.pairwise_append.mpr ⟨fw_asc n _ k h2, fw_asc n _ k h3, fun e he e' he' => ?_⟩
        obtain ⟨⟨s, e1, _⟩, _⟩ := fw_pre n _ k h2 e he
        obtain ⟨⟨t, e2, _⟩, _⟩ := fw_pre n _ k h3 e' he'
        rw [e1, e2, List.append_assoc, List.append_assoc]
        exact lt_app b (List.cons_lt_cons_iff.mpr (.inl (by decide)))
      have below : ∀ k, ∀ e ∈ fwE nx x0 xs n (b ++ [48]) k ++ fwE nx x0 xs n (b ++ [49]) k, b < e.1 := fun k e he => by
        rcases List.mem_append.mp he with q | q
        · obtain ⟨⟨t, e1, _⟩, _⟩ := fw_pre n _ k h2 e q
          rw [e1]
          exact lt_ext b 48 t
        · obtain ⟨⟨t, e1, _⟩, _⟩ := fw_pre n _ k h3 e q
          rw [e1]
          exact lt_ext b 49 t
      unfold fwE
      rw [h1]
      dsimp only
      split
      · exact List.pairwise_cons.mpr ⟨below _, both _⟩
      · exact both c
theorem fw_nd {F : List Nat → β} {n : Nat} {b : List Nat} {c : β} (h : NxOk nx x0 xs F n b) : ((fwE nx x0 xs n b c).map (·.1)).Nodup := by
  refine List.pairwise_map.mpr ((fw_asc n b c h).imp fun {e e'} hlt heq => ?_)
  have hlt' : e.1 < e'.1 := hlt
  rw [heq] at hlt'
  exact List.lt_irrefl _ hlt'
/-- no row that paints the same has fewer entries -/
theorem least {F : List Nat → β} {n : Nat} {d : β} (h : NxOk nx x0 xs F n []) {es : List (List Nat × β)} (hes : ∀ e ∈ es, e.2 ∈ x0 :: xs) (hp : ∀ a, Bt a → a.length = n → pt (vE es) a [] d = F a) : (fwE nx x0 xs n [] d).length ≤ es.length := by
  rw [fw_len n [] d h]
  refine Nat.le_trans (low F x0 xs (fun r k hk => hes _ (vE_mem hk)) n [] d fun a ha hl => ?_) (cnt_len es n)
  rw [hp a ha hl]
  rfl
/-- two tellings of the parts make as many -/
theorem same_len {nx' : List Nat → Option β} {F : List Nat → β} {n : Nat} {b : List Nat} {c : β} (h : NxOk nx x0 xs F n b) (h' : NxOk nx' x0 xs F n b) : (fwE nx x0 xs n b c).length = (fwE nx' x0 xs n b c).length := by rw [fw_len n b c h, fw_len n b c h']
end
section
variable {F G : List Nat → β} {x0 : β} {xs : List β}
/-- where F looks at the first bits only -/
theorem mn_cut {k : Nat} : ∀ (n : Nat) (b : List Nat) (c : β), (∀ a, Bt a → a.length = n → G (b ++ a) ∈ x0 :: xs ∧ ∀ s, Bt s → s.length = k → F ((b ++ a) ++ s) = G (b ++ a)) → mn F x0 xs (n + k) b c = mn G x0 xs n b c
  | 0, b, c, h => by
    obtain ⟨h1, h2⟩ := h [] bt_nil rfl
    rw [List.append_nil] at h1 h2
    rw [Nat.zero_add, mn_uni F x0 xs h1 k b c h2]
    rfl
  | n + 1, b, c, h => by
    have sub : ∀ x q, x = 48 ∨ x = 49 → mn F x0 xs (n + k) (b ++ [x]) q = mn G x0 xs n (b ++ [x]) q := fun x q hx => mn_cut n (b ++ [x]) q fun a ha hl => by
      have z := h (x :: a) (fun y hy => by
        rcases List.mem_cons.mp hy with w | w
        · rw [w]; exact hx
        · exact ha y w) (by rw [List.length_cons, hl])
      have e : b ++ x :: a = (b ++ [x]) ++ a := by rw [List.append_assoc]; rfl
      rw [e] at z
      exact z
    have e0 : ∀ q, mn F x0 xs (n + k) (b ++ [48]) q = mn G x0 xs n (b ++ [48]) q := fun q => sub 48 q (.inl rfl)
    have e1 : ∀ q, mn F x0 xs (n + k) (b ++ [49]) q = mn G x0 xs n (b ++ [49]) q := fun q => sub 49 q (.inr rfl)
    have eb : bst (fun q => mn F x0 xs (n + k) (b ++ [48]) q + mn F x0 xs (n + k) (b ++ [49]) q) x0 xs = bst (fun q => mn G x0 xs n (b ++ [48]) q + mn G x0 xs n (b ++ [49]) q) x0 xs := bst_congr (fun q => by rw [e0, e1]) xs x0
    rw [show n + 1 + k = (n + k) + 1 by omega]
    unfold mn
    rw [eb, e0, e1, e0, e1]
/-- over few bits: no row over these bits that paints the same has fewer entries -/
theorem least_cut {nx : List Nat → Option β} {n k : Nat} {d : β} (h : NxOk nx x0 xs F (n + k) []) (hc : ∀ a, Bt a → a.length = n → G a ∈ x0 :: xs ∧ ∀ s, Bt s → s.length = k → F (a ++ s) = G a) {es : List (List Nat × β)} (hes : ∀ e ∈ es, e.2 ∈ x0 :: xs) (hp : ∀ a, Bt a → a.length = n → pt (vE es) a [] d = G a) : (fwE nx x0 xs (n + k) [] d).length ≤ es.length := by
  rw [fw_len (n + k) [] d h, mn_cut n [] d fun a ha hl => hc a ha hl]
  refine Nat.le_trans (low G x0 xs (fun r q hq => hes _ (vE_mem hq)) n [] d fun a ha hl => ?_) (cnt_len es n)
  rw [hp a ha hl]
  rfl
end
end Fw

set_option Elab.async false
set_option linter.all false
set_option maxRecDepth 100000
set_option maxHeartbeats 4000000
namespace Wk
/-! what a row paints, read by places and read from the root -/
section
variable {β : Type} [DecidableEq β]
/-- a row of different ranges paints a place as it tells the way of the place's address -/
theorem pnt_pt (d : β) {es : List (List Nat × β)} (nd : (es.map (·.1)).Nodup) (hb : ∀ e ∈ es, IsB e.1 ∧ e.1.length ≤ 10) {i : Nat} (hi : i < 1024) : pnt d es i = Fw.pt (Fw.vE es) (bN 10 i) [] d := by
  have hit_iff : ∀ e ∈ es, (hit e i ↔ e.1 <+: bN 10 i) := fun e he => by
    obtain ⟨h1, h2⟩ := hb e he
    have z := take_iff h1 h2 hi
    unfold hit
    rw [← z]
    constructor
    · intro h
      rw [← h]
      exact List.take_prefix _ _
    · intro h
      exact (List.prefix_iff_eq_take.mp h).symm
  rcases pnt_at d (fun e he => (hb e he).2) i with ⟨h1, h2⟩ | ⟨e, he, h3, h4, h5⟩
  · rcases Fw.pt_at (m := Fw.vE es) (bN 10 i) [] d with ⟨g1, g2⟩ | ⟨s, g1, g2, g3⟩
    · rw [h1, g1]
    · have hm := Fw.vE_mem g2
      exact absurd ((hit_iff _ hm).mpr g1) (h2 _ hm)
  · have hp := (hit_iff e he).mp h3
    have hv := Fw.vE_at nd he
    rcases Fw.pt_at (m := Fw.vE es) (bN 10 i) [] d with ⟨g1, g2⟩ | ⟨s, g1, g2, g3⟩
    · have := g2 e.1 hp
      rw [List.nil_append, hv] at this
      cases this
    · have hm := Fw.vE_mem g2
      have l1 := g3 e.1 hp (by rw [List.nil_append, hv]; rfl)
      have l2 := h5 _ hm ((hit_iff _ hm).mpr g1)
      have hs : s = e.1 := by
        have l2' : s.length ≤ e.1.length := l2
        rw [List.prefix_iff_eq_take.mp g1, List.prefix_iff_eq_take.mp hp, show s.length = e.1.length by omega]
      rw [List.nil_append, hs, hv] at g2
      rw [h4]
      exact Option.some.inj g2
end
end Wk

set_option Elab.async false
set_option linter.all false
set_option maxRecDepth 100000
set_option maxHeartbeats 4000000
namespace Wk
section
variable {β : Type} [DecidableEq β]
theorem isB_bt {a : List Nat} : IsB a ↔ Fw.Bt a := Iff.rfl
/-- the parts of all addresses, taken as a dict, name the parts of what is painted -/
theorem nxOk_prt {W : Nat → β} {L : List (List Nat × β)} {x0 : β} {xs : List β} (h : Prt W 0 L 1024) (hc : ∀ i, i < 1024 → W i ∈ x0 :: xs) : ∀ (n : Nat) (b : List Nat), IsB b → b.length + n = 10 → (∀ r, r <+: b → r ≠ b → Fw.vE L r = none) → Fw.NxOk (Fw.vE L) x0 xs (fun a => W (vl a)) n b
  | 0, b, hb, hl, ha => by
    have hv : vl b < 1024 := by
      have z := vl_lt b hb
      rw [show b.length = 10 by omega] at z
      exact z
    have eb : bN 10 (vl b) = b := by
      have z := bN_vl b hb
      rw [show b.length = 10 by omega] at z
      exact z
    obtain ⟨e, he, hh⟩ := h.hits.1 (vl b) (Nat.zero_le _) hv
    obtain ⟨e1, e2, _, _⟩ := h.bits e he
    have hp : e.1 <+: b := by
      have z := (take_iff e1 e2 hv).mpr hh
      rw [eb] at z
      rw [← z]
      exact List.take_prefix _ _
    have hve := Fw.vE_at h.nd he
    have hw := h.hits.2 e he (vl b) hh
    by_cases c : e.1 = b
    · rw [c] at hve
      refine ⟨?_, hc _ hv⟩
      rw [hve]
      show some e.2 = some (W (vl b))
      rw [hw]
    · rw [ha e.1 hp c] at hve
      cases hve
  | n + 1, b, hb, hl, ha => by
    cases hq : Fw.vE L b with
    | some v =>
      have hm := Fw.vE_mem hq
      have bl : ∀ a, Fw.Bt a → a.length = n + 1 → vl (b ++ a) < 1024 ∧ W (vl (b ++ a)) = v := fun a hba hla => by
        have hB : IsB (b ++ a) := hb.app hba
        have hlen : (b ++ a).length = 10 := by rw [List.length_append]; omega
        have hv : vl (b ++ a) < 1024 := by
          have z := vl_lt (b ++ a) hB
          rw [hlen] at z
          exact z
        have eb : bN 10 (vl (b ++ a)) = b ++ a := by
          have z := bN_vl (b ++ a) hB
          rw [hlen] at z
          exact z
        refine ⟨hv, h.hits.2 (b, v) hm _ ((take_iff hb (by omega) hv).mp ?_)⟩
        rw [eb, List.take_left]
      refine .inl ⟨v, hq, ?_, fun a hba hla => (bl a hba hla).2⟩
      obtain ⟨z1, z2⟩ := bl (List.replicate (n + 1) 48) (fun x hx => .inl (List.eq_of_mem_replicate hx)) (List.length_replicate ..)
      rw [← z2]
      exact hc _ z1
    | none =>
      have sub : ∀ x, x = 48 ∨ x = 49 → Fw.NxOk (Fw.vE L) x0 xs (fun a => W (vl a)) n (b ++ [x]) := fun x hx => nxOk_prt h hc n (b ++ [x]) (hb.app fun c hcm => by rw [List.mem_singleton.mp hcm]; exact hx) (by rw [List.length_append]; show b.length + 1 + n = 10; omega) fun r hr hne => by
        rcases List.prefix_concat_iff.mp hr with z | z
        · exact absurd z hne
        · by_cases c : r = b
          · rw [c]; exact hq
          · exact ha r z c
      exact .inr ⟨hq, sub 48 (.inl rfl), sub 49 (.inr rfl)⟩
end
end Wk

set_option Elab.async false
set_option linter.all false
set_option maxRecDepth 100000
set_option maxHeartbeats 4000000
namespace Wk
open PySem PySem.Spec PyProof.Rows L2 Evl
theorem s_forRow {K : PySem.W.Frag} {tl : TE} {g : TG} {tu : TS} {D : Ends} {σ : L2.St} {H : Hp} {a : Addr} {xs : List V} (h : Ev tl σ H (.ref a)) (hx : H a = some (.lst xs) ∨ H a = some (.tup xs)) (Pv : Nat → L2.St → Hp → Prop) (h0 : ∀ H1, Ex H H1 → Pv 0 σ H1) (hl : ∀ i σ' H', i ≤ xs.length → Pv i σ' H' → ∀ o, H a = some o → H' a = some o)
    (hs : ∀ i x σ' H', xs[i]? = some x → Pv i σ' H' → g x σ' H' fun σ2 H2 => tu { D with nx := Pv (i + 1), ct := Pv (i + 1), bk := D.nx } σ2 H2) (hd : ∀ σ' H', Pv xs.length σ' H' → D.nx σ' H') : tFor (iRowK K tl) g tu D σ H :=
  h H (Ex.refl H) _ fun H1 e => by
    rcases hx with hx | hx
    · obtain ⟨a', ea, hq, r⟩ := (s_forL (K := K) (tl := tC (.ref a)) ev_c (sq_of (e _ _ hx)) Pv (fun H2 e2 => h0 H2 (e.trans e2)) (fun i σ' H' hi hp => sq_of (hl i σ' H' hi hp _ hx)) hs hd : tFor (iList K (tC (.ref a))) g tu D σ H1)
      cases ea
      exact ⟨a, rfl, .inl ⟨hq, r⟩⟩
    · obtain ⟨a', ea, hq, r⟩ := (s_forT (K := K) (tl := tC (.ref a)) ev_c (st_of (e _ _ hx)) Pv (fun H2 e2 => h0 H2 (e.trans e2)) (fun i σ' H' hi hp => st_of (hl i σ' H' hi hp _ hx)) hs hd : tFor (iTup K (tC (.ref a))) g tu D σ H1)
      cases ea
      exact ⟨a, rfl, .inr ⟨hq, r⟩⟩
section
variable {σ : L2.St} {H : Hp} {tr tk : TE}
/-- int(r + '0' * k, 2) -/
theorem ev_endK {r : List Nat} {z : Str} {c k : Nat} (hz : z = T [c]) (hc : c = 48 ∨ c = 49) (h : Ev tr σ H (.str (T r))) (hk : Ev tk σ H (.int (k : Int))) (hB : IsB r) (hl : r.length + k = 10) :
    Ev (tCB rInt2 (tCons (tOp rAddS tr (tOp rMulS (tC (.str z)) tk)) (tCons (tC (.int 2)) tNil))) σ H (.int ((vl (r ++ List.replicate k c) : Nat) : Int)) := by
  have e1 : Ev (tOp rMulS (tC (.str z)) tk) σ H (.str (T (List.replicate k c))) := ev_op ev_c hk fun H1 _ Q q => by
    subst hz
    exact ⟨c, k, rfl, rfl, by omega, q H1 (Ex.refl _)⟩
  have e2 := ev_addS h e1 (by rw [List.length_replicate]; omega)
  intro H1 e Q q
  refine e2 H1 e _ fun H2 x2 => ⟨_, rfl, ?_, ?_, hB.app (isB_rep hc _), q H2 x2⟩
  · intro y
    have := congrArg List.length y
    rw [List.length_append, List.length_replicate, List.length_nil] at this
    omega
  · rw [List.length_append, List.length_replicate]
    omega
end
theorem rep_flat (x : V) (n : Nat) : (List.replicate n [x]).flatten = List.replicate n x := by
  induction n with
  | zero => rfl
  | succ n ih => rw [List.replicate_succ, List.flatten_cons, ih, List.replicate_succ]; rfl
section
variable {P : Program} {w : World} {K : PySem.W.Frag} {mg : Str → Option Value} {base : Heap} {f : Addr} {fd : FuncData}
/-! _law_painted -/
def spPnt : Sp := fun vs H Q _ => ∃ (a : Addr) (us : List V) (es : List Row) (m : Nat), vs = [.ref a] ∧ (H a = some (.lst us) ∨ H a = some (.tup us)) ∧ EsT H us es ∧ EsOk es m ∧ m ≤ 100 ∧ ∀ H' D, H D = none → Ex H H' → H' D = some (.lst (fV (pnt (.str "drop") es))) → Q (.ref D) H'
abbrev sPnt : Stmt := top 33
abbrev nPnt : List Str := ["_law_entries", "_law_painted_here", "_law_size", "_law_bits", "_law_there", "_law_first", "_law_last"]
theorem scPnt : FnScope nPnt ["_law_entries"] (defScope sPnt) := ⟨rfl, rfl, rfl, by decide +kernel, rfl, by decide +kernel, by decide +kernel⟩
theorem ok_pnt (B : Bl mg) (F : FnP K "_law_painted" sPnt f fd) : FnOk P w K mg base CX0 1 f fd ["_law_entries"] spPnt := by
  refine F.ok scPnt (fun vs H Q E h => ?_) (fun cdv A outer s H vs Q E hr h => ?_)
  · obtain ⟨a, us, es, m, rfl, _⟩ := h
    rfl
  · obtain ⟨a, us, es, m, rfl, ha, hus, hes, hm, k⟩ := h
    refine ⟨_, pss_cons (ps_set (i := 1) scPnt.nd rfl (Or.inl rfl) (pe_op op_rep (pe_lst (pa_cons pe_str pa_nil)) pe_int))
      (pss_cons (ps_for (passes_of rfl) rfl (pi_range1 (by rfl) B.range (pa_cons pe_int pa_nil)) (pg_name (i := 2) scPnt.nd rfl (.inl rfl))
        (pss_one (ps_for (passes_of rfl) rfl (pi_rowK (K := K) rfl (pv 0)) (pg_tup rfl (pgs_cons (pg_name (i := 3) scPnt.nd rfl (.inl rfl)) (pgs_cons (pg_name (i := 4) scPnt.nd rfl (.inl rfl)) pgs_nil)))
          (pss_one (ps_if (pt_cmpR op_eq (pe_callB call_len_str (by rfl) B.len PySem.boot_len (pa_cons (pv 3) pa_nil)) (pv 2) (nomark _))
            (pss_cons (ps_set (i := 5) scPnt.nd rfl (Or.inl rfl) (pe_callTy call_int2 (by rfl) B.int PyProof.Rows.boot_int (pa_cons (pe_op op_add_str (pv 3) (pe_op op_mulS pe_str (pe_op op_sub pe_int (pv 2)))) (pa_cons pe_int pa_nil))))
            (pss_cons (ps_set (i := 6) scPnt.nd rfl (Or.inl rfl) (pe_op op_add (pe_callTy call_int2 (by rfl) B.int PyProof.Rows.boot_int (pa_cons (pe_op op_add_str (pv 3) (pe_op op_mulS pe_str (pe_op op_sub pe_int (pv 2)))) (pa_cons pe_int pa_nil))) pe_int))
            (pss_one (ps_asg (pe_op op_rep (pe_lst (pa_cons (pv 4) pa_nil)) (pe_op op_sub (pv 6) (pv 5))) (pg_slice (pv 1) (pv 5) (pv 6)))))) pss_nil)))))
      (pss_one (ps_ret (pv 1)))), ?_⟩
    have lit : (Str.ofString "0" = T [48]) ∧ (Str.ofString "1" = T [49]) := by decide +kernel
    have hul := hus.length
    have hel := hes.len
    refine q_asgW ?_
    refine ⟨by show 1 ≤ sizeLine; decide, fun p0 hp0 => ?_⟩
    have e0 := Ex.new (o := .lst [V.str "drop"]) hp0
    have h0 : (upd H p0 (.lst [V.str "drop"])) p0 = some (.lst [V.str "drop"]) := upd_same
    generalize upd H p0 (.lst [V.str "drop"]) = H0 at *
    refine ⟨p0, 1024, [V.str "drop"], rfl, rfl, h0, by decide, by decide, by show 1 * 1024 ≤ sizeLine; decide, fun D hD => ?_⟩
    rw [rep_flat, show (1024 : Int).toNat = 1024 from rfl, fV_const]
    have e1 := Ex.new (o := .lst (fV fun _ => V.str "drop")) hD
    have h1 : (upd H0 D (.lst (fV fun _ => V.str "drop"))) D = some (.lst (fV fun _ => V.str "drop")) := upd_same
    generalize upd H0 D (.lst (fV fun _ => V.str "drop")) = H1 at *
    have e01 := e0.trans e1
    have nHD := fresh_back e0 hD
    change tSeq (tFor _ _ _) _ _ [some (.ref a), some (.ref D), none, none, none, none, none] H1
    refine q_forR1 (n := 11) (ea_cons ev_c ea_nil) (by omega) (fun n σ' H' => ∃ o2 o3 o4 o5 o6, σ' = [some (.ref a), some (.ref D), o2, o3, o4, o5, o6] ∧ Ex H H' ∧ H' D = some (.lst (fV (pnN (.str "drop") es n)))) (fun H2 e2 => ⟨_, _, _, _, _, rfl, e01.trans e2, e2 _ _ h1⟩) (fun n σ' H' hn hp => ?_) (fun σ' H' hp => ?_)
    · obtain ⟨o2, o3, o4, o5, o6, rfl, e2, hD2⟩ := hp
      have hn11 : n < 11 := by omega
      change tFor _ _ _ _ [some (.ref a), some (.ref D), some (.int (n : Int)), o3, o4, o5, o6] H'
      refine s_forRow (K := K) (a := a) (xs := us) (ev_var rfl) (ha.imp (e2 _ _) (e2 _ _)) (fun j σ2 H2 => ∃ o3 o4 o5 o6, σ2 = [some (.ref a), some (.ref D), some (.int (n : Int)), o3, o4, o5, o6] ∧ Ex H H2 ∧ H2 D = some (.lst (fV ((es.take j).foldl (pn1 n) (pnN (.str "drop") es n))))) (fun H2 e3 => ⟨_, _, _, _, rfl, e2.trans e3, by rw [List.take_zero]; exact e3 _ _ hD2⟩) (fun j σ2 H2 _ hp o ho => ?_) (fun j x σ2 H2 hx hp => ?_) (fun σ2 H2 hp => ?_)
      · obtain ⟨_, _, _, _, _, e3, _⟩ := hp
        have hz : H' a = some o := ho
        rcases ha with ha | ha
        · rw [e2 _ _ ha] at hz
          cases hz
          exact e3 _ _ ha
        · rw [e2 _ _ ha] at hz
          cases hz
          exact e3 _ _ ha
      · obtain ⟨o3, o4, o5, o6, rfl, e3, hD3⟩ := hp
        obtain ⟨b, e, rfl, he, hb⟩ := hus.at_ hx
        obtain ⟨hB, hl10, hnx⟩ := hes.it e (List.mem_of_getElem? he)
        refine ⟨b, _, rfl, st_of (e3 _ _ hb), rfl, g_two ?_⟩
        change tIfS _ _ _ _ [some (.ref a), some (.ref D), some (.int (n : Int)), some (.str (T e.1)), some e.2, o5, o6] H2
        rw [take_snoc he, List.foldl_append]
        generalize (es.take j).foldl (pn1 n) (pnN (.str "drop") es n) = F at *
        have ef : [e].foldl (pn1 n) F = pn1 n F e := rfl
        rw [ef]
        refine s_when (b := decide (V.int (e.1.length : Int) = V.int (n : Int))) (et_test (ev_op (r := rEq) (ev_lenS (ev_var rfl) (by omega)) (ev_var rfl) (rv_eq rfl))) (fun hb1 H3 e4 => ?_) (fun hb1 H3 e4 => ?_)
        · have hlen : e.1.length = n := by
            have := of_decide_eq_true hb1
            injection this with this
            omega
          have hk : ∀ {o5 o6 : Option V} {Hx : Hp}, Ev (tOp (rI0 fun i j => .int (i - j)) (tC (.int 10)) (tVar 2)) [some (.ref a), some (.ref D), some (.int (n : Int)), some (.str (T e.1)), some e.2, o5, o6] Hx (.int ((10 - n : Nat) : Int)) := fun {o5 o6 Hx} => by
            have z := ev_op (r := rI0 fun i j => .int (i - j)) (σ := [some (.ref a), some (.ref D), some (.int (n : Int)), some (.str (T e.1)), some e.2, o5, o6]) (H := Hx) (ev_c (v := .int 10)) (ev_var (i := 2) (v := .int (n : Int)) rfl) rv_I0
            rw [show ((10 : Int) - (n : Int)) = ((10 - n : Nat) : Int) by omega] at z
            exact z
          have elo : vl (e.1 ++ List.replicate (10 - n) 48) = lo e.1 := by rw [← hlen]; exact lo_eq e.1
          have ehi : vl (e.1 ++ List.replicate (10 - n) 49) + 1 = hi e.1 := by rw [← hlen]; exact hi_eq e.1
          have lt := lo_lt e.1
          have hh := hi_le hB hl10
          refine q_asg (ev_endK (σ := [some (.ref a), some (.ref D), some (.int (n : Int)), some (.str (T e.1)), some e.2, o5, o6]) (tr := tVar 3) (k := 10 - n) lit.1 (.inl rfl) (ev_var rfl) hk hB (by omega)) fun H4 e5 => ?_
          rw [elo]
          change tSeq (tAsg _ _) _ _ [some (.ref a), some (.ref D), some (.int (n : Int)), some (.str (T e.1)), some e.2, some (.int ((lo e.1 : Nat) : Int)), o6] H4
          refine q_asg (ev_op (r := rI0 fun i j => .int (i + j)) (ev_endK (σ := [some (.ref a), some (.ref D), some (.int (n : Int)), some (.str (T e.1)), some e.2, some (.int ((lo e.1 : Nat) : Int)), o6]) (tr := tVar 3) (k := 10 - n) lit.2 (.inr rfl) (ev_var rfl) hk hB (by omega)) (ev_c (v := .int 1)) rv_I0) fun H5 e6 => ?_
          rw [show (((vl (e.1 ++ List.replicate (10 - n) 49) : Nat) : Int) + 1) = ((hi e.1 : Nat) : Int) by rw [← ehi]; omega]
          change tAsg _ _ _ [some (.ref a), some (.ref D), some (.int (n : Int)), some (.str (T e.1)), some e.2, some (.int ((lo e.1 : Nat) : Int)), some (.int ((hi e.1 : Nat) : Int))] H5
          have e05 := ((e3.trans e4).trans e5).trans e6
          have hD5 := ((e4.trans e5).trans e6) _ _ hD3
          refine ⟨e.2, rfl, by show 1 ≤ sizeLine; decide, fun p4 hp4 => ?_⟩
          have x4 := Ex.new (o := .lst [e.2]) hp4
          have h4 : (upd H5 p4 (.lst [e.2])) p4 = some (.lst [e.2]) := upd_same
          generalize upd H5 p4 (.lst [e.2]) = H6 at *
          refine ⟨_, rfl, _, rfl, _, _, rfl, rfl, ?_⟩
          have hk2 : (((hi e.1 : Nat) : Int) - ((lo e.1 : Nat) : Int)) = ((hi e.1 - lo e.1 : Nat) : Int) := by omega
          refine ⟨p4, _, [e.2], rfl, rfl, h4, by omega, by omega, by rw [hk2]; show 1 * (hi e.1 - lo e.1) ≤ _; rw [sizeLine_eq]; omega, fun p6 hp6 => ?_⟩
          rw [rep_flat, hk2, Int.toNat_natCast]
          have x6 := Ex.new (o := .lst (List.replicate (hi e.1 - lo e.1) e.2)) hp6
          have h6 : (upd H6 p6 (.lst (List.replicate (hi e.1 - lo e.1) e.2))) p6 = some (.lst (List.replicate (hi e.1 - lo e.1) e.2)) := upd_same
          generalize upd H6 p6 (.lst (List.replicate (hi e.1 - lo e.1) e.2)) = H7 at *
          have hne : D ≠ p6 := fun z => by
            have := x4 _ _ hD5
            rw [z, hp6] at this
            cases this
          refine ⟨.ref D, rfl, _, rfl, _, rfl, D, p6, _, _, ((lo e.1 : Nat) : Int), ((hi e.1 : Nat) : Int), rfl, rfl, rfl, rfl, (x4.trans x6) _ _ hD5, h6, hne, by omega, by omega, by rw [fV_len]; omega, by rw [fV_len, List.length_replicate, sizeLine_eq]; omega, ?_⟩
          rw [Int.toNat_natCast, Int.toNat_natCast, fV_put (by omega) hh]
          refine ⟨_, _, _, _, rfl, Ex.mut ((e05.trans x4).trans x6) nHD, ?_⟩
          rw [upd_same]
          congr 2
          refine fV_congr fun i => ?_
          unfold pn1 hit
          by_cases c : lo e.1 ≤ i ∧ i < hi e.1
          · rw [if_pos c, if_pos ⟨hlen, c⟩]
          · rw [if_neg c, if_neg (fun z => c z.2)]
        · have hlen : e.1.length ≠ n := fun z => by
            rw [z] at hb1
            rw [decide_eq_true rfl] at hb1
            cases hb1
          refine ⟨_, _, _, _, rfl, e3.trans e4, ?_⟩
          rw [e4 _ _ hD3]
          congr 2
          refine fV_congr fun i => ?_
          unfold pn1
          rw [if_neg (fun z => hlen z.1)]
      · obtain ⟨o3, o4, o5, o6, rfl, e3, hD3⟩ := hp
        rw [hul, List.take_of_length_le (Nat.le_refl _)] at hD3
        exact ⟨_, _, _, _, _, rfl, e3, hD3⟩
    · obtain ⟨o2, o3, o4, o5, o6, rfl, e2, hD2⟩ := hp
      exact s_ret (v := .ref D) (ev_var rfl) fun H3 e3 => k H3 D nHD (e2.trans e3) (e3 _ _ hD2)
end
end Wk

set_option Elab.async false
set_option linter.all false
set_option maxRecDepth 100000
set_option maxHeartbeats 4000000
namespace Wk
open PySem PySem.Spec PyProof.Rows L2 Evl
/-! eight places, three bits: ranges, painting -/
def lo3 (r : List Nat) : Nat := vl r * 2 ^ (3 - r.length)
def hi3 (r : List Nat) : Nat := (vl r + 1) * 2 ^ (3 - r.length)
theorem lo3_lt (r : List Nat) : lo3 r < hi3 r := by
  unfold lo3 hi3
  exact Nat.mul_lt_mul_of_lt_of_le (by omega) (Nat.le_refl _) (Nat.pow_pos (by decide))
theorem hi3_le {r : List Nat} (h : IsB r) (hl : r.length ≤ 3) : hi3 r ≤ 8 := by
  unfold hi3
  have h1 := vl_lt r h
  have : (2 : Nat) ^ r.length * 2 ^ (3 - r.length) = 8 := by rw [← Nat.pow_add, show r.length + (3 - r.length) = 3 by omega]
  calc (vl r + 1) * 2 ^ (3 - r.length) ≤ 2 ^ r.length * 2 ^ (3 - r.length) := Nat.mul_le_mul_right _ h1
    _ = 8 := this
/-- a range has an address -/
theorem take_iff3 {r : List Nat} {i : Nat} (h : IsB r) (hl : r.length ≤ 3) (hi3' : i < 8) : (bN 3 i).take r.length = r ↔ lo3 r ≤ i ∧ i < hi3 r := by
  rw [take_bN 3 r.length i hl]
  have hp : 0 < 2 ^ (3 - r.length) := Nat.pow_pos (by decide)
  have e : (2 : Nat) ^ r.length * 2 ^ (3 - r.length) = 8 := by rw [← Nat.pow_add, show r.length + (3 - r.length) = 3 by omega]
  have hd : i / 2 ^ (3 - r.length) < 2 ^ r.length := by
    rw [Nat.div_lt_iff_lt_mul hp, e]
    exact hi3'
  have key : bN r.length (i / 2 ^ (3 - r.length)) = r ↔ i / 2 ^ (3 - r.length) = vl r := by
    constructor
    · intro z
      have := vl_bN r.length _ hd
      rw [z] at this
      exact this.symm
    · intro z
      rw [z]
      exact bN_vl r h
  rw [key]
  unfold lo3 hi3
  constructor
  · intro z
    rw [← z]
    refine ⟨Nat.div_mul_le_self _ _, ?_⟩
    rw [Nat.add_mul, Nat.one_mul]
    exact Nat.lt_div_mul_add hp
  · intro ⟨z1, z2⟩
    apply Nat.div_eq_of_lt_le z1 z2
section
variable {β : Type}
def ht3 (e : List Nat × β) (i : Nat) : Prop := lo3 e.1 ≤ i ∧ i < hi3 e.1
instance (e : List Nat × β) (i : Nat) : Decidable (ht3 e i) := inferInstanceAs (Decidable (_ ∧ _))
def p81 (s : Nat) (F : Nat → β) (e : List Nat × β) : Nat → β := fun i => if e.1.length = s ∧ ht3 e i then e.2 else F i
def p8S (es : List (List Nat × β)) (F : Nat → β) (s : Nat) : Nat → β := es.foldl (p81 s) F
def p8N (d : β) (es : List (List Nat × β)) : Nat → Nat → β
  | 0 => fun _ => d
  | n + 1 => p8S es (p8N d es n) n
def p8 (d : β) (es : List (List Nat × β)) : Nat → β := p8N d es 4
theorem p8S_at (s : Nat) (i : Nat) : ∀ (es : List (List Nat × β)) (F : Nat → β), (∃ e ∈ es, e.1.length = s ∧ ht3 e i ∧ es.foldl (p81 s) F i = e.2) ∨ (es.foldl (p81 s) F i = F i ∧ ∀ e ∈ es, e.1.length = s → ¬ ht3 e i)
  | [], F => .inr ⟨rfl, fun _ h => by cases h⟩
  | e :: es, F => by
    rw [List.foldl_cons]
    rcases p8S_at s i es (p81 s F e) with ⟨e', h1, h2, h3, h4⟩ | ⟨h1, h2⟩
    · exact .inl ⟨e', List.mem_cons_of_mem _ h1, h2, h3, h4⟩
    · by_cases c : e.1.length = s ∧ ht3 e i
      · refine .inl ⟨e, List.mem_cons_self, c.1, c.2, ?_⟩
        rw [h1]
        exact if_pos c
      · refine .inr ⟨?_, fun e' he' => (List.mem_cons.mp he').elim (fun z => by rw [z]; exact fun a b => c ⟨a, b⟩) (h2 e')⟩
        rw [h1]
        exact if_neg c
theorem p8N_at (d : β) (es : List (List Nat × β)) (i : Nat) : ∀ s : Nat, (p8N d es s i = d ∧ ∀ e ∈ es, e.1.length < s → ¬ ht3 e i) ∨ ∃ e ∈ es, e.1.length < s ∧ ht3 e i ∧ p8N d es s i = e.2 ∧ ∀ e' ∈ es, e'.1.length < s → ht3 e' i → e'.1.length ≤ e.1.length
  | 0 => .inl ⟨rfl, fun e _ h => absurd h (Nat.not_lt_zero _)⟩
  | s + 1 => by
    have ih := p8N_at d es i s
    have st : p8N d es (s + 1) i = es.foldl (p81 s) (p8N d es s) i := rfl
    rw [st]
    rcases p8S_at s i es (p8N d es s) with ⟨e, h1, h2, h3, h4⟩ | ⟨h1, h2⟩
    · exact .inr ⟨e, h1, by omega, h3, h4, fun e' _ h' _ => by omega⟩
    · rw [h1]
      rcases ih with ⟨i1, i2⟩ | ⟨e, i1, i2, i3, i4, i5⟩
      · refine .inl ⟨i1, fun e he hl => ?_⟩
        by_cases c : e.1.length = s
        · exact h2 e he c
        · exact i2 e he (by omega)
      · refine .inr ⟨e, i1, by omega, i3, i4, fun e' he hl hh => ?_⟩
        by_cases c : e'.1.length = s
        · exact absurd hh (h2 e' he c)
        · exact i5 e' he (by omega) hh
theorem p8_at (d : β) {es : List (List Nat × β)} (h : ∀ e ∈ es, e.1.length ≤ 3) (i : Nat) : (p8 d es i = d ∧ ∀ e ∈ es, ¬ ht3 e i) ∨ ∃ e ∈ es, ht3 e i ∧ p8 d es i = e.2 ∧ ∀ e' ∈ es, ht3 e' i → e'.1.length ≤ e.1.length := by
  rcases p8N_at d es i 4 with ⟨h1, h2⟩ | ⟨e, h1, h2, h3, h4, h5⟩
  · exact .inl ⟨h1, fun e he => h2 e he (by have := h e he; omega)⟩
  · exact .inr ⟨e, h1, h3, h4, fun e' he => h5 e' he (by have := h e' he; omega)⟩
end
def gV (F : Nat → V) : List V := (List.range 8).map F
theorem gV_len (F : Nat → V) : (gV F).length = 8 := by unfold gV; rw [List.length_map, List.length_range]
theorem gV_at (F : Nat → V) (i : Nat) : (gV F)[i]? = if i < 8 then some (F i) else none := by
  unfold gV
  rw [List.getElem?_map]
  by_cases h : i < 8
  · rw [List.getElem?_range h, if_pos h]; rfl
  · rw [List.getElem?_eq_none (by rw [List.length_range]; omega), if_neg h]; rfl
theorem gV_put {F : Nat → V} {a c : Nat} {x : V} (hac : a ≤ c) (hc : c ≤ 8) : (gV F).take a ++ List.replicate (c - a) x ++ (gV F).drop c = gV fun i => if a ≤ i ∧ i < c then x else F i := by
  apply List.ext_getElem?
  intro i
  have hl := gV_len F
  rw [gV_at]
  have lt : ((gV F).take a).length = a := by rw [List.length_take]; omega
  by_cases h1 : i < a
  · rw [List.append_assoc, List.getElem?_append_left (by omega), List.getElem?_take_of_lt h1, gV_at]
    rw [if_neg (show ¬ (a ≤ i ∧ i < c) by omega)]
  · by_cases h2 : i < c
    · rw [List.append_assoc, List.getElem?_append_right (by omega), lt, List.getElem?_append_left (by rw [List.length_replicate]; omega), List.getElem?_replicate, if_pos (by omega), if_pos (by omega), if_pos ⟨by omega, h2⟩]
    · rw [List.getElem?_append_right (by rw [List.length_append, lt, List.length_replicate]; omega), List.length_append, lt, List.length_replicate, List.getElem?_drop, gV_at]
      rw [show c + (i - (a + (c - a))) = i by omega, if_neg (show ¬ (a ≤ i ∧ i < c) by omega)]
theorem gV_const (x : V) : List.replicate 8 x = gV fun _ => x := by
  apply List.ext_getElem?
  intro i
  rw [gV_at, List.getElem?_replicate]
theorem gV_congr {F G : Nat → V} (h : ∀ i, F i = G i) : gV F = gV G := by
  have : F = G := funext h
  rw [this]
section
variable {β : Type} [DecidableEq β]
/-- a row of different ranges paints a place as it tells the way of the place's address -/
theorem p8_pt (d : β) {es : List (List Nat × β)} (nd : (es.map (·.1)).Nodup) (hb : ∀ e ∈ es, IsB e.1 ∧ e.1.length ≤ 3) {i : Nat} (hi3 : i < 8) : p8 d es i = Fw.pt (Fw.vE es) (bN 3 i) [] d := by
  have hit_iff3 : ∀ e ∈ es, (ht3 e i ↔ e.1 <+: bN 3 i) := fun e he => by
    obtain ⟨h1, h2⟩ := hb e he
    have z := take_iff3 h1 h2 hi3
    unfold ht3
    rw [← z]
    constructor
    · intro h
      rw [← h]
      exact List.take_prefix _ _
    · intro h
      exact (List.prefix_iff_eq_take.mp h).symm
  rcases p8_at d (fun e he => (hb e he).2) i with ⟨h1, h2⟩ | ⟨e, he, h3, h4, h5⟩
  · rcases Fw.pt_at (m := Fw.vE es) (bN 3 i) [] d with ⟨g1, g2⟩ | ⟨s, g1, g2, g3⟩
    · rw [h1, g1]
    · have hm := Fw.vE_mem g2
      exact absurd ((hit_iff3 _ hm).mpr g1) (h2 _ hm)
  · have hp := (hit_iff3 e he).mp h3
    have hv := Fw.vE_at nd he
    rcases Fw.pt_at (m := Fw.vE es) (bN 3 i) [] d with ⟨g1, g2⟩ | ⟨s, g1, g2, g3⟩
    · have := g2 e.1 hp
      rw [List.nil_append, hv] at this
      cases this
    · have hm := Fw.vE_mem g2
      have l1 := g3 e.1 hp (by rw [List.nil_append, hv]; rfl)
      have l2 := h5 _ hm ((hit_iff3 _ hm).mpr g1)
      have hs : s = e.1 := by
        have l2' : s.length ≤ e.1.length := l2
        rw [List.prefix_iff_eq_take.mp g1, List.prefix_iff_eq_take.mp hp, show s.length = e.1.length by omega]
      rw [List.nil_append, hs, hv] at g2
      rw [h4]
      exact Option.some.inj g2
end
end Wk

set_option Elab.async false
set_option linter.all false
set_option maxRecDepth 100000
set_option maxHeartbeats 4000000
namespace Wk
open PySem PySem.Spec PyProof.Rows L2 Evl
theorem vl_z (r : List Nat) : vl ([48] ++ r) = vl r := by
  rw [vl_app, show vl [48] = 0 from rfl, Nat.zero_mul, Nat.zero_add]
theorem lo3_eq (r : List Nat) : vl ([48] ++ r ++ List.replicate (3 - r.length) 48) = lo3 r := by
  rw [vl_zeros, vl_z]
  rfl
theorem hi3_eq (r : List Nat) : vl ([48] ++ r ++ List.replicate (3 - r.length) 49) + 1 = hi3 r := by
  rw [vl_ones, vl_z]
  rfl
theorem cutS_from (l : List Nat) (n : Nat) (h : n ≤ l.length) : cutS (T l) (some (n : Int)) none = T (l.drop n) := by
  unfold cutS
  rw [HT.sIx_nat, HT.sIx_none, T_len, Nat.min_eq_left h]
  show T ((l.drop n).take (l.length - n)) = _
  rw [List.take_of_length_le (by rw [List.length_drop]; omega)]
section
variable {σ : L2.St} {H : Hp} {tr tk : TE}
/-- int('0' + r + '000'[n:], 2) -/
theorem ev_end3 {r : List Nat} {z z3 : Str} {c n : Nat} (hz : z = T [48]) (hz3 : z3 = T (List.replicate 3 c)) (hc : c = 48 ∨ c = 49) (h : Ev tr σ H (.str (T r))) (hk : Ev tk σ H (.int (n : Int))) (hB : IsB r) (hl : r.length ≤ 3) (hn : n ≤ 3) :
    Ev (tCB rInt2 (tCons (tOp rAddS (tOp rAddS (tC (.str z)) tr) (tSl rSlS (tC (.str z3)) (tPart tk) tNoPart)) (tCons (tC (.int 2)) tNil))) σ H (.int ((vl ([48] ++ r ++ List.replicate (3 - n) c) : Nat) : Int)) := by
  subst hz hz3
  have e0 := ev_addS (σ := σ) (H := H) (ta := tC (.str (T [48]))) (tb := tr) (a := [48]) ev_c h (by simp; omega)
  have e1 := ev_slS (σ := σ) (H := H) (te := tC (.str (T (List.replicate 3 c)))) ev_c (eo_some hk) eo_none (by simp)
  rw [cutS_from _ n (by rw [List.length_replicate]; exact hn), List.drop_replicate] at e1
  have e2 := ev_addS e0 e1 (by rw [List.length_append, List.length_replicate]; simp; omega)
  intro H1 e Q q
  refine e2 H1 e _ fun H2 x2 => ⟨_, rfl, ?_, ?_, (IsB.app (fun x hx => .inl (List.mem_singleton.mp hx)) hB).app (isB_rep hc _), q H2 x2⟩
  · simp
  · rw [List.length_append, List.length_append, List.length_replicate]
    simp
    omega
end
section
variable {P : Program} {w : World} {K : PySem.W.Frag} {mg : Str → Option Value} {base : Heap} {f : Addr} {fd : FuncData}
/-! _law_small_painted -/
def spP8 : Sp := fun vs H Q _ => ∃ (a : Addr) (us : List V) (es : List Row) (m : Nat), vs = [.ref a] ∧ (H a = some (.lst us) ∨ H a = some (.tup us)) ∧ EsT H us es ∧ EsOk es m ∧ m ≤ 100 ∧ (∀ e ∈ es, e.1.length ≤ 3) ∧ ∀ H' D, H D = none → Ex H H' → H' D = some (.lst (gV (p8 (.str "drop") es))) → Q (.ref D) H'
abbrev sP8 : Stmt := top 35
abbrev nP8 : List Str := ["_law_entries", "_law_painted_here", "_law_size", "_law_bits", "_law_there", "_law_first", "_law_last"]
theorem scP8 : FnScope nP8 ["_law_entries"] (defScope sP8) := ⟨rfl, rfl, rfl, by decide +kernel, rfl, by decide +kernel, by decide +kernel⟩
theorem ok_p8 (B : Bl mg) (F : FnP K "_law_small_painted" sP8 f fd) : FnOk P w K mg base CX0 1 f fd ["_law_entries"] spP8 := by
  refine F.ok scP8 (fun vs H Q E h => ?_) (fun cdv A outer s H vs Q E hr h => ?_)
  · obtain ⟨a, us, es, m, rfl, _⟩ := h
    rfl
  · obtain ⟨a, us, es, m, rfl, ha, hus, hes, hm, h33, k⟩ := h
    refine ⟨_, pss_cons (ps_set (i := 1) scP8.nd rfl (Or.inl rfl) (pe_op op_rep (pe_lst (pa_cons pe_str pa_nil)) pe_int))
      (pss_cons (ps_for (passes_of rfl) rfl (pi_range1 (by rfl) B.range (pa_cons pe_int pa_nil)) (pg_name (i := 2) scP8.nd rfl (.inl rfl))
        (pss_one (ps_for (passes_of rfl) rfl (pi_rowK (K := K) rfl (pv 0)) (pg_tup rfl (pgs_cons (pg_name (i := 3) scP8.nd rfl (.inl rfl)) (pgs_cons (pg_name (i := 4) scP8.nd rfl (.inl rfl)) pgs_nil)))
          (pss_one (ps_if (pt_cmpR op_eq (pe_callB call_len_str (by rfl) B.len PySem.boot_len (pa_cons (pv 3) pa_nil)) (pv 2) (nomark _))
            (pss_cons (ps_set (i := 5) scP8.nd rfl (Or.inl rfl) (pe_callTy call_int2 (by rfl) B.int PyProof.Rows.boot_int (pa_cons (pe_op op_add_str (pe_op op_add_str pe_str (pv 3)) (pe_slice sl_str pe_str (po_some (pv 2)) po_none)) (pa_cons pe_int pa_nil))))
            (pss_cons (ps_set (i := 6) scP8.nd rfl (Or.inl rfl) (pe_op op_add (pe_callTy call_int2 (by rfl) B.int PyProof.Rows.boot_int (pa_cons (pe_op op_add_str (pe_op op_add_str pe_str (pv 3)) (pe_slice sl_str pe_str (po_some (pv 2)) po_none)) (pa_cons pe_int pa_nil))) pe_int))
            (pss_one (ps_asg (pe_op op_rep (pe_lst (pa_cons (pv 4) pa_nil)) (pe_op op_sub (pv 6) (pv 5))) (pg_slice (pv 1) (pv 5) (pv 6)))))) pss_nil)))))
      (pss_one (ps_ret (pv 1)))), ?_⟩
    have lit : (Str.ofString "0" = T [48]) ∧ (Str.ofString "1" = T [49]) := by decide +kernel
    have lit3 : (Str.ofString "000" = T (List.replicate 3 48)) ∧ (Str.ofString "111" = T (List.replicate 3 49)) := by decide +kernel
    have hul := hus.length
    have hel := hes.len
    refine q_asgW ?_
    refine ⟨by show 1 ≤ sizeLine; decide, fun p0 hp0 => ?_⟩
    have e0 := Ex.new (o := .lst [V.str "drop"]) hp0
    have h0 : (upd H p0 (.lst [V.str "drop"])) p0 = some (.lst [V.str "drop"]) := upd_same
    generalize upd H p0 (.lst [V.str "drop"]) = H0 at *
    refine ⟨p0, 8, [V.str "drop"], rfl, rfl, h0, by decide, by decide, by show 1 * 8 ≤ sizeLine; decide, fun D hD => ?_⟩
    rw [rep_flat, show (8 : Int).toNat = 8 from rfl, gV_const]
    have e1 := Ex.new (o := .lst (gV fun _ => V.str "drop")) hD
    have h1 : (upd H0 D (.lst (gV fun _ => V.str "drop"))) D = some (.lst (gV fun _ => V.str "drop")) := upd_same
    generalize upd H0 D (.lst (gV fun _ => V.str "drop")) = H1 at *
    have e01 := e0.trans e1
    have nHD := fresh_back e0 hD
    change tSeq (tFor _ _ _) _ _ [some (.ref a), some (.ref D), none, none, none, none, none] H1
    refine q_forR1 (n := 4) (ea_cons ev_c ea_nil) (by omega) (fun n σ' H' => ∃ o2 o3 o4 o5 o6, σ' = [some (.ref a), some (.ref D), o2, o3, o4, o5, o6] ∧ Ex H H' ∧ H' D = some (.lst (gV (p8N (.str "drop") es n)))) (fun H2 e2 => ⟨_, _, _, _, _, rfl, e01.trans e2, e2 _ _ h1⟩) (fun n σ' H' hn hp => ?_) (fun σ' H' hp => ?_)
    · obtain ⟨o2, o3, o4, o5, o6, rfl, e2, hD2⟩ := hp
      have hn11 : n < 4 := by omega
      change tFor _ _ _ _ [some (.ref a), some (.ref D), some (.int (n : Int)), o3, o4, o5, o6] H'
      refine s_forRow (K := K) (a := a) (xs := us) (ev_var rfl) (ha.imp (e2 _ _) (e2 _ _)) (fun j σ2 H2 => ∃ o3 o4 o5 o6, σ2 = [some (.ref a), some (.ref D), some (.int (n : Int)), o3, o4, o5, o6] ∧ Ex H H2 ∧ H2 D = some (.lst (gV ((es.take j).foldl (p81 n) (p8N (.str "drop") es n))))) (fun H2 e3 => ⟨_, _, _, _, rfl, e2.trans e3, by rw [List.take_zero]; exact e3 _ _ hD2⟩) (fun j σ2 H2 _ hp o ho => ?_) (fun j x σ2 H2 hx hp => ?_) (fun σ2 H2 hp => ?_)
      · obtain ⟨_, _, _, _, _, e3, _⟩ := hp
        have hz : H' a = some o := ho
        rcases ha with ha | ha
        · rw [e2 _ _ ha] at hz
          cases hz
          exact e3 _ _ ha
        · rw [e2 _ _ ha] at hz
          cases hz
          exact e3 _ _ ha
      · obtain ⟨o3, o4, o5, o6, rfl, e3, hD3⟩ := hp
        obtain ⟨b, e, rfl, he, hb⟩ := hus.at_ hx
        obtain ⟨hB, hl10', hnx⟩ := hes.it e (List.mem_of_getElem? he)
        have hl10 := h33 e (List.mem_of_getElem? he)
        have hl3 := hl10
        refine ⟨b, _, rfl, st_of (e3 _ _ hb), rfl, g_two ?_⟩
        change tIfS _ _ _ _ [some (.ref a), some (.ref D), some (.int (n : Int)), some (.str (T e.1)), some e.2, o5, o6] H2
        rw [take_snoc he, List.foldl_append]
        generalize (es.take j).foldl (p81 n) (p8N (.str "drop") es n) = F at *
        have ef : [e].foldl (p81 n) F = p81 n F e := rfl
        rw [ef]
        refine s_when (b := decide (V.int (e.1.length : Int) = V.int (n : Int))) (et_test (ev_op (r := rEq) (ev_lenS (ev_var rfl) (by omega)) (ev_var rfl) (rv_eq rfl))) (fun hb1 H3 e4 => ?_) (fun hb1 H3 e4 => ?_)
        · have hlen : e.1.length = n := by
            have := of_decide_eq_true hb1
            injection this with this
            omega
          have elo : vl ([48] ++ e.1 ++ List.replicate (3 - n) 48) = lo3 e.1 := by rw [← hlen]; exact lo3_eq e.1
          have ehi : vl ([48] ++ e.1 ++ List.replicate (3 - n) 49) + 1 = hi3 e.1 := by rw [← hlen]; exact hi3_eq e.1
          have lt := lo3_lt e.1
          have hh := hi3_le hB hl10
          refine q_asg (ev_end3 (σ := [some (.ref a), some (.ref D), some (.int (n : Int)), some (.str (T e.1)), some e.2, o5, o6]) (tr := tVar 3) (n := n) lit.1 lit3.1 (.inl rfl) (ev_var rfl) (ev_var (i := 2) rfl) hB hl3 (by omega)) fun H4 e5 => ?_
          rw [elo]
          change tSeq (tAsg _ _) _ _ [some (.ref a), some (.ref D), some (.int (n : Int)), some (.str (T e.1)), some e.2, some (.int ((lo3 e.1 : Nat) : Int)), o6] H4
          refine q_asg (ev_op (r := rI0 fun i j => .int (i + j)) (ev_end3 (σ := [some (.ref a), some (.ref D), some (.int (n : Int)), some (.str (T e.1)), some e.2, some (.int ((lo3 e.1 : Nat) : Int)), o6]) (tr := tVar 3) (n := n) lit.1 lit3.2 (.inr rfl) (ev_var rfl) (ev_var (i := 2) rfl) hB hl3 (by omega)) (ev_c (v := .int 1)) rv_I0) fun H5 e6 => ?_
          rw [show (((vl ([48] ++ e.1 ++ List.replicate (3 - n) 49) : Nat) : Int) + 1) = ((hi3 e.1 : Nat) : Int) by rw [← ehi]; omega]
          change tAsg _ _ _ [some (.ref a), some (.ref D), some (.int (n : Int)), some (.str (T e.1)), some e.2, some (.int ((lo3 e.1 : Nat) : Int)), some (.int ((hi3 e.1 : Nat) : Int))] H5
          have e05 := ((e3.trans e4).trans e5).trans e6
          have hD5 := ((e4.trans e5).trans e6) _ _ hD3
          refine ⟨e.2, rfl, by show 1 ≤ sizeLine; decide, fun p4 hp4 => ?_⟩
          have x4 := Ex.new (o := .lst [e.2]) hp4
          have h4 : (upd H5 p4 (.lst [e.2])) p4 = some (.lst [e.2]) := upd_same
          generalize upd H5 p4 (.lst [e.2]) = H6 at *
          refine ⟨_, rfl, _, rfl, _, _, rfl, rfl, ?_⟩
          have hk2 : (((hi3 e.1 : Nat) : Int) - ((lo3 e.1 : Nat) : Int)) = ((hi3 e.1 - lo3 e.1 : Nat) : Int) := by omega
          refine ⟨p4, _, [e.2], rfl, rfl, h4, by omega, by omega, by rw [hk2]; show 1 * (hi3 e.1 - lo3 e.1) ≤ _; rw [sizeLine_eq]; omega, fun p6 hp6 => ?_⟩
          rw [rep_flat, hk2, Int.toNat_natCast]
          have x6 := Ex.new (o := .lst (List.replicate (hi3 e.1 - lo3 e.1) e.2)) hp6
          have h6 : (upd H6 p6 (.lst (List.replicate (hi3 e.1 - lo3 e.1) e.2))) p6 = some (.lst (List.replicate (hi3 e.1 - lo3 e.1) e.2)) := upd_same
          generalize upd H6 p6 (.lst (List.replicate (hi3 e.1 - lo3 e.1) e.2)) = H7 at *
          have hne : D ≠ p6 := fun z => by
            have := x4 _ _ hD5
            rw [z, hp6] at this
            cases this
          refine ⟨.ref D, rfl, _, rfl, _, rfl, D, p6, _, _, ((lo3 e.1 : Nat) : Int), ((hi3 e.1 : Nat) : Int), rfl, rfl, rfl, rfl, (x4.trans x6) _ _ hD5, h6, hne, by omega, by omega, by rw [gV_len]; omega, by rw [gV_len, List.length_replicate, sizeLine_eq]; omega, ?_⟩
          rw [Int.toNat_natCast, Int.toNat_natCast, gV_put (by omega) hh]
          refine ⟨_, _, _, _, rfl, Ex.mut ((e05.trans x4).trans x6) nHD, ?_⟩
          rw [upd_same]
          congr 2
          refine gV_congr fun i => ?_
          unfold p81 ht3
          by_cases c : lo3 e.1 ≤ i ∧ i < hi3 e.1
          · rw [if_pos c, if_pos ⟨hlen, c⟩]
          · rw [if_neg c, if_neg (fun z => c z.2)]
        · have hlen : e.1.length ≠ n := fun z => by
            rw [z] at hb1
            rw [decide_eq_true rfl] at hb1
            cases hb1
          refine ⟨_, _, _, _, rfl, e3.trans e4, ?_⟩
          rw [e4 _ _ hD3]
          congr 2
          refine gV_congr fun i => ?_
          unfold p81
          rw [if_neg (fun z => hlen z.1)]
      · obtain ⟨o3, o4, o5, o6, rfl, e3, hD3⟩ := hp
        rw [hul, List.take_of_length_le (Nat.le_refl _)] at hD3
        exact ⟨_, _, _, _, _, rfl, e3, hD3⟩
    · obtain ⟨o2, o3, o4, o5, o6, rfl, e2, hD2⟩ := hp
      exact s_ret (v := .ref D) (ev_var rfl) fun H3 e3 => k H3 D nHD (e2.trans e3) (e3 _ _ hD2)
end
end Wk

set_option Elab.async false
set_option linter.all false
set_option maxRecDepth 100000
set_option maxHeartbeats 4000000
namespace Wk
open PySem PySem.Spec PyProof.Rows L2 Evl
section
variable {P : Program} {w : World} {K : PySem.W.Frag} {mg : Str → Option Value} {base : Heap} {f : Addr} {fd : FuncData}
/-- a for over a text -/
theorem q_forS {l : List Nat} {tl : TE} {tu tz : TS} {D : Ends} {σ : L2.St} {H : Hp} {j : Nat} (h : Ev tl σ H (.str (T l))) (Pv : Nat → L2.St → Hp → Prop) (h0 : ∀ H1, Ex H H1 → Pv 0 σ H1)
    (hs : ∀ i c σ' H', l[i]? = some c → Pv i σ' H' → tu { D with nx := Pv (i + 1), ct := Pv (i + 1), bk := tz D } (σ'.set j (some (.str (T [c])))) H') (hd : ∀ σ' H', Pv l.length σ' H' → tz D σ' H') : tSeq (tFor (iStr tl) (gName j) tu) tz D σ H := by
  have hsz : (T l).cps.size = l.length := by simp [T]
  have w := walk_str (z := T l)
  rw [hsz] at w
  refine h H (Ex.refl _) _ fun H1 e1 => ⟨T l, rfl, for_it (D := { D with nx := tz D }) w Pv (h0 H1 e1) (fun _ _ _ _ _ => trivial) (fun i x σ' H' H2 hi hp y => ?_) hd⟩
  obtain ⟨rfl, c, hc, rfl⟩ := y
  exact hs i c σ' H2 (by simpa [T] using hc) hp
/-! _law_is_range -/
def spLR : Sp := fun vs H Q _ => ∃ r : List Nat, vs = [.str (T r)] ∧ IsB r ∧ r.length ≤ 10 ∧ ∀ H', Ex H H' → Q (.bl true) H'
abbrev nLR : List Str := ["_law_thing", "_law_sign"]
end
end Wk

set_option Elab.async false
set_option linter.all false
set_option maxRecDepth 100000
set_option maxHeartbeats 4000000
namespace Wk
open PySem PySem.Spec PyProof.Rows L2 Evl
section
variable {P : Program} {w : World} {K : PySem.W.Frag} {mg : Str → Option Value} {base : Heap} {f : Addr} {fd : FuncData}
/-! _law_is_entry, of a right entry -/
def spLEn : Sp := fun vs H Q _ => ∃ (b : Addr) (l : List Nat) (y : V), vs = [.ref b] ∧ H b = some (.tup [.str (T l), y]) ∧ IsB l ∧ l.length ≤ 10 ∧ NxV y ∧ ∀ H', Ex H H' → Q (.bl true) H'
abbrev sLEn : Stmt := top 37
abbrev nLEn : List Str := ["_law_item", "_law_sign"]
theorem scLEn : FnScope nLEn ["_law_item"] (defScope sLEn) := ⟨rfl, rfl, rfl, by decide +kernel, rfl, by decide +kernel, by decide +kernel⟩
theorem ok_lEn (B : Bl mg) (F : FnP K "_law_is_entry" sLEn f fd) : FnOk P w K mg base CX0 1 f fd ["_law_item"] spLEn := by
  refine F.ok scLEn (fun vs H Q E h => ?_) (fun cdv A outer s H vs Q E hr h => ?_)
  · obtain ⟨b, l, y, rfl, _⟩ := h
    rfl
  · obtain ⟨b, l, y, rfl, hb, hB, hl, hy, k⟩ := h
    refine ⟨_, pss_cons (ps_if (PW.pt (pw_or (pt_not (pt_val (pe_callB call_isi (by rfl) B.isi boot_isinstance (pa_cons (pv 0) (pa_cons (pe_bltn (v := .ty "tuple") (by rfl) B.tuple PyProof.Rows.boot_tuple rfl) pa_nil)))))
        (pw_or (pt_cmpR op_ne (pe_callB call_len_seq (by rfl) B.len PySem.boot_len (pa_cons (pv 0) pa_nil)) pe_int (nomark _))
        (pw_or (pt_not (pt_val (pe_callB call_isi (by rfl) B.isi boot_isinstance (pa_cons (pe_ix ix_tup (pv 0) pe_int (fun _ _ => rfl)) (pa_cons (pe_bltn (v := .ty "str") (by rfl) B.str PyProof.Rows.boot_str rfl) pa_nil)))))
        (pw_or1 (pt_cmpR op_gt (pe_callB call_len_str (by rfl) B.len PySem.boot_len (pa_cons (pe_ix ix_tup (pv 0) pe_int (fun _ _ => rfl)) pa_nil)) pe_int (nomark _))))))) (pss_one (ps_ret pe_bl)) pss_nil)
      (pss_cons (ps_for (passes_of rfl) rfl (pi_str (pe_ix ix_tup (pv 0) pe_int (fun _ _ => rfl))) (pg_name (i := 1) scLEn.nd rfl (Or.inl rfl))
        (pss_one (ps_if (PW.pt (pw_and (pt_cmpR op_ne (pv 1) pe_str (nomark _)) (pw_and1 (pt_cmpR op_ne (pv 1) pe_str (nomark _))))) (pss_one (ps_ret pe_bl)) pss_nil)))
      (pss_cons (ps_if (pt_val (pe_callB call_isi (by rfl) B.isi boot_isinstance (pa_cons (pe_ix ix_tup (pv 0) pe_int (fun _ _ => rfl)) (pa_cons (pe_bltn (v := .ty "str") (by rfl) B.str PyProof.Rows.boot_str rfl) pa_nil))))
        (pss_one (ps_ret (pe_or (pe_cmpR op_eq (pe_ix ix_tup (pv 0) pe_int (fun _ _ => rfl)) pe_str (nomark _)) (pe_one (pe_cmpR op_eq (pe_ix ix_tup (pv 0) pe_int (fun _ _ => rfl)) pe_str (nomark _)))))) pss_nil)
      (pss_one (ps_ret (pe_and (pe_callB call_isi (by rfl) B.isi boot_isinstance (pa_cons (pe_ix ix_tup (pv 0) pe_int (fun _ _ => rfl)) (pa_cons (pe_bltn (v := .ty "int") (by rfl) B.int PyProof.Rows.boot_int rfl) pa_nil)))
        (pe_one (pe_not (pe_callB call_isi (by rfl) B.isi boot_isinstance (pa_cons (pe_ix ix_tup (pv 0) pe_int (fun _ _ => rfl)) (pa_cons (pe_bltn (v := .ty "bool") (by rfl) B.bool PyProof.Rows.boot_bool rfl) pa_nil)))))))))), ?_⟩
    have v0 : ∀ {H1 : Hp} {o1 : Option V}, Ev (tVar 0) [some (.ref b), o1] H1 (.ref b) := ev_var rfl
    have i0 : ∀ {H1 : Hp} {o1 : Option V}, Ex H H1 → Ev (tOp (rIxT K) (tVar 0) (tC (.int 0))) [some (.ref b), o1] H1 (.str (T l)) := fun e1 => ev_op v0 (ev_c (v := .int 0)) (rv_ixT (st_of (e1 _ _ hb)) (atI_nat (j := 0) rfl))
    have i1 : ∀ {H1 : Hp} {o1 : Option V}, Ex H H1 → Ev (tOp (rIxT K) (tVar 0) (tC (.int 1))) [some (.ref b), o1] H1 y := fun e1 => ev_op v0 (ev_c (v := .int 1)) (rv_ixT (st_of (e1 _ _ hb)) (atI_nat (j := 1) rfl))
    have hd : Dq H (.ref b) (.tuple [.str (T l), nxD y]) := .tup hb (.cons (.str _) (.cons (dq_nx hy) .nil))
    have tt : kitB (tyN (.tuple [.str (T l), nxD y])) "tuple" = some true := show kitB "tuple" "tuple" = some true by decide +kernel
    refine q_when (b := !true || (!decide (V.int (([V.str (T l), y] : List V).length : Int) = V.int 2) || (!true || decide ((10 : Int) < (l.length : Int))))) (et_or (et_not (et_B (ev_isi (K := K) v0 hd tt))) fun _ => et_or (et_test (ev_op (r := rNe) (ev_lenT (K := K) v0 (st_of hb)) ev_c (rv_ne rfl))) fun _ => et_or (et_not (et_B (ev_isiS (K := K) (i0 (Ex.refl _))))) fun _ => et_test (ev_op (r := rI0 fun i j => .bl (decide (j < i))) (ev_lenS (i0 (Ex.refl _)) (by omega)) ev_c rv_I0)) (fun hz H1 e1 => ?_) fun hz H1 e1 => ?_
    · exfalso
      have : (10 : Int) < (l.length : Int) := of_decide_eq_true (by simpa using hz)
      omega
    have t0 : (Str.ofString "0") = T [48] := by decide +kernel
    have t1 : (Str.ofString "1") = T [49] := by decide +kernel
    refine q_forS (l := l) (i0 e1) (fun i σ' H' => ∃ o1, σ' = [some (.ref b), o1] ∧ Ex H H') (fun H2 e2 => ⟨_, rfl, e1.trans e2⟩) (fun i c σ' H' hc hp => ?_) (fun σ' H' hp => ?_)
    · obtain ⟨o1, rfl, e2⟩ := hp
      change tIfS _ _ _ _ [some (.ref b), some (.str (T [c]))] H'
      have ne : ∀ (s : Str) (a : Nat), s = T [a] → (!decide (V.str (T [c]) = V.str s)) = !decide (c = a) := fun s a hs => by
        rw [hs]
        congr 1
        refine decide_eq_decide.mpr ⟨fun z => ?_, fun z => by rw [z]⟩
        injection z with z
        have := T_inj z
        simpa using this
      refine s_when (b := (!decide (c = 48)) && (!decide (c = 49))) (et_and (et_is (et_test (ev_op (r := rNe) (x := .str (T [c])) (ev_var rfl) ev_c (rv_ne rfl))) (ne _ 48 t0)) fun _ => et_is (et_test (ev_op (r := rNe) (x := .str (T [c])) (ev_var rfl) ev_c (rv_ne rfl))) (ne _ 49 t1)) (fun hb1 H3 e3 => ?_) (fun hb1 H3 e3 => ⟨_, rfl, e2.trans e3⟩)
      exfalso
      rcases hB c (List.mem_of_getElem? hc) with z | z
      · rw [z] at hb1; simp at hb1
      · rw [z] at hb1; simp at hb1
    · obtain ⟨o1, rfl, e2⟩ := hp
      have dy : ∀ {H3 : Hp}, Dq H3 y (nxD y) := dq_nx hy
      rcases hy with rfl | rfl | ⟨n, hn, rfl⟩
      · refine q_when (b := true) (et_B (ev_isiS (K := K) (i1 e2))) (fun _ H3 e3 => ?_) (fun hz => by cases hz)
        refine s_ret (v := .bl (true || false)) ?_ fun H4 e4 => k H4 ((e2.trans e3).trans e4)
        refine ev_orV (ev_is (ev_op (r := rEq) (i1 (e2.trans e3)) ev_c (rv_eq rfl)) (by rw [decide_eq_true rfl])) fun hz => by cases hz
      · refine q_when (b := true) (et_B (ev_isiS (K := K) (i1 e2))) (fun _ H3 e3 => ?_) (fun hz => by cases hz)
        refine s_ret (v := .bl (false || true)) ?_ fun H4 e4 => k H4 ((e2.trans e3).trans e4)
        refine ev_orV (ev_is (ev_op (r := rEq) (i1 (e2.trans e3)) ev_c (rv_eq rfl)) (by decide +kernel)) fun _ => ev_is (ev_op (r := rEq) (i1 (e2.trans e3)) ev_c (rv_eq rfl)) (by rw [decide_eq_true rfl])
      · refine q_when (b := false) (et_B (ev_isi (K := K) (i1 e2) (.int (n : Int)) (show kitB "int" "str" = some false by decide +kernel))) (fun hz => by cases hz) (fun _ H3 e3 => ?_)
        refine s_ret (v := .bl (true && !false)) ?_ fun H4 e4 => k H4 ((e2.trans e3).trans e4)
        refine ev_andV (ev_isi (K := K) (i1 (e2.trans e3)) (.int (n : Int)) (show kitB "int" "int" = some true by decide +kernel)) fun _ => ev_notV (ev_isi (K := K) (i1 (e2.trans e3)) (.int (n : Int)) (show kitB "int" "bool" = some false by decide +kernel))
end
end Wk

set_option Elab.async false
set_option linter.all false
set_option maxRecDepth 100000
set_option maxHeartbeats 4000000
namespace Wk
open PySem PySem.Spec PyProof.Rows L2 Evl
section
variable {p g c : Addr} {G H : Hp}
theorem Gq.mutD {G1 H1 : Hp} {D : Addr} {o : HO} (hD : H D = none) (g1 : G1 D = none) (np : D ≠ p) (ng : D ≠ g) (h : Gq p g c G H G1 H1) : Gq p g c G H G1 (upd H1 D o) :=
  ⟨h.ex, h.nw, fun b u h1 h2 hb => by rw [upd_ne (fun z => by rw [z, hD] at hb; cases hb)]; exact h.off b u h1 h2 hb, h.pl.mut g1 np ng⟩
theorem Gq.holdD {G1 H1 : Hp} {D : Addr} {o : HO} (hD : H D = none) (g1 : G1 D = none) (np : D ≠ p) (ng : D ≠ g) (h1D : H1 D = some o) (h : Gq p g c G H G1 H1) : Gq p g c G H (upd G1 D o) H1 :=
  ⟨h.ex.trans (Ex.new g1), fun b hb hh => by rw [upd_ne (fun z => hh (by rw [z]; exact hD))]; exact h.nw b hb hh, h.off, h.pl.hold h1D np ng g1⟩
/-- a list comprehension over range(n) whose items grow what stands -/
theorem ep_lcG {σ : L2.St} {ta te : TE} {j : Nat} {vs : List Nat} {n : Nat} {Q : VK} {Yg : Hp → V → Prop} (hP : Pq G H p g c) (ha : Ev ta σ G (.int (n : Int))) (hn : n ≤ 1000) (hw : ∀ x, wipe ((wipe σ vs).set j (some x)) vs = wipe σ vs) (hY : ∀ G1 G2 v, Ex G1 G2 → Yg G1 v → Yg G2 v)
    (he : ∀ (G' H' : Hp) (i : Nat), Ex G G' → Pq G' H' p g c → i < n → ∀ Q' : VK, (∀ G'' H'' v, Gq p g c G' H' G'' H'' → Yg G'' v → Q' v H'') → te ((wipe σ vs).set j (some (.int (i : Int)))) H' Q')
    (k : ∀ G' H' D us, Gq p g c G H G' H' → G' D = some (.lst us) → us.length = n → (∀ u ∈ us, Yg G' u) → Q (.ref D) H') : tLc (iRng1 (tCons ta tNil)) (gName j) tYes te vs σ H Q := by
  refine ha H hP.ex _ fun H1 e1 => ?_
  have hP1 : Pq G H1 p g c := hP.ext e1
  refine ⟨(n : Int), rfl, by omega, by omega, fun D hD => ?_⟩
  have gD := fresh_back hP1.ex hD
  have np := hP1.np hD
  have ng := hP1.ng hD
  refine lc_range (lo := 0) (n := (n : Int).toNat) (fun i H' => ∃ (G' : Hp) (us : List V), us.length = i ∧ (∀ u ∈ us, Yg G' u) ∧ Gq p g c G H1 G' H' ∧ G' D = none ∧ H' D = some (.lst us)) ⟨G, [], rfl, (fun _ h => by cases h), (Gq.refl hP1).mutD hD gD np ng, gD, upd_same⟩ (fun i H' hi hh => ?_) (fun H' hh => ?_)
  · obtain ⟨G', us, h1, h2, h3, h4, h5⟩ := hh
    have e0 : (0 : Int) + (i : Int) = (i : Int) := Int.zero_add _
    show wipe ((wipe σ vs).set j (some (.int ((0 : Int) + (i : Int))))) vs = wipe σ vs ∧ te ((wipe σ vs).set j (some (.int ((0 : Int) + (i : Int))))) H' fun y H4 => ∃ acc, H4 D = some (.lst acc) ∧ acc.length < sizeLine ∧ ∃ (G' : Hp) (us : List V), us.length = i + 1 ∧ (∀ u ∈ us, Yg G' u) ∧ Gq p g c G H1 G' (upd H4 D (.lst (acc ++ [y]))) ∧ G' D = none ∧ (upd H4 D (.lst (acc ++ [y]))) D = some (.lst us)
    rw [e0]
    refine ⟨hw _, he G' H' i h3.ex h3.pl (by omega) _ fun G2 H2 y g2 hy => ?_⟩
    have g2D := g2.nw D h4 (by rw [h5]; exact fun z => by cases z)
    have h2D := g2.off D _ np ng h5
    refine ⟨us, h2D, sz_lt (by omega), G2, us ++ [y], by simp [h1], fun u hu => (List.mem_append.mp hu).elim (fun z => hY _ _ _ g2.ex (h2 u z)) fun z => by rw [List.mem_singleton.mp z]; exact hy, (h3.trans g2).mutD hD g2D np ng, g2D, upd_same⟩
  · obtain ⟨G', us, h1, h2, h3, h4, h5⟩ := hh
    have hg := h3.holdD hD h4 np ng h5
    exact k _ H' D us ((Gq.ext hP e1).trans hg) upd_same (by omega) fun u hu => hY _ _ _ (Ex.new h4) (h2 u hu)
end
end Wk

set_option Elab.async false
set_option linter.all false
set_option maxRecDepth 100000
set_option maxHeartbeats 8000000
namespace Wk
open PySem PySem.Spec PyProof.Rows L2 Evl
theorem q_asgG {te : TE} {g : TG} {tz : TS} {D : Ends} {σ : L2.St} {H : Hp} (h : te σ H fun x H1 => g x σ H1 fun σ2 H2 => tz D σ2 H2) : tSeq (tAsg te g) tz D σ H := h
def rngs3 : List (List Nat) := [[], [48], [49], [48, 48], [48, 49], [49, 48], [49, 49], [48, 48, 48], [48, 48, 49], [48, 49, 48], [48, 49, 49], [49, 48, 48], [49, 48, 49], [49, 49, 48], [49, 49, 49]]
def allN : List V := [.str "here", .str "drop", .int 0, .int 1, .int 2, .int 3, .int 4, .int 5, .int 6, .int 7]
theorem allN_nx : ∀ v ∈ allN, NxV v := by
  intro v hv
  unfold allN at hv
  simp only [List.mem_cons, List.not_mem_nil, or_false] at hv
  rcases hv with rfl | rfl | rfl | rfl | rfl | rfl | rfl | rfl | rfl | rfl
  · exact .inl rfl
  · exact .inr (.inl rfl)
  · exact .inr (.inr ⟨0, by decide, rfl⟩)
  · exact .inr (.inr ⟨1, by decide, rfl⟩)
  · exact .inr (.inr ⟨2, by decide, rfl⟩)
  · exact .inr (.inr ⟨3, by decide, rfl⟩)
  · exact .inr (.inr ⟨4, by decide, rfl⟩)
  · exact .inr (.inr ⟨5, by decide, rfl⟩)
  · exact .inr (.inr ⟨6, by decide, rfl⟩)
  · exact .inr (.inr ⟨7, by decide, rfl⟩)
theorem rngs3_ok : (∀ r ∈ rngs3, IsB r ∧ r.length ≤ 3) ∧ rngs3.Nodup ∧ rngs3.length = 15 := by
  refine ⟨?_, by decide, rfl⟩
  have : ∀ r ∈ rngs3, (∀ c ∈ r, c = 48 ∨ c = 49) ∧ r.length ≤ 3 := by decide
  exact this
theorem est_snoc {H : Hp} {t : Addr} {e : Row} (ht : H t = some (.tup [.str (T e.1), e.2])) : ∀ {us : List V} {es : List Row}, EsT H us es → EsT H (us ++ [.ref t]) (es ++ [e])
  | _, _, .nil => .cons ht .nil
  | _, _, .cons h t' => .cons h (est_snoc ht t')
/-- ways drawn for some of the ranges -/
structure SeI (i : Nat) (es : List Row) : Prop where
  sub : (es.map (·.1)).Sublist (rngs3.take i)
  nx : ∀ e ∈ es, NxV e.2
section
variable {P : Program} {w : World} {K : PySem.W.Frag} {mg : Str → Option Value} {base : Heap} {f : Addr} {fd : FuncData}
/-! _law_small_entries -/
def spSE : Sp := fun vs H Q _ => ∃ (G : Hp) (p g c : Addr), vs = [.ref p] ∧ Pq G H p g c ∧ ∀ G' H' L us es, Gq p g c G H G' H' → G' L = some (.lst us) → EsT G' us es → EsOk es 15 → (∀ e ∈ es, e.1.length ≤ 3) → Q (.ref L) H'
abbrev sSE : Stmt := top 34
abbrev nSE : List Str := ["_law_pool_here", "_law_ranges", "_law_all_nexts", "_law_nexts", "_law_share", "_law_row", "_law_bits", "_law_there", "_law_k"]
theorem scSE : FnScope nSE ["_law_pool_here"] (defScope sSE) := ⟨rfl, rfl, rfl, by decide +kernel, rfl, by decide +kernel, by decide +kernel⟩
theorem ok_se (B : Bl mg) (C : Cal P w K mg base "_law_draw" ["_law_pool_here", "_law_many"] 1 spDrw) (F : FnP K "_law_small_entries" sSE f fd) : FnOk P w K mg base CX0 2 f fd ["_law_pool_here"] spSE := by
  refine F.ok scSE (fun vs H Q E h => ?_) (fun cdv A outer s H vs Q E hr h => ?_)
  · obtain ⟨G, p, g, c, rfl, _⟩ := h
    rfl
  · obtain ⟨G, p, g, c, rfl, hP, k⟩ := h
    have r1 : Room 1 _ := hr
    refine ⟨_, pss_cons (ps_set (i := 1) scSE.nd rfl (Or.inl rfl) (pe_lst (pa_cons pe_str (pa_cons pe_str (pa_cons pe_str (pa_cons pe_str (pa_cons pe_str (pa_cons pe_str (pa_cons pe_str (pa_cons pe_str (pa_cons pe_str (pa_cons pe_str (pa_cons pe_str (pa_cons pe_str (pa_cons pe_str (pa_cons pe_str (pa_cons pe_str pa_nil)))))))))))))))))
      (pss_cons (ps_set (i := 2) scSE.nd rfl (Or.inr rfl) (pe_lst (pa_cons pe_str (pa_cons pe_str (pa_cons pe_int (pa_cons pe_int (pa_cons pe_int (pa_cons pe_int (pa_cons pe_int (pa_cons pe_int (pa_cons pe_int (pa_cons pe_int pa_nil))))))))))))
      (pss_cons (ps_setLc (i := 3) (own := [("_law_k", 8)]) (g := gName 8) (tt := tYes) rfl scSE.nd rfl rfl (sw_true rfl rfl rfl (by decide +kernel)) (pi_range1 (by rfl) B.range (pa_cons pe_int pa_nil)) (blkOk_by (N := nSE) (sc := defScope sSE) (by decide +kernel))
          (fun _ _ _ _ _ => pg_name (i := 8) scSE.nd rfl (Or.inl rfl)) (fun _ _ _ _ _ => pts_nil) (fun _ _ _ _ _ => pe_ix (ix_listK (K := K) rfl) (pv 2) (pe_cal C r1 (by rfl) (pa_cons (pv 0) (pa_cons pe_int pa_nil))) (fun _ _ => rfl)))
      (pss_cons (ps_set (i := 4) scSE.nd rfl (Or.inl rfl) (pe_op op_add pe_int (pe_cal C r1 (by rfl) (pa_cons (pv 0) (pa_cons pe_int pa_nil)))))
      (pss_cons (ps_set (i := 5) scSE.nd rfl (Or.inl rfl) (pe_lst pa_nil))
      (pss_cons (ps_for (passes_of rfl) rfl (pi_list (pv 1)) (pg_name (i := 6) scSE.nd rfl (Or.inl rfl))
        (pss_cons (ps_set (i := 7) scSE.nd rfl (Or.inl rfl) (pe_ix (ix_listK (K := K) rfl) (pv 3) (pe_cal C r1 (by rfl) (pa_cons (pv 0) (pa_cons pe_int pa_nil))) (fun _ _ => rfl)))
        (pss_one (ps_if (pt_cmpR op_lt (pe_cal C r1 (by rfl) (pa_cons (pv 0) (pa_cons pe_int pa_nil))) (pv 4) (nomark _))
          (pss_one (ps_expr (pe_bm PySem.F.plainAttrs_list PySem.F.slot_list_append PySem.F.type_list_append mt_append (pv 5) (pa_cons (pe_tup (pa_cons (pv 6) (pa_cons (pv 7) pa_nil))) pa_nil)))) pss_nil))))
      (pss_one (ps_ret (pv 5)))))))), ?_⟩
    obtain ⟨hrng, hrnd, hrl⟩ := rngs3_ok
    refine q_asgG ⟨by show 15 ≤ sizeLine; decide, fun R hR => ?_⟩
    have e1 : ([V.str "", .str "0", .str "1", .str "00", .str "01", .str "10", .str "11", .str "000", .str "001", .str "010", .str "011", .str "100", .str "101", .str "110", .str "111"] : List V) = rngs3.map fun l => V.str (T l) := by decide +kernel
    refine g_name ?_
    change tSeq _ _ _ [some (.ref p), some (.ref R), none, none, none, none, none, none, none] (upd H R (.lst ([V.str "", .str "0", .str "1", .str "00", .str "01", .str "10", .str "11", .str "000", .str "001", .str "010", .str "011", .str "100", .str "101", .str "110", .str "111"] : List V)))
    rw [e1]
    have g1 := Gq.new (o := .lst (rngs3.map fun l => V.str (T l))) hP hR
    have hR1 : (upd G R (.lst (rngs3.map fun l => V.str (T l)))) R = some (.lst (rngs3.map fun l => V.str (T l))) := upd_same
    generalize upd G R (.lst (rngs3.map fun l => V.str (T l))) = G1 at *
    generalize upd H R (.lst (rngs3.map fun l => V.str (T l))) = H1 at *
    refine q_asgG ⟨by show 10 ≤ sizeLine; decide, fun N hN => ?_⟩
    refine g_name ?_
    change tSeq _ _ _ [some (.ref p), some (.ref R), some (.ref N), none, none, none, none, none, none] (upd H1 N (.lst allN))
    have g2 := g1.trans (Gq.new (o := .lst allN) g1.pl hN)
    have gN1 := fresh_back g1.pl.ex hN
    have hN2 : (upd G1 N (.lst allN)) N = some (.lst allN) := upd_same
    have hR2 := (Ex.new (o := .lst allN) gN1) _ _ hR1
    generalize upd G1 N (.lst allN) = G2 at *
    generalize upd H1 N (.lst allN) = H2 at *
    refine q_asgG (ep_lcR (Y := NxV) (M := 3) (N := 3) g2.pl (ep_ev (ev_c (v := .int 3)) ⟨3, rfl, Nat.le_refl _, Nat.le_refl _⟩) (by decide) (fun x => rfl) (fun G' i eG' H' hP' Q' k' => ?_) fun H3 M us hM g3 hu1 hu2 hus => ?_)
    · refine ⟨.ref N, rfl, ep_drw (g := g) (c := c) (G := G') (z := 10) rfl ev_c (by decide) (by decide) H' hP' _ fun H4 v g4 hv => ?_⟩
      obtain ⟨j, rfl, hj0, hj1⟩ := hv
      obtain ⟨jn, rfl⟩ : ∃ jn : Nat, j = (jn : Int) := ⟨j.toNat, by omega⟩
      have hjn : jn < allN.length := by show jn < 10; omega
      exact ⟨N, allN, (jn : Int), allN[jn], rfl, rfl, sq_of (g4.pl.ex _ _ (eG' _ _ hN2)), atI_nat (List.getElem?_eq_getElem hjn), k' H4 _ g4 (allN_nx _ (List.getElem_mem hjn))⟩
    have gM := fresh_back g2.pl.ex hM
    have hM3 : (upd G2 M (.lst us)) M = some (.lst us) := upd_same
    have hR3 := (Ex.new (o := .lst us) gM) _ _ hR2
    have g23 := g2.trans g3
    generalize upd G2 M (.lst us) = G3 at *
    refine g_name ?_
    change tSeq _ _ _ [some (.ref p), some (.ref R), some (.ref N), some (.ref M), none, none, none, none, none] H3
    refine q_asgG (ep_drw (g := g) (c := c) (G := G3) (z := 4) rfl ev_c (by decide) (by decide) H3 g23.pl _ fun H4 v g4 hv => ?_)
    obtain ⟨sh, rfl, hs0, hs1⟩ := hv
    refine ⟨1, sh, rfl, rfl, ?_⟩
    have g24 := g23.trans g4
    refine g_name ?_
    change tSeq _ _ _ [some (.ref p), some (.ref R), some (.ref N), some (.ref M), some (.int (1 + sh)), none, none, none, none] H4
    refine q_asgG ⟨by show 0 ≤ sizeLine; decide, fun D hD => ?_⟩
    have gD := fresh_back g24.pl.ex hD
    refine g_name ?_
    change tSeq _ _ _ [some (.ref p), some (.ref R), some (.ref N), some (.ref M), some (.int (1 + sh)), some (.ref D), none, none, none] (upd H4 D (.lst []))
    have hP4 := g24.pl
    have np := hP4.np hD
    have ng := hP4.ng hD
    have keep : ∀ {Ga Ha Gb Hb : Hp} {o : HO}, Gq p g c Ga Ha Gb Hb → Ha D = some o → Hb D = some o := fun gq h => gq.off D _ np ng h
    have hul : us.length = 3 := by omega
    refine q_forL (K := K) (ev_var (i := 1) rfl) (sq_of ((Ex.new hD) _ _ (hP4.ex _ _ hR3))) (fun i σ' H' => ∃ (Gi : Hp) (vs : List V) (es : List Row) (o6 o7 : Option V), σ' = [some (.ref p), some (.ref R), some (.ref N), some (.ref M), some (.int (1 + sh)), some (.ref D), o6, o7, none] ∧ Gq p g c G3 H4 Gi H' ∧ Gi D = none ∧ H' D = some (.lst vs) ∧ EsT Gi vs es ∧ SeI i es ∧ es.length ≤ i)
      (fun H5 e5 => ⟨G3, [], [], _, _, rfl, Gq.ext hP4 ((Ex.new hD).trans e5), gD, e5 _ _ upd_same, .nil, ⟨by simp, fun e he => by cases he⟩, Nat.le_refl _⟩) (fun i σ' H' _ h => by
        obtain ⟨Gi, vs, es, o6, o7, _, hg, _⟩ := h
        exact sq_of (hg.pl.ex _ _ (hg.ex _ _ hR3))) ?_ ?_
    · rintro i x σ' H5 hx ⟨Gi, vs, es, o6, o7, rfl, hg, giD, hD5, hes, hI, hel⟩
      obtain ⟨r, hr1, rfl⟩ : ∃ r, rngs3[i]? = some r ∧ x = .str (T r) := by
        rw [List.getElem?_map] at hx
        cases hq : rngs3[i]? with
        | none => rw [hq] at hx; cases hx
        | some r => rw [hq] at hx; exact ⟨r, rfl, (Option.some.inj hx).symm⟩
      have hi15 : i < 15 := by have := (List.getElem?_eq_some_iff.mp hr1).1; omega
      refine g_name ?_
      change tSeq _ _ _ [some (.ref p), some (.ref R), some (.ref N), some (.ref M), some (.int (1 + sh)), some (.ref D), some (.str (T r)), o7, none] H5
      refine q_asgG ⟨.ref M, rfl, ep_drw (g := g) (c := c) (G := Gi) (z := 3) rfl ev_c (by decide) (by decide) H5 hg.pl _ fun H6 v g6 hv => ?_⟩
      obtain ⟨j, rfl, hj0, hj1⟩ := hv
      obtain ⟨jn, rfl⟩ : ∃ jn : Nat, j = (jn : Int) := ⟨j.toNat, by omega⟩
      have hjn : jn < us.length := by omega
      refine ⟨M, us, (jn : Int), us[jn], rfl, rfl, sq_of (g6.pl.ex _ _ (hg.ex _ _ hM3)), atI_nat (List.getElem?_eq_getElem hjn), ?_⟩
      have hyx := hus _ (List.getElem_mem hjn)
      generalize us[jn] = y at *
      refine g_name ?_
      change tIfS _ _ _ _ [some (.ref p), some (.ref R), some (.ref N), some (.ref M), some (.int (1 + sh)), some (.ref D), some (.str (T r)), some y, none] H6
      refine ep_drw (g := g) (c := c) (G := Gi) (z := 4) rfl ev_c (by decide) (by decide) H6 g6.pl _ fun H7 v g7 hv => ?_
      obtain ⟨q, rfl, hq0, hq1⟩ := hv
      refine ⟨.int (1 + sh), rfl, q, 1 + sh, rfl, rfl, _, rfl, ?_⟩
      dsimp only
      have hg7 := (hg.trans g6).trans g7
      have hD7 := keep g7 (keep g6 hD5)
      have htk : rngs3.take (i + 1) = rngs3.take i ++ [r] := take_snoc hr1
      by_cases cc : decide (q < 1 + sh) = true
      · rw [if_pos cc]
        refine ⟨.ref D, rfl, .inl ⟨rfl, _, sq_of hD7⟩, ?_⟩
        refine ⟨.str (T r), rfl, y, rfl, by show 2 ≤ sizeLine; decide, fun t ht => ?_⟩
        have hvl := hes.length
        have htD : t ≠ D := fun z => by rw [z, hD7] at ht; cases ht
        have g8 := hg7.trans (Gq.new (o := .tup [V.str (T r), y]) hg7.pl ht)
        have git := fresh_back hg7.pl.ex ht
        have e8 := Ex.new (o := .tup [V.str (T r), y]) git
        refine ⟨D, vs, .ref t, rfl, rfl, (Ex.new ht) _ _ hD7, by rw [sizeLine_eq]; omega, ?_⟩
        refine ⟨upd Gi t (.tup [V.str (T r), y]), vs ++ [.ref t], es ++ [(r, y)], _, _, rfl, Gq.mutD hD (by rw [upd_ne (Ne.symm htD)]; exact giD) np ng g8, by rw [upd_ne (Ne.symm htD)]; exact giD, upd_same, est_snoc (e := (r, y)) upd_same (hes.mono e8), ⟨?_, fun e he => ?_⟩, by rw [List.length_append]; show es.length + 1 ≤ _; omega⟩
        · rw [htk, List.map_append]
          exact hI.sub.append (List.Sublist.refl _)
        · rcases List.mem_append.mp he with z | z
          · exact hI.nx e z
          · rw [List.mem_singleton.mp z]; exact hyx
      · rw [if_neg cc]
        exact ⟨Gi, vs, es, _, _, rfl, hg7, giD, hD7, hes, ⟨by rw [htk]; exact hI.sub.trans (List.sublist_append_left _ _), hI.nx⟩, by omega⟩
    · rintro σ' H5 ⟨Gi, vs, es, o6, o7, rfl, hg, giD, hD5, hes, hI, hel⟩
      rw [List.length_map, hrl] at hel
      have hsub : (es.map (·.1)).Sublist rngs3 := by
        have z := hI.sub
        rw [List.length_map] at z
        rw [List.take_length] at z
        exact z
      have hmem : ∀ e ∈ es, e.1 ∈ rngs3 := fun e he => hsub.subset (List.mem_map.mpr ⟨e, he, rfl⟩)
      refine ⟨.ref D, rfl, k (upd Gi D (.lst vs)) H5 D vs es ((g24.trans (Gq.holdD hD giD np ng hD5 hg))) upd_same (hes.mono (Ex.new giD)) ⟨hsub.nodup hrnd, hel, fun e he => ⟨(hrng _ (hmem e he)).1, by have := (hrng _ (hmem e he)).2; omega, hI.nx e he⟩⟩ fun e he => (hrng _ (hmem e he)).2⟩
end
end Wk

set_option Elab.async false
set_option linter.all false
set_option maxRecDepth 100000
set_option maxHeartbeats 4000000
namespace Fw
variable {β : Type} [DecidableEq β]
theorem pt_none {m : List Nat → Option β} : ∀ (a b : List Nat) (c : β), (∀ t, m (b ++ t) = none) → pt m a b c = c
  | [], b, c, h => by
    have h0 := h []
    rw [List.append_nil] at h0
    unfold pt
    rw [h0]
    rfl
  | x :: a, b, c, h => by
    have h0 := h []
    rw [List.append_nil] at h0
    unfold pt
    rw [h0]
    exact pt_none a _ _ fun t => by rw [List.append_assoc]; exact h _
/-- where all that is told is short, the rest of an address says nothing -/
theorem pt_short {m : List Nat → Option β} : ∀ (a s b : List Nat) (c : β), (∀ r, a.length + b.length < r.length → m r = none) → pt m (a ++ s) b c = pt m a b c
  | [], [], b, c, h => rfl
  | [], x :: s, b, c, h => by
    show pt m (x :: s) b c = pt m [] b c
    unfold pt
    exact pt_none s _ _ fun t => h _ (by simp)
  | x :: a, s, b, c, h => by
    show pt m (x :: (a ++ s)) b c = pt m (x :: a) b c
    unfold pt
    exact pt_short a s _ _ fun r hr => h r (by rw [List.length_append] at hr; simp at hr ⊢; omega)
theorem least_cutN {F G : List Nat → β} {x0 : β} {xs : List β} {nx : List Nat → Option β} {N n k : Nat} {d : β} (hN : N = n + k) (h : NxOk nx x0 xs F N []) (hc : ∀ a, Bt a → a.length = n → G a ∈ x0 :: xs ∧ ∀ s, Bt s → s.length = k → F (a ++ s) = G a) {es : List (List Nat × β)} (hes : ∀ e ∈ es, e.2 ∈ x0 :: xs) (hp : ∀ a, Bt a → a.length = n → pt (vE es) a [] d = G a) : (fwE nx x0 xs N [] d).length ≤ es.length := by
  subst hN
  exact least_cut h hc hes hp
end Fw
namespace Wk
open PySem PySem.Spec PyProof.Rows L2 Evl
/-- the ten ways -/
abbrev ch0 : V := .str "here"
abbrev chs : List V := [.str "drop", .int 0, .int 1, .int 2, .int 3, .int 4, .int 5, .int 6, .int 7]
theorem nx_ch {v : V} (h : NxV v) : v ∈ ch0 :: chs := by
  rcases h with rfl | rfl | ⟨i, hi, rfl⟩
  · exact List.mem_cons_self
  · exact List.mem_cons_of_mem _ List.mem_cons_self
  · have : i = 0 ∨ i = 1 ∨ i = 2 ∨ i = 3 ∨ i = 4 ∨ i = 5 ∨ i = 6 ∨ i = 7 := by omega
    rcases this with rfl | rfl | rfl | rfl | rfl | rfl | rfl | rfl
    · exact .tail _ (.tail _ (.head _))
    · exact .tail _ (.tail _ (.tail _ (.head _)))
    · exact .tail _ (.tail _ (.tail _ (.tail _ (.head _))))
    · exact .tail _ (.tail _ (.tail _ (.tail _ (.tail _ (.head _)))))
    · exact .tail _ (.tail _ (.tail _ (.tail _ (.tail _ (.tail _ (.head _))))))
    · exact .tail _ (.tail _ (.tail _ (.tail _ (.tail _ (.tail _ (.tail _ (.head _)))))))
    · exact .tail _ (.tail _ (.tail _ (.tail _ (.tail _ (.tail _ (.tail _ (.tail _ (.head _))))))))
    · exact .tail _ (.tail _ (.tail _ (.tail _ (.tail _ (.tail _ (.tail _ (.tail _ (.tail _ (.head _)))))))))
/-- the parts' dict of a row -/
def nxE {m : Nat} (es : List Row) (hes : EsOk es m) : List Nat → Option V := Fw.vE (pls (pnt (.str "drop") es) fun _ hi => pnt_nx hes hi)
theorem nxE_ok {m : Nat} {es : List Row} (hes : EsOk es m) : Fw.NxOk (nxE es hes) ch0 chs (fun a => pnt (.str "drop") es (vl a)) 10 [] :=
  nxOk_prt (pls_prt fun _ hi => pnt_nx hes hi) (fun i hi => nx_ch (pnt_nx hes hi)) 10 [] (fun c hc => by cases hc) rfl fun r hr hne => absurd (List.prefix_nil.mp hr) hne
/-- what a row paints at an address -/
theorem pnt_addr {m : Nat} {es : List Row} (hes : EsOk es m) {a : List Nat} (ha : IsB a) (hl : a.length = 10) : pnt (.str "drop") es (vl a) = Fw.pt (Fw.vE es) a [] (.str "drop") := by
  have hv : vl a < 1024 := by
    have z := vl_lt a ha
    rw [hl] at z
    exact z
  have eb : bN 10 (vl a) = a := by
    have z := bN_vl a ha
    rw [hl] at z
    exact z
  rw [pnt_pt _ hes.nd (fun e he => ⟨(hes.it e he).1, (hes.it e he).2.1⟩) hv, eb]
theorem p8_addr {es : List Row} (nd : (es.map (·.1)).Nodup) (hb : ∀ e ∈ es, IsB e.1 ∧ e.1.length ≤ 3) {a : List Nat} (ha : IsB a) (hl : a.length = 3) : vl a < 8 ∧ p8 (.str "drop") es (vl a) = Fw.pt (Fw.vE es) a [] (.str "drop") := by
  have hv : vl a < 8 := by
    have z := vl_lt a ha
    rw [hl] at z
    exact z
  have eb : bN 3 (vl a) = a := by
    have z := bN_vl a ha
    rw [hl] at z
    exact z
  exact ⟨hv, by rw [p8_pt _ nd hb hv, eb]⟩
/-- no row over three bits that paints the eight places alike has fewer entries than the fewest -/
theorem min_small {m : Nat} {es : List Row} (hes : EsOk es m) (h3 : ∀ e ∈ es, e.1.length ≤ 3) {es' : List Row} (nd : (es'.map (·.1)).Nodup) (hb : ∀ e ∈ es', IsB e.1 ∧ e.1.length ≤ 3) (hx : ∀ e ∈ es', NxV e.2) (hp : ∀ i, i < 8 → p8 (.str "drop") es' i = p8 (.str "drop") es i) :
    (Fw.fwE (nxE es hes) ch0 chs 10 [] (.str "drop")).length ≤ es'.length := by
  have hb0 : ∀ e ∈ es, IsB e.1 ∧ e.1.length ≤ 3 := fun e he => ⟨(hes.it e he).1, h3 e he⟩
  have hlong : ∀ r : List Nat, 3 < r.length → Fw.vE es r = none := fun r hr => Fw.vE_none fun e he z => by
    have := h3 e he
    rw [z] at this
    omega
  have cut : ∀ a s : List Nat, IsB a → a.length = 3 → IsB s → s.length = 7 → pnt (.str "drop") es (vl (a ++ s)) = Fw.pt (Fw.vE es) a [] (.str "drop") := fun a s ha hla hs hls => by
    rw [pnt_addr hes (ha.app hs) (by rw [List.length_append]; omega)]
    exact Fw.pt_short a s [] _ fun r hr => hlong r (by simp at hr; omega)
  have h1 : ∀ a, Fw.Bt a → a.length = 3 → Fw.pt (Fw.vE es) a [] (.str "drop") ∈ ch0 :: chs ∧ ∀ s, Fw.Bt s → s.length = 7 → pnt (.str "drop") es (vl (a ++ s)) = Fw.pt (Fw.vE es) a [] (.str "drop") := fun a ha hl => ⟨by
    have z := cut a (List.replicate 7 48) ha hl (fun x hx => .inl (List.eq_of_mem_replicate hx)) (List.length_replicate ..)
    have hv : vl (a ++ List.replicate 7 48) < 1024 := by
      have q := vl_lt (a ++ List.replicate 7 48) (IsB.app ha fun x hx => .inl (List.eq_of_mem_replicate hx))
      rw [List.length_append, List.length_replicate, hl] at q
      exact q
    rw [← z]
    exact nx_ch (pnt_nx hes hv), fun s hs hls => cut a s ha hl hs hls⟩
  have h2 : ∀ a, Fw.Bt a → a.length = 3 → Fw.pt (Fw.vE es') a [] (.str "drop") = Fw.pt (Fw.vE es) a [] (.str "drop") := fun a ha hl => by
    obtain ⟨hv, e1⟩ := p8_addr nd hb ha hl
    rw [← e1, hp _ hv, (p8_addr hes.nd hb0 ha hl).2]
  have key : ∀ (N : Nat) (F : List Nat → V), N = 3 + 7 → Fw.NxOk (nxE es hes) ch0 chs F N [] → (∀ a, Fw.Bt a → a.length = 3 → Fw.pt (Fw.vE es) a [] (.str "drop") ∈ ch0 :: chs ∧ ∀ s, Fw.Bt s → s.length = 7 → F (a ++ s) = Fw.pt (Fw.vE es) a [] (.str "drop")) → (Fw.fwE (nxE es hes) ch0 chs N [] (.str "drop")).length ≤ es'.length :=
    fun N F hN hok hc => Fw.least_cutN (G := fun a => Fw.pt (Fw.vE es) a [] (.str "drop")) hN hok hc (fun e he => nx_ch (hx e he)) h2
  exact key 10 _ rfl (nxE_ok hes) h1
/-- the fewest of a row paint what the row paints, and are a row of right entries -/
theorem few_row {m : Nat} {es : List Row} (hes : EsOk es m) : EsOk (Fw.fwE (nxE es hes) ch0 chs 10 [] (.str "drop")) (Fw.fwE (nxE es hes) ch0 chs 10 [] (.str "drop")).length := by
  have hok := nxE_ok hes
  refine ⟨Fw.fw_nd hok, Nat.le_refl _, fun e he => ?_⟩
  obtain ⟨⟨s, e1, e2, e3⟩, e4⟩ := Fw.fw_pre 10 [] (.str "drop") hok e he
  rw [List.nil_append] at e1
  rw [e1]
  refine ⟨e2, e3, ?_⟩
  exact allN_nx _ e4
theorem few_pnt {m : Nat} {es : List Row} (hes : EsOk es m) {i : Nat} (hi : i < 1024) : pnt (.str "drop") (Fw.fwE (nxE es hes) ch0 chs 10 [] (.str "drop")) i = pnt (.str "drop") es i := by
  have hr := few_row hes
  rw [pnt_pt _ hr.nd (fun e he => ⟨(hr.it e he).1, (hr.it e he).2.1⟩) hi, Fw.fw_pt 10 [] (.str "drop") (nxE_ok hes) (bN 10 i) (bN_isB 10 i) (bN_len 10 i)]
  show pnt (.str "drop") es (vl ([] ++ bN 10 i)) = _
  rw [List.nil_append, vl_bN 10 i hi]
/-- and are not more than the row's own -/
theorem few_le {m : Nat} {es : List Row} (hes : EsOk es m) : (Fw.fwE (nxE es hes) ch0 chs 10 [] (.str "drop")).length ≤ es.length :=
  Fw.least (nxE_ok hes) (fun e he => nx_ch (hes.it e he).2.2) fun a ha hl => (pnt_addr hes ha hl).symm
end Wk

set_option Elab.async false
set_option linter.all false
set_option maxRecDepth 100000
set_option maxHeartbeats 4000000
/-! a lambda with parameters, made in a def, called by min(.., key=..) -/
namespace LmP
open PySem PySem.Spec PyProof.Rows L2 LamX NdefX
/-- the object at f is the lambda of the words F (its body is e) -/
abbrev lfd (F : NF) (e : Expr) (pm ctv : Value) : FuncData := PySem.W.kla_fn "<lambda>" F.qual F.params e F.scope F.cl pm (.ref F.c) ctv
def LmO (f : Addr) (F : NF) (e : Expr) : HO := .ext fun h => ∃ (od : Option Addr) (sl : Array (Option Value)) (pm ctv : Value), h.get? f = some (⟨.type "function", od, .func (lfd F e pm ctv), sl⟩ : Obj)
theorem lmO_ne {f : Addr} {F : NF} {e : Expr} (ps : Array Value) : LmO f F e ≠ .tbl ps := fun z => by
  unfold LmO at z
  cases z
theorem lmO_at {P : Program} {w : World} {H : Hp} {h : Heap} {f : Addr} {F : NF} {e : Expr} (hok : HOk P w H h) (z : H f = some (LmO f F e)) : ∃ (od : Option Addr) (sl : Array (Option Value)) (pm ctv : Value), h.get? f = some (⟨.type "function", od, .func (lfd F e pm ctv), sl⟩ : Obj) := by
  obtain ⟨z, _, _⟩ := hok f _ z
  exact z
section
variable {X : Cx} {pins : List (Addr × Obj)} {σ : L2.St} {H : Hp} {s : Shared}
theorem inv_lm {F : NF} {e : Expr} {o : Obj} {t' : Nat} {pm ctv : Value} (I : Inv X pins σ H s) (ho : o = { cls := .type "function", data := .func (lfd F e pm ctv) }) :
    Inv X pins σ (upd H s.heap.objs.size (LmO s.heap.objs.size F e)) { s with heap := s.heap.push o, toks := t' } := by
  subst ho
  refine I.laid (a := s.heap.objs.size) (fun b u e => Heap.get?_push_of_some _ e) (Nat.le_refl _) ?_
  have q : (s.heap.push ({ cls := .type "function", data := .func (lfd F e pm ctv) } : Obj)).get? s.heap.objs.size = some ({ cls := .type "function", data := .func (lfd F e pm ctv) } : Obj) := Heap.get?_push_size _ rfl
  exact ⟨⟨_, _, pm, ctv, q⟩, ⟨_, q⟩, fun h1 h2 ⟨od, sl, p, t, z⟩ st => ⟨od, sl, p, t, st _ z⟩⟩
/-- the words of a lambda in X -/
abbrev lmF (X : Cx) (params : Arguments) (scope : Scope) (c' : Addr) : NF := ⟨"<lambda>", X.env.qual ++ "<lambda>", params, [], scope, cloFrom X.env.cells scope.names [], c'⟩
/-- the lambda is made and known from then on -/
theorem lam_make3 {T : List (Addr × Str)} {c P : Addr} {params : Arguments} {body : Expr} {scope : Scope} {pos : Pos} {E : Value → Shared → Prop} {Q : Value → Shared → Prop} (I : Inv X pins σ H s) (TB : TabB X.base X.mg c P) (hcode : X.env.code = .ref c)
    (hm : (P, X.env.qual ++ "<lambda>") ∈ T) (hu : ∀ p ∈ T, p.1 = P → p.2 = X.env.qual ++ "<lambda>") (hT : Tabs T H) (hdef : defaultsOf params X.env = ([], [])) (hfree : ∀ y ∈ scope.names, y.2 = .free → ∃ c, X.env.cells.lookup y.1 = some c)
    (h : ∀ (f c' : Addr) (H1 : Hp) (s' : Shared), Inv X pins σ H1 s' → ExtN H H1 → (∀ b, H1 b = none → H b = none) → Tabs T H1 → H f = none → H1 f = some (LmO f (lmF X params scope c') body) → H1 c' = some (CodeO c' (X.env.qual ++ "<lambda>")) → Q (.ref f) s') :
    wpAny (model X.prog X.w) X.A (eval (.Lambda params body scope pos) X.env) Q E s := by
  obtain ⟨ps, hP, ht, ha⟩ := hT _ hm
  refine PySem.W.kla_eval hdef ?_
  have bP : s.heap.BuiltinsAt X.mg P := TB.bm.keeps I.bk
  have hP' : s.heap.get? P = some { cls := .none, data := .fields ps } := I.hok P _ hP
  cases hc : codeAmong pos ps.toList with
  | none =>
    refine PySem.W.kla_makeFunction (mg := X.mg) (c := c) (P := P) (ps := ps) (closure_ok hfree) I.ok.glob (I.mod.glob.keeps I.bk) hcode (TB.code.keeps I.bk) hP' ht hc TB.gP bP fun c' ctv h' tk hx hge hlt hrec htb => ?_
    obtain ⟨c2, oc, vs, t, e2, hoc, hd, hv⟩ := hrec
    cases e2
    have nC : H c' = none := I.hok.fresh hge
    have I1 := inv_table (t' := tk) (more := #[rawInt pos.line, rawInt pos.col, .ref c']) (h' := h') I hP (fun b o hb e => hx b o hb e) htb hge ⟨oc, vs, t, hoc, hd, hv⟩
    have hE : ExtN H (upd (upd H P (.tbl (ps ++ #[rawInt pos.line, rawInt pos.col, .ref c']))) c' (CodeO c' (X.env.qual ++ "<lambda>"))) := fun b o e n => by
      rw [upd_ne (ne_of_none e nC), upd_ne (fun z => n ps (Option.some.inj (e.symm.trans (by rw [z]; exact hP))))]
      exact e
    have eL : (ps ++ #[rawInt pos.line, rawInt pos.col, .ref c']).toList = ps.toList ++ [rawInt pos.line, rawInt pos.col, .ref c'] := by simp
    have T1 : Tabs T (upd (upd H P (.tbl (ps ++ #[rawInt pos.line, rawInt pos.col, .ref c']))) c' (CodeO c' (X.env.qual ++ "<lambda>"))) := fun p hp => by
      by_cases hb : p.1 = P
      · rw [hu p hp hb, hb]
        refine ⟨_, by rw [upd_ne (ne_of_none hP nC), upd_same], by rw [eL]; exact PySem.TriplesOk_snoc _ _ _ _ ht, fun p' cv hcv => ?_⟩
        rw [eL] at hcv
        rcases among_app _ ht hcv with z | z
        · obtain ⟨c0, e1, e2⟩ := ha p' cv z
          exact ⟨c0, e1, hE _ _ e2 codeO_ne⟩
        · exact ⟨c', z, upd_same⟩
      · obtain ⟨ps', a1, a2, a3⟩ := hT p hp
        refine ⟨ps', by rw [upd_ne (ne_of_none a1 nC), upd_ne hb]; exact a1, a2, fun p' cv hcv => ?_⟩
        obtain ⟨c0, e1, e2⟩ := a3 p' cv hcv
        exact ⟨c0, e1, hE _ _ e2 codeO_ne⟩
    have nF := I1.hok.fresh (Nat.le_refl _)
    have I2 := inv_lm (F := lmF X params scope c') (e := body) (t' := tk) (pm := (X.mg "__name__").getD .none) (ctv := ctv) I1 rfl
    refine h h'.objs.size c' _ _ I2 (fun b o e n => ?_) (fun b e => upd_none (upd_none (upd_none e))) (T1.ext fun b o e => ?_) (I.hok.fresh (Nat.le_trans hge (Nat.le_of_lt hlt))) upd_same ?_
    · have e1 := hE b o e n
      exact (upd_ne (ne_of_none e1 nF)).trans e1
    · exact (upd_ne (ne_of_none e nF)).trans e
    · exact (upd_ne (Nat.ne_of_lt hlt)).trans upd_same
  | some cv =>
    obtain ⟨c', e, hco⟩ := ha pos cv hc
    subst e
    refine PySem.W.kla_makeFunctionHit (mg := X.mg) (c := c) (P := P) (ps := ps) (closure_ok hfree) I.ok.glob (I.mod.glob.keeps I.bk) hcode (TB.code.keeps I.bk) hP' ht hc bP fun ctv h' tk hx hsz => ?_
    have I1 : Inv X pins σ H { s with heap := h', toks := tk } := I.kept hx
    have nF : H h'.objs.size = none := I1.hok.fresh (Nat.le_refl _)
    have I2 := inv_lm (F := lmF X params scope c') (e := body) (t' := tk) (pm := (X.mg "__name__").getD .none) (ctv := ctv) I1 rfl
    refine h h'.objs.size c' _ _ I2 (fun b o e n => ?_) (fun b e => upd_none e) (hT.ext fun b o e => ?_) nF upd_same ?_
    · exact (upd_ne (ne_of_none e nF)).trans e
    · exact (upd_ne (ne_of_none e nF)).trans e
    · exact (upd_ne (ne_of_none hco nF)).trans hco
end
/-! ### what it promises -/
/-- the promise of the lambda F at f: sp ws, ws what its captured cells hold at the call -/
structure LOk (P : Program) (w : World) (K : PySem.W.Frag) (mg : Str → Option Value) (base : Heap) (CX : CXT) (k : Nat) (f : Addr) (F : NF) (e : Expr) (ps fr : List Str) (sp : List (Option V) → Sp) : Prop where
  len : ∀ ws vs H Q E, sp ws vs H Q E → vs.length = ps.length
  run : ∀ (A : Around) (outer : List Env) (s : Shared) (H : Hp) (us : List Value) (vs : List V) (ws : List (Option V)) (Q : VK) (E : XK), Room k A → Env0 P w K mg base A outer s H → H f = some (LmO f F e) → H F.c = some (CodeO F.c F.qual) →
    CellsAt F.cl fr ws s.heap H → Vals vs us → sp ws vs H Q E → codeAny (model P w) A (.call (.ref f) ⟨us, []⟩) (CR CX outer P w H s Q E) s
section
variable {CX : CXT} {P : Program} {w : World} {K : PySem.W.Frag} {mg : Str → Option Value} {base : Heap} {N ps fr : List Str} {F : NF} {e : Expr} {f : Addr} {k : Nat} {sp : List (Option V) → Sp}
theorem lok_of (S : NScope N ps fr F.scope) (hb : ∀ (pm ctv : Value) (us : List Value), us.length = ps.length → bindArgs (lfd F e pm ctv) ⟨us, []⟩ = pure (ps.zip us)) (len : ∀ ws vs H Q E, sp ws vs H Q E → vs.length = ps.length)
    (hbody : ∀ (A : Around) (outer : List Env) (s : Shared) (H : Hp) (vs : List V) (ws : List (Option V)) (Q : VK) (E : XK), Room k (A.deeper (envF F f s.heap.objs.size)) → H f = some (LmO f F e) → H F.c = some (CodeO F.c F.qual) → ws.length = fr.length → sp ws vs H Q E →
      ∃ t, PE (ncx CX P w K mg base N F f A outer s H E) e t ∧ t (startF N vs ws) H Q) :
    LOk P w K mg base CX (k + 1) f F e ps fr sp := by
  refine ⟨len, fun A outer s H us vs ws Q E hr e0 hf hc C r hsp => ?_⟩
  have hl := len _ _ _ _ _ hsp
  have lim : s.heap.NoLimit := e0.mod.nolimit.keeps fun b o e => (e0.bs b o e).1
  obtain ⟨od, sl, pm, ctv, ho⟩ := lmO_at e0.hok hf
  refine PySem.W.kla_callFunE hr.depth ho rfl S.co S.gen rfl (codeO_at e0.hok hc) ?_
  rw [hb pm ctv us (by rw [← r.length]; exact hl)]
  refine wpAny_pure (wpAny_newFunctionEnv S.nocell (fun ⟨n, _⟩ hy => S.par n (List.of_mem_zip hy).1) (fun h₁ hns hsb => ⟨lim.fresh _ hsb, ?_⟩) S.kind)
  show codeAny _ _ (.expr e (envF F f s.heap.objs.size)) _ _
  have kp : ∀ b o, s.heap.get? b = some o → h₁.get? b = some o := fun b o e => hsb.extBut b o (Nat.ne_of_lt (Heap.lt_size e)) (Heap.get?_push_of_some _ e)
  obtain ⟨t, ht, hq⟩ := hbody A outer s H vs ws Q E (hr.deeper _) hf hc C.len hsp
  have I : Inv (ncx CX P w K mg base N F f A outer s H E) [] (startF N vs ws) H { s with heap := h₁, toks := s.toks + (ps.zip us).length } := inv_startN S hr.hd e0 hl r C hns kp
  refine PySem.W.kla_codeExpr (wpAny_mono (ht.run [] _ (startF N vs ws) H Q I hq) (fun v s' hs => ?_) fun e s' hs => hs)
  obtain ⟨v', H', J, rv, q⟩ := hs
  exact ⟨v', H', J.os, J.bare, J.base, J.hok, rv, q⟩
end
end LmP

set_option Elab.async false
set_option linter.all false
set_option maxRecDepth 100000
set_option maxHeartbeats 4000000
namespace LmP
open PySem PySem.Spec PyProof.Rows L2 LamX NdefX
/-- a lambda, as a value -/
def tLamV (T : List (Addr × Str)) (q : Str) (mk : Addr → NF) (e : Expr) : TE := fun σ H Q => Tabs T H ∧ ∀ (f c' : Addr) (H1 : Hp), ExtN H H1 → (∀ b, H1 b = none → H b = none) → Tabs T H1 → H f = none → H1 f = some (LmO f (mk c') e) → H1 c' = some (CodeO c' q) → Q (.ref f) H1
/-- what min(xs, key=f) asks of the list and the lambda -/
def rMinK (q : Str) (mk : Addr → NF) (e : Expr) (js : List Nat) (sp : Addr → Addr → List (Option V) → Sp) (σ : L2.St) (vs zs : List V) (H : Hp) (Q : VK) : Prop :=
  ∃ (l f c' : Addr) (x0 : V) (xs : List V) (g : V → Nat), vs = [.ref l] ∧ zs = [.ref f] ∧ H l = some (.lst (x0 :: xs)) ∧ H f = some (LmO f (mk c') e) ∧ H c' = some (CodeO c' q) ∧ (mk c').c = c' ∧ (mk c').qual = q ∧
    (∀ x ∈ x0 :: xs, ∀ (H3 : Hp) (Q' : VK), (∀ b o, b ≠ l → H b = some o → H3 b = some o) → Q' (.int ((g x : Nat) : Int)) H3 → sp f c' (js.map (slotAt σ)) [x] H3 Q' E0) ∧ Q (Fw.bst g x0 xs) H
theorem bst_fold (g : V → Nat) : ∀ (xs : List V) (x : V), Fw.bst g x xs = xs.foldl (fun a y => if decide (g y < g a) = true then y else a) x
  | [], x => rfl
  | y :: ys, x => by
    unfold Fw.bst
    rw [List.foldl_cons, bst_fold g ys y, bst_fold g ys x]
    by_cases h : g y < g x
    · rw [if_pos h, if_pos (decide_eq_true h)]
    · rw [if_neg h, if_neg (by simpa using h)]
section
variable {X : Cx} {pins : List (Addr × Obj)} {σ : L2.St} {H : Hp} {s : Shared}
theorem no_frame (I : Inv X pins σ H s) {f : Addr} (hf : s.heap.objs.size ≤ f) : f ∉ frs X.stack := fun z => by
  rcases List.mem_cons.mp (I.stkSub _ z) with e | e
  · have h1 := I.lt
    rw [← e] at h1
    exact Nat.lt_irrefl _ (Nat.lt_of_lt_of_le h1 hf)
  · exact I.nofs hf e
theorem pe_lam {T : List (Addr × Str)} {c P : Addr} {params : Arguments} {body : Expr} {scope : Scope} {pos : Pos} (TB : TabB X.base X.mg c P) (hcode : X.env.code = .ref c)
    (hm : (P, X.env.qual ++ "<lambda>") ∈ T) (hu : ∀ p ∈ T, p.1 = P → p.2 = X.env.qual ++ "<lambda>") (hdef : defaultsOf params X.env = ([], [])) (hfree : ∀ y ∈ scope.names, y.2 = .free → X.env.scope.names.lookup y.1 = some .cell ∨ X.env.scope.names.lookup y.1 = some .free) :
    PE X (.Lambda params body scope pos) (tLamV T (X.env.qual ++ "<lambda>") (lmF X params scope) body) := by
  refine ⟨fun pins s σ H Q I h => ?_⟩
  obtain ⟨hT, h⟩ := h
  have hfr : ∀ y ∈ scope.names, y.2 = .free → ∃ c, X.env.cells.lookup y.1 = some c := fun y hy e => (hfree y hy e).elim (fun z => I.ok.has _ (.inl z)) fun z => I.ok.has _ (.inr z)
  exact lam_make3 I TB hcode hm hu hT hdef hfr fun f c' H1 s' I1 eN nn T1 f0 f1 c1 => ⟨.ref f, H1, I1, rfl, h f c' H1 eN nn T1 f0 f1 c1⟩
/-- the walk of min(xs, key=f) -/
theorem min_run {q : Str} {mk : Addr → NF} {e : Expr} {ps fr : List Str} {js : List Nat} {cl : List (Str × Addr)} {k : Nat} {sp : Addr → Addr → List (Option V) → Sp} {us ws : List Value} {vs zs : List V} {Q : VK} (Fn : ∀ f c', LOk X.prog X.w X.K X.mg X.base CX0 k f (mk c') e ps fr (sp f c')) (hcl : ∀ c', (mk c').cl = cl) (cp : Caps X cl fr js) (hr : Room (k + 1) X.A)
    (I : Inv X pins σ H s) (r1 : Vals vs us) (r2 : Vals zs ws) (h : rMinK q mk e js sp σ vs zs H Q) : wpAny (model X.prog X.w) X.A (call (.builtin "min") us ([Str.ofString "key"].zip ws)) (EP X pins σ Q) X.xe s := by
  obtain ⟨l, f, c', x0, xs, g, rfl, rfl, hl, hf, hc, hmc, hmq, hg, hq⟩ := h
  rw [Vals.ref1 r1, Vals.ref1 r2]
  show wpAny _ _ (call (.builtin "min") [.ref l] [(Str.ofString "key", .ref f)]) _ _ _
  obtain ⟨od, I3⟩ := I.lock hl True.intro
  have hod := I3.hok l _ upd_same
  obtain ⟨hget, hz, its, n, rv, e0⟩ := hod
  rw [hget] at e0
  cases e0
  generalize hod : ({ cls := .type "list", data := .seq its.toArray n } : Obj) = od at I3 hget
  have hHL : ∀ b o, b ≠ l → H b = some o → upd H l (.frz od (.lst (x0 :: xs))) b = some o := fun b o nb hb => by rw [upd_ne nb]; exact hb
  have hLl : upd H l (.frz od (.lst (x0 :: xs))) l = some (.frz od (.lst (x0 :: xs))) := upd_same
  have back : upd (upd H l (.frz od (.lst (x0 :: xs)))) l (.lst (x0 :: xs)) = H := by
    rw [upd_upd]
    funext b
    by_cases c : b = l
    · rw [c, upd_same, hl]
    · rw [upd_ne c]
  have fl : f ≠ l := fun z => by
    rw [z, hl] at hf
    unfold LmO at hf
    cases hf
  have cl' : c' ≠ l := fun z => by
    rw [z, hl] at hc
    unfold CodeO at hc
    cases hc
  have hfL := hHL f _ fl hf
  have hcL := hHL c' _ cl' hc
  have hgL : ∀ x ∈ x0 :: xs, ∀ Q' : VK, Q' (.int ((g x : Nat) : Int)) (upd H l (.frz od (.lst (x0 :: xs)))) → sp f c' (js.map (slotAt σ)) [x] (upd H l (.frz od (.lst (x0 :: xs)))) Q' E0 := fun x hx Q' q' => hg x hx _ Q' hHL q'
  have nofr : ∀ o' u', X.H_0 l ≠ some (.frz o' u') := fun o' u' z => by
    have y := I.base.frzs l o' u' z
    rw [hl] at y
    cases y
  generalize upd H l (.frz od (.lst (x0 :: xs))) = HL at I3 hHL hLl back hfL hcL hgL
  have hlen := rv.length
  refine call_min_walkK ?_
  refine wpAny_pyIter_list (items := its.toArray) ⟨od, hget, by rw [← hod], n, by rw [← hod]⟩ ?_
  have hlt : l < s.heap.objs.size := Heap.lt_size hget
  have nit : l ≠ s.heap.objs.size := Nat.ne_of_lt hlt
  have I4 : Inv X pins σ HL { s with heap := s.heap.push { cls := .type "list_iterator", data := .fields #[.ref l, .int 0 0] } } := I3.kept (t' := s.toks) fun b u e => Heap.get?_push_of_some _ e
  have st0 : (s.heap.push { cls := .type "list_iterator", data := .fields #[.ref l, .int 0 0] }).IsListIter s.heap.objs.size l 0 ∧ (s.heap.push { cls := .type "list_iterator", data := .fields #[.ref l, .int 0 0] }).IsList l its.toArray :=
    ⟨⟨_, Heap.get?_push_size _ rfl, rfl, rfl⟩, ⟨od, Heap.get?_push_of_some _ hget, by rw [← hod], n, by rw [← hod]⟩⟩
  have hS : (s.heap.push { cls := .type "list_iterator", data := .fields #[.ref l, .int 0 0] } : Heap).objs.size = s.heap.objs.size + 1 := Heap.size_push _ _
  generalize hit : s.heap.objs.size = it at st0 nit hS hlt ⊢
  have nItL : HL it = none := I3.hok.fresh (Nat.le_of_eq hit)
  have nItF : it ∉ frs X.stack := no_frame I3 (Nat.le_of_eq hit)
  have fpI : FpOk X pins HL it := I3.fpOk (Nat.le_of_eq hit) nItL
  have nSL : HL (it + 1) = none := I3.hok.fresh (by omega)
  have nSF : (it + 1) ∉ frs X.stack := no_frame I3 (by omega)
  have fpS : FpOk X pins HL (it + 1) := I3.fpOk (by omega) nSL
  generalize (s.heap.push { cls := .type "list_iterator", data := .fields #[.ref l, .int 0 0] } : Heap) = h3 at I4 st0 hS ⊢
  have hh : X.A.in1.handled = none := hr.hd
  refine ⟨it, [it, l], [it], _, its.toArray.size, _, _, fun s' => Inv X pins σ HL s', fun i kk _ => ∃ t, kk = Value.int ((g ((x0 :: xs).getD i .non) : Nat) : Int) t, fun i j => decide (g ((x0 :: xs).getD i .non) < g ((x0 :: xs).getD j .non)), rfl,
    (Walks.list (A := X.A.in1) hh it l nit its.toArray).toS, st0, fun b hb => ?_, ?_, ?_, I4, fun v s' hv J => ?_⟩
  · show b < h3.objs.size
    rw [hS]
    rcases List.mem_cons.mp hb with rfl | hb
    · exact Nat.lt_succ_self _
    · rw [List.mem_singleton.mp hb]
      exact Nat.lt_succ_of_lt hlt
  · show 0 < its.toArray.size
    rw [List.size_toArray, ← hlen]
    simp
  · show KeyRun _ _ _ _ _ h3.objs.size _ _ _ _ _ _ _ _
    rw [hS]
    refine ⟨fun s1 s2 J m => ?_, fun i kk s1 s2 hv _ => hv, fun i v s1 o Q' E' hi hP J hst hSo hk => ?_, fun i j ki kj s1 Q' E' J hi hj hQ => ?_⟩
    · obtain ⟨h', g', d', t', o'⟩ := s2
      obtain ⟨m1, m2, m3, m4, m5⟩ := m
      have m2 : g' = s1.gens := m2
      have m3 : d' = s1.drawn := m3
      have m4 : o' = s1.os := m4
      subst m2 m3 m4
      exact J.turnedL m1 fun b hb => by
        rcases List.mem_cons.mp hb with rfl | hb
        · exact fpS
        · rw [List.mem_singleton.mp hb]
          exact fpI
    · have hi' : i < (x0 :: xs).length := by rw [hlen]; simpa using hi
      have hx : (x0 :: xs)[i]? = some ((x0 :: xs).getD i .non) := by
        rw [List.getD_eq_getElem?_getD, List.getElem?_eq_getElem hi']
        rfl
      have hmem : (x0 :: xs).getD i .non ∈ x0 :: xs := List.mem_of_getElem? hx
      obtain ⟨u, hu, rx⟩ := rv.get hx
      have hP : its.toArray[i]? = some v := hP
      rw [List.getElem?_toArray, hu] at hP
      have ev : u = v := Option.some.inj hP
      subst ev
      have e0 := J.env0.in1
      have hcc : HL (mk c').c = some (CodeO (mk c').c (mk c').qual) := by rw [hmc, hmq]; exact hcL
      refine wpAny_call (codeAny_mono ((Fn f c').run X.A.in1 X.stack s1 HL [u] [(x0 :: xs).getD i .non] (js.map (slotAt σ)) (fun v' H' => v' = .int ((g ((x0 :: xs).getD i .non) : Nat) : Int) ∧ H' = HL) E0 hr.in1 e0 hfL hcc
        (by rw [hcl c']; exact cells_of J cp) (.cons rx .nil) (hgL _ hmem _ ⟨rfl, rfl⟩)) fun r s2 hq2 => ?_)
      cases r with
      | error e => exact (show False from hq2).elim
      | ok flw =>
        cases flw with
        | ret u2 =>
          have hce : CE X.stack X.prog X.w HL s1 (fun v' H' => v' = .int ((g ((x0 :: xs).getD i .non) : Nat) : Int) ∧ H' = HL) u2 s2 := hq2
          obtain ⟨v2, H2, os, bare, un, hok, rv2, ev2, eH2⟩ := id hce
          obtain ⟨v3, H3, J3, rv3, ev3, eH3⟩ := J.after hce
          rw [eH3] at J3
          rw [ev3] at rv3
          rw [eH2] at un hok
          have k1 := fun b (nb : HL b = none) (nf : b ∉ frs X.stack) o ho => un.keep b o ho nb nf (by simp)
          have hst : s1.heap.IsListIter it l (i + 1) ∧ s1.heap.IsList l its.toArray := hst
          have hgl2 : s2.heap.get? l = some od := (hok l _ hLl).1
          refine hk u2 s2 J3 ⟨hst.1.at fun o ho => k1 it nItL nItF o ho, ⟨od, hgl2, by rw [← hod], n, by rw [← hod]⟩⟩ (k1 _ nSL nSF _ hSo) rv3 fun _ _ z => z
        | next => exact False.elim hq2
        | brk => exact False.elim hq2
        | cont => exact False.elim hq2
    · obtain ⟨t, rfl⟩ := hi
      obtain ⟨t2, rfl⟩ := hj
      refine wpAny_lt_int ?_
      have ed : decide ((((g ((x0 :: xs).getD i .non) : Nat) : Int)) < ((g ((x0 :: xs).getD j .non) : Nat) : Int)) = decide (g ((x0 :: xs).getD i .non) < g ((x0 :: xs).getD j .non)) := by
        simp
      rw [ed]
      exact hQ
  · have hv : its.toArray[argBest (fun i j => decide (g ((x0 :: xs).getD i .non) < g ((x0 :: xs).getD j .non))) (its.toArray.size - 1)]? = some v := hv
    have hn1 : its.toArray.size - 1 = xs.length := by
      rw [List.size_toArray, ← hlen]
      simp
    obtain ⟨f1, f2⟩ := PySem.W.argBest_fold (fun a b => decide (g a < g b)) V.non x0 xs xs.length (Nat.le_refl _)
    rw [hn1] at hv
    rw [List.take_of_length_le (Nat.le_refl _), ← bst_fold] at f2
    have hi' : argBest (fun i j => decide (g ((x0 :: xs).getD i .non) < g ((x0 :: xs).getD j .non))) xs.length < (x0 :: xs).length := Nat.lt_succ_of_le f1
    have hx : (x0 :: xs)[argBest (fun i j => decide (g ((x0 :: xs).getD i .non) < g ((x0 :: xs).getD j .non))) xs.length]? = some (Fw.bst g x0 xs) := by
      rw [← f2, List.getD_eq_getElem?_getD, List.getElem?_eq_getElem hi']
      rfl
    obtain ⟨u, hu, rx⟩ := rv.get hx
    rw [List.getElem?_toArray, hu] at hv
    have ev : u = v := Option.some.inj hv
    subst ev
    have J2 := J.unlock hLl nofr
    rw [back] at J2
    exact ⟨_, H, J2, rx, hq⟩
/-- min(xs, key=lambda ..) -/
def tMinK (q : Str) (mk : Addr → NF) (e : Expr) (js : List Nat) (sp : Addr → Addr → List (Option V) → Sp) (t tk : TA) : TE := fun σ H Q => t σ H fun vs H1 => tk σ H1 fun zs H2 => rMinK q mk e js sp σ vs zs H2 Q
theorem pe_minK {q : Str} {mk : Addr → NF} {e a : Expr} {es : List Expr} {kws : List Keyword} {ps fr : List Str} {js : List Nat} {cl : List (Str × Addr)} {k : Nat} {sp : Addr → Addr → List (Option V) → Sp} {t tk : TA} {p pos : Pos} (Fn : ∀ f c', LOk X.prog X.w X.K X.mg X.base CX0 k f (mk c') e ps fr (sp f c')) (hcl : ∀ c', (mk c').cl = cl) (cp : X.Ok → Caps X cl fr js) (hr : Room (k + 1) X.A)
    (hg : Gl X "min") (hm : X.mg "min" = none) (hv : bootBuiltins "min" = some (.builtin "min")) (ha : PA X (a :: es) t) (hk : PK X kws tk)
    (he : backTo pos (starEach (a :: es) X.env) = (false, eval a X.env) :: backTo pos (starEach es X.env) := by rfl) (hpl : (backTo pos (starEach (a :: es) X.env)).any (·.1) = false := by rfl)
    (hall : (backToKw pos (keywordEach kws X.env)).all (·.1.isSome) = true := by rfl) (hnone : (backToKw pos (keywordEach kws X.env)).any (·.1.isNone) = false := by rfl) (hks : (backToKw pos (keywordEach kws X.env)).filterMap (·.1) = [Str.ofString "key"] := by rfl) :
    PE X (.Call (.Name "min" p) (a :: es) kws pos) (tMinK q mk e js sp t tk) := by
  refine ⟨fun pins s σ H Q I h => ?_⟩
  refine wpAny_Call_Name_kw (ld_blt I hg hm hv ?_ (by decide) (by decide))
  refine PyProof.Rows.callWith_kw (thn (ha.run pos pins s σ H _ I h) fun us s1 ⟨vs, H1, I1, r1, q1⟩ => thn (hk.run pos pins s1 σ H1 _ I1 q1) fun ws s2 ⟨zs, H2, I2, r2, q2⟩ => ?_) he hpl hall hnone
  rw [hks]
  exact min_run Fn hcl (cp I2.ok) hr I2 r1 r2 q2
end
end LmP

set_option Elab.async false
set_option linter.all false
set_option maxRecDepth 100000
set_option maxHeartbeats 4000000
namespace Wk
open PySem PySem.Spec PyProof.Rows L2 Evl LamX
/-! ### what stays when only tables change -/
/-- tuples stay -/
def Tk (H H' : Hp) : Prop := ∀ b xs, H b = some (.tup xs) → H' b = some (.tup xs)
theorem Tk.ex {H H' : Hp} (e : Ex H H') : Tk H H' := fun b xs h => e b _ h
theorem Tk.trans {H H1 H2 : Hp} (a : Tk H H1) (b : Tk H1 H2) : Tk H H2 := fun c xs h => b c xs (a c xs h)
/-- all but the tables stay, nothing is gone -/
structure Xn (H H' : Hp) : Prop where
  ext : ExtN H H'
  back : ∀ b, H' b = none → H b = none
theorem Xn.refl (H : Hp) : Xn H H := ⟨ExtN.refl H, fun _ h => h⟩
theorem Xn.trans {H H1 H2 : Hp} (a : Xn H H1) (b : Xn H1 H2) : Xn H H2 := ⟨a.ext.trans b.ext, fun c h => a.back c (b.back c h)⟩
theorem Xn.ex {H H' : Hp} (e : Ex H H') : Xn H H' := ⟨ExtN.of e, fun b h => by
  cases q : H b with
  | none => rfl
  | some o => rw [e b o q] at h; cases h⟩
theorem Xn.tk {H H' : Hp} (e : Xn H H') : Tk H H' := fun b xs h => e.ext b _ h fun ps z => by cases z
theorem Xn.lst {H H' : Hp} (e : Xn H H') {b : Addr} {xs : List V} (h : H b = some (.lst xs)) : H' b = some (.lst xs) := e.ext b _ h fun ps z => by cases z
theorem Xn.dK {H H' : Hp} (e : Xn H H') {b : Addr} {xs : List (L2.Key × V)} (h : H b = some (.dK xs)) : H' b = some (.dK xs) := e.ext b _ h fun ps z => by cases z
theorem Xn.ins {H H' : Hp} (e : Xn H H') {b C dx : Addr} {fs : List (Str × V)} (h : H b = some (.ins C dx fs)) : H' b = some (.ins C dx fs) := e.ext b _ h fun ps z => by cases z
theorem EsT.tk {H H' : Hp} (x : Tk H H') : ∀ {us : List V} {es : List Row}, EsT H us es → EsT H' us es
  | _, _, .nil => .nil
  | _, _, .cons h t => .cons (x _ _ h) (t.tk x)
theorem EsT.app {H : Hp} : ∀ {us vs : List V} {es fs : List Row}, EsT H us es → EsT H vs fs → EsT H (us ++ vs) (es ++ fs)
  | _, _, _, _, .nil, k => k
  | _, _, _, _, .cons h t, k => .cons h (t.app k)
/-! ### entries in a tuple -/
def TupE (H : Hp) (a : Addr) (es : List Row) : Prop := ∃ us, H a = some (.tup us) ∧ EsT H us es
theorem TupE.tk {H H' : Hp} (x : Tk H H') {a : Addr} {es : List Row} (h : TupE H a es) : TupE H' a es := by
  obtain ⟨us, h1, h2⟩ := h
  exact ⟨us, x _ _ h1, h2.tk x⟩
/-! ### the dicts of the choices -/
def kOf : V → L2.Key
  | .str x => .inr x
  | .int i => .inl i
  | _ => .inl 0
theorem kV_kOf {c : V} (h : NxV c) : kV (kOf c) = c := by
  rcases h with rfl | rfl | ⟨i, _, rfl⟩ <;> rfl
theorem kOf_inj {c d : V} (h : NxV c) (k : NxV d) (e : kOf c = kOf d) : c = d := by rw [← kV_kOf h, ← kV_kOf k, e]
inductive FeK (H : Hp) (F : V → List Row) : List (L2.Key × V) → List V → Prop
  | nil : FeK H F [] []
  | cons {c : V} {a : Addr} {kvs : List (L2.Key × V)} {cs : List V} : TupE H a (F c) → FeK H F kvs cs → FeK H F ((kOf c, .ref a) :: kvs) (c :: cs)
section
variable {H H' : Hp} {F : V → List Row}
theorem FeK.tk (x : Tk H H') : ∀ {kvs : List (L2.Key × V)} {cs : List V}, FeK H F kvs cs → FeK H' F kvs cs
  | _, _, .nil => .nil
  | _, _, .cons h t => .cons (h.tk x) (t.tk x)
theorem FeK.len : ∀ {kvs : List (L2.Key × V)} {cs : List V}, FeK H F kvs cs → kvs.length = cs.length
  | _, _, .nil => rfl
  | _, _, .cons h t => by simp [t.len]
theorem FeK.snoc {c : V} {a : Addr} (h : TupE H a (F c)) : ∀ {kvs : List (L2.Key × V)} {cs : List V}, FeK H F kvs cs → FeK H F (kvs ++ [(kOf c, .ref a)]) (cs ++ [c])
  | _, _, .nil => .cons h .nil
  | _, _, .cons h2 t => .cons h2 (t.snoc h)
theorem FeK.none {c : V} (hc : NxV c) : ∀ {kvs : List (L2.Key × V)} {cs : List V}, FeK H F kvs cs → (∀ d ∈ cs, NxV d) → c ∉ cs → valV kvs (kOf c) = none
  | _, _, .nil, _, _ => rfl
  | _, _, .cons (c := d) h t, hn, hm => by
    rw [valV_neg fun z => hm (by rw [kOf_inj (hn d List.mem_cons_self) hc z]; exact List.mem_cons_self)]
    exact t.none hc (fun e he => hn e (List.mem_cons_of_mem _ he)) fun z => hm (List.mem_cons_of_mem _ z)
theorem FeK.get {c : V} (hc : NxV c) : ∀ {kvs : List (L2.Key × V)} {cs : List V}, FeK H F kvs cs → (∀ d ∈ cs, NxV d) → c ∈ cs → ∃ a, valV kvs (kOf c) = some (.ref a) ∧ TupE H a (F c)
  | _, _, .nil, _, hm => by cases hm
  | _, _, .cons (c := d) (a := a) h t, hn, hm => by
    by_cases e : d = c
    · rw [← e]
      exact ⟨a, valV_pos rfl, h⟩
    · rw [valV_neg fun z => e (kOf_inj (hn d List.mem_cons_self) hc z)]
      refine t.get hc (fun e he => hn e (List.mem_cons_of_mem _ he)) ?_
      rcases List.mem_cons.mp hm with z | z
      · exact absurd z.symm e
      · exact z
end
theorem allN_nd : allN.Nodup := by decide
theorem allN_len : allN.length = 10 := rfl
/-- a dict from each choice to a tuple of its entries -/
def FeD (H : Hp) (D : Addr) (F : V → List Row) : Prop := ∃ kvs, H D = some (.dK kvs) ∧ FeK H F kvs allN
theorem FeD.xn {H H' : Hp} {D : Addr} {F : V → List Row} (e : Xn H H') (h : FeD H D F) : FeD H' D F := by
  obtain ⟨kvs, h1, h2⟩ := h
  exact ⟨kvs, e.dK h1, h2.tk e.tk⟩
theorem FeD.mono {H H' : Hp} {D : Addr} {F : V → List Row} (e : Ex H H') (h : FeD H D F) : FeD H' D F := h.xn (Xn.ex e)
theorem FeD.get {H : Hp} {D : Addr} {F : V → List Row} (h : FeD H D F) {c : V} (hc : c ∈ allN) : ∃ a, (∀ H', Ex H H' → DGet H' D c (some (.ref a))) ∧ TupE H a (F c) := by
  obtain ⟨kvs, h1, h2⟩ := h
  have hn := allN_nx c hc
  obtain ⟨a, e, t⟩ := h2.get hn allN_nx hc
  exact ⟨a, fun H' e' => .inl ⟨kvs, kOf c, .inl (e' _ _ h1), (kV_kOf hn).symm, e.symm⟩, t⟩
/-! ### evaluations told by what their value is -/
def EvF (te : TE) (σ : L2.St) (H : Hp) (Y : V → Hp → Prop) : Prop := ∀ H1, Ex H H1 → ∀ Q : VK, (∀ v H2, Ex H1 H2 → Y v H2 → Q v H2) → te σ H1 Q
section
variable {σ : L2.St} {H : Hp} {Y : V → Hp → Prop} {te ta tb : TE} {t : TT}
theorem EvF.ev {v : V} (h : Ev te σ H v) (hy : ∀ H2, Ex H H2 → Y v H2) : EvF te σ H Y := fun H1 e Q q => h H1 e _ fun H2 e2 => q v H2 e2 (hy H2 (e.trans e2))
theorem EvF.ite {b : Bool} (h : EvT t σ H b) (h1 : b = true → EvF ta σ H Y) (h2 : b = false → EvF tb σ H Y) : EvF (tIf t ta tb) σ H Y := fun H1 e Q q => h H1 e _ fun H2 e2 => by
  cases b with
  | true =>
    rw [if_pos rfl]
    exact h1 rfl H2 (e.trans e2) Q fun v H3 e3 => q v H3 (e2.trans e3)
  | false =>
    rw [if_neg (by decide)]
    exact h2 rfl H2 (e.trans e2) Q fun v H3 e3 => q v H3 (e2.trans e3)
theorem EvF.s {xs : List V} (h : EvS te σ H xs) (hy : ∀ H2 p, Ex H H2 → H2 p = some (.tup xs) → Y (.ref p) H2) : EvF te σ H Y := fun H1 e Q q => h H1 e _ fun p H2 e2 hp => q _ H2 e2 (hy H2 p (e.trans e2) hp)
theorem EvF.mono {H0 : Hp} (e0 : Ex H0 H) (h : EvF te σ H0 Y) : EvF te σ H Y := fun H1 e Q q => h H1 (e0.trans e) Q q
end
/-- {onto: .. for onto in choices} -/
theorem dc_ch {K : PySem.W.Frag} {l : Addr} {F : V → List Row} {j : Nat} {vs : List Nat} {σ : L2.St} {H : Hp} {D : Addr} {Qd : Hp → Prop} {tv : TE} (hl : H l = some (.lst allN)) (hD : H D = none) (hw : ∀ x, wipe ((wipe σ vs).set j (some x)) vs = wipe σ vs) (hj : ∀ x, ((wipe σ vs).set j (some x))[j]? = some (some x))
    (hv : ∀ c ∈ allN, EvF tv ((wipe σ vs).set j (some c)) H fun v H2 => ∃ a, v = .ref a ∧ TupE H2 a (F c)) (hq : ∀ H', Ex H H' → FeD H' D F → Qd H') :
    ∃ W : Nat → Nat → Hp → Prop, (∃ m, W 0 m (upd H D (.dK []))) ∧ ∀ i m H, W i m H →
      ((Itl K l).stop i H ∧ Qd H) ∨ ((Itl K l).go i H ∧ ∃ Nx : Hp → Prop, (∀ H', Nx H' → ∃ m', m' < m ∧ W (i + 1) m' H') ∧ ∀ x H', (Itl K l).yld i H x H' → gName j x (wipe σ vs) H' fun σ2 H2 => wipe σ2 vs = wipe σ vs ∧ tYes σ2 H2 fun b H3 =>
        if b = true then tVar j σ2 H3 fun y H4 => tv σ2 H4 fun z H5 => ∃ kvs k, y = kV k ∧ H5 D = some (.dK kvs) ∧ kvs.length < sizeLine ∧ Nx (upd H5 D (.dK (putK kvs k z))) else Nx H3) := by
  have w : Walk (Itl K l) allN.length (fun H => SqL K H l allN) (YAt allN) := walk_list
  refine ⟨fun i m H' => m = allN.length - i ∧ i ≤ allN.length ∧ Ex H H' ∧ ∃ kvs, H' D = some (.dK kvs) ∧ FeK H' F kvs (allN.take i), ⟨allN.length, by simp, Nat.zero_le _, Ex.new hD, [], upd_same, .nil⟩, ?_⟩
  rintro i m H1 ⟨rfl, hi, e1, kvs, d1, f1⟩
  by_cases lt : i < allN.length
  · refine .inr ⟨w.goes i H1 lt (sq_of (e1 _ _ hl)), fun H' => Ex H H' ∧ ∃ kvs, H' D = some (.dK kvs) ∧ FeK H' F kvs (allN.take (i + 1)), fun H' p => ⟨allN.length - (i + 1), by omega, rfl, lt, p⟩, fun x H' y => ?_⟩
    obtain ⟨rfl, hx⟩ := w.yields i H1 x H' lt (sq_of (e1 _ _ hl)) y
    have hm : x ∈ allN := List.mem_of_getElem? hx
    refine ⟨hw x, ?_⟩
    refine et_yes H' (Ex.refl _) _ fun H3 e3 => ?_
    rw [if_pos rfl]
    refine ⟨x, hj x, hv x hm H3 (e1.trans e3) _ fun v H5 e5 hy => ?_⟩
    obtain ⟨a, rfl, ht⟩ := hy
    have e35 := e3.trans e5
    have f5 := f1.tk (Tk.ex e35)
    have d5 := e35 _ _ d1
    have nx := allN_nx x hm
    have hno : x ∉ allN.take i := fun z => by
      have nd := allN_nd
      have q : (allN.take (i + 1)).Nodup := List.Sublist.nodup (List.take_sublist _ _) nd
      rw [List.take_add_one, hx] at q
      have q2 := (List.nodup_append.mp q).2.2 x z x (by simp)
      exact q2 rfl
    have hvn := f5.none nx (fun d hd => allN_nx d (List.mem_of_mem_take hd)) hno
    refine ⟨kvs, kOf x, (kV_kOf nx).symm, d5, ?_, Ex.mut (e1.trans e35) hD, ?_⟩
    · rw [f1.len, List.length_take]
      exact sz_lt (by have := allN_len; omega)
    · rw [putK_new _ hvn]
      have tkD : Tk H5 (upd H5 D (.dK (kvs ++ [(kOf x, .ref a)]))) := fun b xs hb => by
        rw [upd_ne fun z => by rw [z, d5] at hb; cases hb]
        exact hb
      refine ⟨_, upd_same, ?_⟩
      rw [List.take_add_one, hx]
      exact (f5.tk tkD).snoc (ht.tk tkD)
  · have e : i = allN.length := by omega
    subst e
    rw [List.take_of_length_le (Nat.le_refl _)] at f1
    exact .inl ⟨w.stops H1 (sq_of (e1 _ _ hl)), hq H1 e1 ⟨kvs, d1, f1⟩⟩
end Wk

set_option Elab.async false
set_option linter.all false
set_option maxRecDepth 100000
set_option maxHeartbeats 4000000
namespace Wk
open PySem PySem.Spec PyProof.Rows L2 Evl LamX NdefX LmP
def kwVal : Stmt → Expr
  | .Assign _ (.Call _ _ (k :: _) _) _ => k.value
  | _ => .Name "" ⟨0, 0, 0, 0⟩
def lmP : Expr → Arguments
  | .Lambda a _ _ _ => a
  | _ => { posonlyargs := [], args := [], vararg := none, kwonlyargs := [], kw_defaults := [], kwarg := none, defaults := [] }
def lmB : Expr → Expr
  | .Lambda _ b _ _ => b
  | e => e
abbrev sFe : Stmt := top 29
abbrev nFe : List Str := ["nexts", "part", "choices", "low", "high", "best", "anew", "both", "onto"]
theorem scFe : FnScope nFe ["nexts", "part"] (defScope sFe) := ⟨rfl, rfl, rfl, by decide +kernel, rfl, by decide +kernel, by decide +kernel⟩
def lmS : Expr → Scope
  | .Lambda _ _ s _ => s
  | _ => defScope sFe
abbrev lamFe : Expr := kwVal ((defBody sFe).getD 5 (.Pass ⟨0, 0, 0, 0⟩))
theorem lam_is : lmB lamFe = lmB lamFe := rfl
/-- how many entries a choice has -/
def spLm : List (Option V) → Sp := fun ws vs H Q _ => ∃ (D : Addr) (G : V → List Row) (c : V), ws = [some (.ref D)] ∧ vs = [c] ∧ FeD H D G ∧ c ∈ allN ∧ Q (.int (((G c).length : Nat) : Int)) H
theorem EsT.lenE {H : Hp} : ∀ {us : List V} {es : List Row}, EsT H us es → us.length = es.length
  | _, _, .nil => rfl
  | _, _, .cons h t => by simp [t.lenE]
section
variable {P : Program} {w : World} {K : PySem.W.Frag} {mg : Str → Option Value} {base : Heap} {f : Addr}
theorem lok_fe (B : Bl mg) {q : Str} {cl : List (Str × Addr)} {c' : Addr} : LOk P w K mg base CX0 1 f ⟨"<lambda>", q, lmP lamFe, [], lmS lamFe, cl, c'⟩ (lmB lamFe) ["onto"] ["both"] spLm := by
  refine lok_of (N := ["onto", "both"]) (nscope_by (show nscB ["onto", "both"] ["onto"] ["both"] (lmS lamFe) = true by decide +kernel)) (fun pm ctv us hl => ?_) (fun ws vs H Q E h => ?_) (fun A outer s H vs ws Q E hr hf hc hl h => ?_)
  · obtain ⟨u, rfl⟩ : ∃ u, us = [u] := by
      cases us with
      | nil => cases hl
      | cons u us =>
        cases us with
        | nil => exact ⟨u, rfl⟩
        | cons v vs => cases hl
    rfl
  · obtain ⟨D, G, c, _, rfl, _⟩ := h
    rfl
  · obtain ⟨D, G, c, rfl, rfl, hD, hm, k⟩ := h
    have hu : (A.deeper (envF ⟨"<lambda>", q, lmP lamFe, [], lmS lamFe, cl, c'⟩ f s.heap.objs.size)).units + 1 < cLine := by have := hr.un; omega
    refine ⟨_, pe_callB call_len_seq (by rfl) B.len PySem.boot_len (pa_cons (pe_dget hu (pv 1) (pv 0) (fun _ _ => rfl)) pa_nil), ?_⟩
    obtain ⟨a, hg, us, ht, he⟩ := hD.get hm
    refine ⟨.ref D, rfl, c, rfl, D, .ref a, rfl, hg H (Ex.refl H), a, us, rfl, .inr (st_of ht), ?_⟩
    rw [he.lenE]
    exact k
end
end Wk

set_option Elab.async false
set_option linter.all false
set_option maxRecDepth 100000
set_option maxHeartbeats 4000000
namespace Fw
variable {β : Type} [DecidableEq β] (nx : List Nat → Option β) (x0 : β) (xs : List β)
theorem fwE_leaf {n : Nat} {b : List Nat} {v c : β} (h : nx b = some v) : fwE nx x0 xs n b c = if c = v then [] else [(b, v)] := by
  cases n with
  | zero => unfold fwE; rw [h]
  | succ n => unfold fwE; rw [h]
theorem nx_some {F : List Nat → β} {n : Nat} {b : List Nat} {v : β} {nx : List Nat → Option β} {x0 : β} {xs : List β} (h : NxOk nx x0 xs F n b) (e : nx b = some v) : v ∈ x0 :: xs := by
  cases n with
  | zero =>
    unfold NxOk at h
    rw [h.1] at e
    rw [← Option.some.inj e]
    exact h.2
  | succ n =>
    unfold NxOk at h
    rcases h with ⟨w, h1, h2, _⟩ | ⟨h1, _⟩
    · rw [h1] at e
      rw [← Option.some.inj e]
      exact h2
    · rw [h1] at e
      cases e
theorem nx_none {F : List Nat → β} {n : Nat} {b : List Nat} {nx : List Nat → Option β} {x0 : β} {xs : List β} (h : NxOk nx x0 xs F n b) (e : nx b = none) : ∃ m, n = m + 1 ∧ NxOk nx x0 xs F m (b ++ [48]) ∧ NxOk nx x0 xs F m (b ++ [49]) := by
  cases n with
  | zero =>
    unfold NxOk at h
    rw [h.1] at e
    cases e
  | succ n =>
    unfold NxOk at h
    rcases h with ⟨w, h1, _⟩ | ⟨_, h2, h3⟩
    · rw [h1] at e
      cases e
    · exact ⟨n, rfl, h2, h3⟩
def bothE (n : Nat) (b : List Nat) (k : β) : List (List Nat × β) := fwE nx x0 xs n (b ++ [48]) k ++ fwE nx x0 xs n (b ++ [49]) k
def bestE (n : Nat) (b : List Nat) : β := bst (fun k => (bothE nx x0 xs n b k).length) x0 xs
theorem fwE_node {n : Nat} {b : List Nat} {c : β} (h : nx b = none) : fwE nx x0 xs (n + 1) b c = if ((b, bestE nx x0 xs n b) :: bothE nx x0 xs n b (bestE nx x0 xs n b)).length < (bothE nx x0 xs n b c).length then (b, bestE nx x0 xs n b) :: bothE nx x0 xs n b (bestE nx x0 xs n b) else bothE nx x0 xs n b c := by
  unfold fwE
  rw [h]
  rfl
theorem fwE_pow : ∀ (n : Nat) (b : List Nat) (c : β), (fwE nx x0 xs n b c).length ≤ 2 ^ n
  | 0, b, c => by
    unfold fwE
    cases nx b with
    | none => exact Nat.zero_le _
    | some v => dsimp only; split <;> simp
  | n + 1, b, c => by
    have p : 0 < 2 ^ (n + 1) := Nat.pow_pos (by decide)
    have hb : ∀ k, (bothE nx x0 xs n b k).length ≤ 2 ^ (n + 1) := fun k => by
      have h0 := fwE_pow n (b ++ [48]) k
      have h1 := fwE_pow n (b ++ [49]) k
      unfold bothE
      rw [List.length_append, Nat.pow_succ]
      omega
    cases h : nx b with
    | some v =>
      rw [fwE_leaf nx x0 xs h]
      split
      · exact Nat.zero_le _
      · exact p
    | none =>
      rw [fwE_node nx x0 xs h]
      have := hb c
      split <;> omega
theorem bothE_pow (n : Nat) (b : List Nat) (k : β) : (bothE nx x0 xs n b k).length ≤ 2 ^ (n + 1) := by
  have h0 := fwE_pow nx x0 xs n (b ++ [48]) k
  have h1 := fwE_pow nx x0 xs n (b ++ [49]) k
  unfold bothE
  rw [List.length_append, Nat.pow_succ]
  omega
end Fw
namespace Wk
open PySem PySem.Spec PyProof.Rows L2 Evl LamX NdefX LmP
/-- a def's promise where its code object is known -/
theorem okC {P : Program} {w : World} {K : PySem.W.Frag} {mg : Str → Option Value} {base : Heap} {x qual : Str} {params : Arguments} {body : List Stmt} {scope : Scope} {dvs : List V} {kws : List (Str × V)} {f c : Addr} {fd : FuncData} {CX : CXT} {N ps : List Str} {k : Nat} {sp : Sp} (F : FunD K x qual params body scope dvs kws f fd) (hc : fd.code = .ref c) (S : FnScope N ps scope) (len : ∀ vs H Q E, sp vs H Q E → vs.length = ps.length)
    (hbody : ∀ (A : Around) (outer : List Env) (s : Shared) (H : Hp) (vs : List V) (Q : VK) (E : XK), Room k (A.deeper (envOfC qual scope s.heap.objs.size f (.ref c))) → sp vs H Q E →
      ∃ t, PSs (cxOf CX P w K mg base N qual scope f (.ref c) A outer s H E) body t ∧ t { nx := fun _ H' => Q .non H', rt := Q } (start N vs) H) : FnOk P w K mg base CX (k + 1) f fd ps sp := by
  obtain ⟨oc, od, dV, kV, doc, pm, an, cdv, ct, osl, rfl, lk, hcd, _, _⟩ := F.ex
  obtain rfl : cdv = .ref c := hc
  exact fn_of lk hcd S len fun A outer s H vs Q E hr hsp => hbody A outer s H vs Q E hr hsp
abbrev qLm : Str := "fewest_entries.<locals>.<lambda>"
abbrev TF (Pt : Addr) : List (Addr × Str) := [(Pt, qLm)]
abbrev fwV (ps : List Row) : Nat → List Nat → V → List Row := Fw.fwE (Fw.vE ps) ch0 chs
def spFe (Pt : Addr) (n : Nat) : Sp := fun vs H Q _ => ∃ (nd : Addr) (b : List Nat) (ps : List Row) (F : List Nat → V), vs = [.ref nd, .str (T b)] ∧ H nd = some (.dK (kvOf ps)) ∧ b.length + n = 10 ∧ Fw.NxOk (Fw.vE ps) ch0 chs F n b ∧ Tabs (TF Pt) H ∧
  ∀ H' D, Xn H H' → Tabs (TF Pt) H' → H D = none → FeD H' D (fwV ps n b) → Q (.ref D) H'
def spFex (Pt : Addr) : Nat → Sp
  | 0 => fun _ _ _ _ => False
  | n + 1 => spFe Pt n
theorem scal_nx {a b : V} (ha : NxV a) (hb : NxV b) : scal a b = true := by
  rcases ha with rfl | rfl | ⟨i, _, rfl⟩ <;> rcases hb with rfl | rfl | ⟨j, _, rfl⟩ <;> rfl
theorem ch_nx {v : V} (h : v ∈ ch0 :: chs) : NxV v := allN_nx v h
/-- d[c] where c is one of the choices -/
theorem es_fe {K : PySem.W.Frag} {σ : L2.St} {H : Hp} {D : Addr} {G : V → List Row} {c : V} {i j : Nat} (hD : FeD H D G) (hc : c ∈ allN) (hi : σ[i]? = some (some (.ref D))) (hj : σ[j]? = some (some c)) : ∃ us, EvS (tDGet (tVar i) (tVar j)) σ H us ∧ EsT H us (G c) := by
  obtain ⟨a, hg, us, ht, he⟩ := hD.get hc
  exact ⟨us, fun H1 e Q q => ⟨.ref D, hi, c, hj, D, .ref a, rfl, hg H1 e, q a H1 (Ex.refl H1) (e _ _ ht)⟩, he⟩
theorem call_lenKK {X : Cx} {K : PySem.W.Frag} (hK : X.K = K) : CallR X (.builtin "len") (rLenS K) := by
  subst hK
  exact call_len_seq
theorem op_catAK {X : Cx} {K : PySem.W.Frag} (hK : X.K = K) : OpR X (binaryOp .Add) (rCatA K) := by
  subst hK
  exact op_catA
theorem FeD.off {H H' : Hp} {D l : Addr} {G : V → List Row} {xs : List V} (h : FeD H D G) (hl : H l = some (.lst xs)) (hk : ∀ b o, b ≠ l → H b = some o → H' b = some o) : FeD H' D G := by
  obtain ⟨kvs, h1, h2⟩ := h
  exact ⟨kvs, hk _ _ (fun z => by rw [z, hl] at h1; cases h1) h1, h2.tk fun b xs hb => hk _ _ (fun z => by rw [z, hl] at hb; cases hb) hb⟩
theorem q_asgY {te : TE} {tz : TS} {D : Ends} {σ : L2.St} {H : Hp} {i : Nat} {Y : V → Hp → Prop} (h : EvF te σ H Y) (k : ∀ v H1, Ex H H1 → Y v H1 → tz D (σ.set i (some v)) H1) : tSeq (tAsg te (gName i)) tz D σ H := h H (Ex.refl H) _ k
theorem ev_lenU {K : PySem.W.Frag} {ta : TE} {σ : L2.St} {H : Hp} {xs : List V} (h : EvS ta σ H xs) : Ev (tCB (rLenS K) (tCons ta tNil)) σ H (.int (xs.length : Int)) := fun H1 e Q q => h H1 e _ fun p H2 e2 hp => ⟨p, xs, rfl, .inr (st_of hp), q H2 e2⟩
theorem tup_one {te : TE} {σ : L2.St} {H : Hp} {Q : VK} (h : te σ H fun x H1 => 1 ≤ sizeLine ∧ ∀ p, H1 p = none → Q (.ref p) (upd H1 p (.tup [x]))) : tTup (tCons te tNil) σ H Q := h
theorem op_tup1 {te tb : TE} {r : R2} {σ : L2.St} {H : Hp} {Q : VK} (h : te σ H fun x H1 => 1 ≤ sizeLine ∧ ∀ p, H1 p = none → tb σ (upd H1 p (.tup [x])) fun y H2 => r (.ref p) y H2 Q) : tOp r (tTup (tCons te tNil)) tb σ H Q := h
section
variable {P : Program} {w : World} {K : PySem.W.Frag} {mg : Str → Option Value} {base : Heap} {f : Addr} {fd : FuncData}
theorem fe_step {c Pt : Addr} {n : Nat} {t1 t2 t8 : Tok} (B : Bl mg) (hM1 : mg "HERE" = some (.str "here" t1)) (hM2 : mg "DROP" = some (.str "drop" t2)) (hM8 : mg "MOST_ROUTERS" = some (.int 8 t8)) (TB : TabB base mg c Pt) (C : Cal P w K mg base "fewest_entries" ["nexts", "part"] (n + 2) (spFex Pt n)) (F : FnP K "fewest_entries" sFe f fd) (hcd : fd.code = .ref c) :
    FnOk P w K mg base CX0 (n + 3) f fd ["nexts", "part"] (spFe Pt n) := by
  refine okC F hcd scFe (fun vs H Q E h => ?_) (fun A outer s H vs Q E hr h => ?_)
  · obtain ⟨nd, b, ps, Fm, rfl, _⟩ := h
    rfl
  · obtain ⟨nd, b, ps, Fm, rfl, hnd, hbn, hnx, hT, k⟩ := h
    have hu : (A.deeper (envOfC "fewest_entries" (defScope sFe) s.heap.objs.size f (.ref c))).units + 1 < cLine := by have := hr.un; omega
    refine ⟨_, pss_cons (ps_set (i := 2) scFe.nd rfl (Or.inl rfl) (pe_op op_cat (pe_lst (pa_cons (pe_glob (v := .str "here") (by rfl) hM1 ⟨_, rfl⟩) (pa_cons (pe_glob (v := .str "drop") (by rfl) hM2 ⟨_, rfl⟩) pa_nil))) (pe_listRg rfl (by rfl) B.list (prg_1 (by rfl) B.range (pe_glob (v := .int 8) (by rfl) hM8 ⟨_, rfl⟩)))))
      (pss_cons (ps_if (pt_cmp (pc_din hu (pv 1) (pv 0))) (pss_one (ps_ret (pe_dc (own := [("onto", 8)]) (g := gName 8) (tt := tYes) (tk := tVar 8) rfl scFe.nd (pi_listK (K := K) rfl (pv 2)) (blkOk_by (N := nFe) (sc := defScope sFe) (by decide +kernel))
          (fun _ _ _ _ _ => pg_name (i := 8) scFe.nd rfl (.inl rfl)) (fun _ _ _ _ _ => pts_nil) (fun _ _ _ _ _ => pv 8)
          (fun _ _ _ _ _ => pe_ifExp (pt_cmpR op_eq (pv 8) (pe_dget hu (pv 0) (pv 1) (fun _ _ => rfl)) (nomark _)) (pe_tup pa_nil) (pe_tup (pa_cons (pe_tup (pa_cons (pv 1) (pa_cons (pe_dget hu (pv 0) (pv 1) (fun _ _ => rfl)) pa_nil))) pa_nil)))))) pss_nil)
      (pss_cons (ps_set (i := 3) scFe.nd rfl (Or.inr rfl) (pe_cal C hr (by rfl) (pa_cons (pv 0) (pa_cons (pe_op op_add_str (pv 1) pe_str) pa_nil)) (Nat.le_refl _)))
      (pss_cons (ps_set (i := 4) scFe.nd rfl (Or.inr rfl) (pe_cal C hr (by rfl) (pa_cons (pv 0) (pa_cons (pe_op op_add_str (pv 1) pe_str) pa_nil)) (Nat.le_refl _)))
      (pss_cons (ps_set (i := 7) scFe.nd rfl (Or.inr rfl) (pe_dc (own := [("onto", 8)]) (g := gName 8) (tt := tYes) (tk := tVar 8) rfl scFe.nd (pi_listK (K := K) rfl (pv 2)) (blkOk_by (N := nFe) (sc := defScope sFe) (by decide +kernel))
          (fun _ _ _ _ _ => pg_name (i := 8) scFe.nd rfl (.inl rfl)) (fun _ _ _ _ _ => pts_nil) (fun _ _ _ _ _ => pv 8)
          (fun _ _ _ _ _ => pe_op (op_catAK (K := K) rfl) (pe_dget hu (pv 3) (pv 8) (fun _ _ => rfl)) (pe_dget hu (pv 4) (pv 8) (fun _ _ => rfl)))))
      (pss_cons (ps_set (i := 5) scFe.nd rfl (Or.inl rfl) (pe_minK (q := qLm) (mk := lmF (cxOf CX0 P w K mg base nFe "fewest_entries" (defScope sFe) f (.ref c) A outer s H E) (lmP lamFe) (lmS lamFe)) (e := lmB lamFe) (cl := cloFrom (cxOf CX0 P w K mg base nFe "fewest_entries" (defScope sFe) f (.ref c) A outer s H E).env.cells (lmS lamFe).names []) (js := [7]) (fr := ["both"]) (k := 1) (sp := fun _ _ => spLm) (fun f' c'' => lok_fe B) (fun _ => rfl) (fun ok => Caps.made (scope := lmS lamFe) ok (ndef_free (sc := defScope sFe) (nsc := lmS lamFe) (fr := ["both"]) (by decide +kernel)) (ndef_fr (sc := defScope sFe) (nsc := lmS lamFe) (fr := ["both"]) (by decide +kernel)) rfl) (hr.mono (by omega)) (by rfl) B.min PyProof.Rows.boot_min (pa_cons (pv 2) pa_nil)
          (pk_cons (pe_lam (T := TF Pt) (params := lmP lamFe) (scope := lmS lamFe) TB rfl (List.mem_singleton.mpr rfl) (fun p hp _ => by rw [List.mem_singleton.mp hp]; rfl) rfl (ndef_free (sc := defScope sFe) (nsc := lmS lamFe) (fr := ["both"]) (by decide +kernel))) pk_nil)))
      (pss_cons (ps_set (i := 6) scFe.nd rfl (Or.inr rfl) (pe_op (op_catAK (K := K) rfl) (pe_tup (pa_cons (pe_tup (pa_cons (pv 1) (pa_cons (pv 5) pa_nil))) pa_nil)) (pe_dget hu (pv 7) (pv 5) (fun _ _ => rfl))))
      (pss_one (ps_ret (pe_dc (own := [("onto", 8)]) (g := gName 8) (tt := tYes) (tk := tVar 8) rfl scFe.nd (pi_listK (K := K) rfl (pv 2)) (blkOk_by (N := nFe) (sc := defScope sFe) (by decide +kernel))
          (fun _ _ _ _ _ => pg_name (i := 8) scFe.nd rfl (.inl rfl)) (fun _ _ _ _ _ => pts_nil) (fun _ _ _ _ _ => pv 8)
          (fun _ _ _ _ _ => pe_ifExp (pt_cmpR op_lt (pe_callB (call_lenKK (K := K) rfl) (by rfl) B.len PySem.boot_len (pa_cons (pv 6) pa_nil)) (pe_callB (call_lenKK (K := K) rfl) (by rfl) B.len PySem.boot_len (pa_cons (pe_dget hu (pv 7) (pv 8) (fun _ _ => rfl)) pa_nil)) (nomark _)) (pv 6) (pe_dget hu (pv 7) (pv 8) (fun _ _ => rfl)))))))))))), ?_⟩
    have lit : (Str.ofString "0" = T [48]) ∧ (Str.ofString "1" = T [49]) := by decide +kernel
    have hxl : (defScope sFe).kind = .function := rfl
    refine q_asgW ⟨sz_of (by decide), fun p1 n1 => ?_⟩
    have h1 : (upd H p1 (.lst [V.str (Str.ofString "here"), V.str (Str.ofString "drop")])) p1 = some (.lst [V.str (Str.ofString "here"), V.str (Str.ofString "drop")]) := upd_same
    have e1 : Ex H (upd H p1 (.lst [V.str (Str.ofString "here"), V.str (Str.ofString "drop")])) := Ex.new n1
    generalize upd H p1 (.lst [V.str (Str.ofString "here"), V.str (Str.ofString "drop")]) = H1 at *
    refine ⟨8, rfl, RgOk.of_le (by decide) (by decide) (by decide) (by decide), fun p2 n2 => ?_⟩
    have h2 : (upd H1 p2 (.lst (rgV 0 8))) p2 = some (.lst (rgV 0 8)) := upd_same
    have e2 : Ex H1 (upd H1 p2 (.lst (rgV 0 8))) := Ex.new n2
    generalize upd H1 p2 (.lst (rgV 0 8)) = H2 at *
    have ea : [V.str (Str.ofString "here"), V.str (Str.ofString "drop")] ++ rgV 0 8 = allN := by decide +kernel
    refine ⟨p1, p2, _, _, rfl, rfl, e2 _ _ h1, h2, sz_of (by decide), fun l n3 => ?_⟩
    rw [ea]
    have hl3 : (upd H2 l (.lst allN)) l = some (.lst allN) := upd_same
    have e3 : Ex H2 (upd H2 l (.lst allN)) := Ex.new n3
    generalize upd H2 l (.lst allN) = H3 at *
    have e03 := (e1.trans e2).trans e3
    change tSeq _ _ _ [some (.ref nd), some (.str (T b)), some (.ref l), none, none, none, none, none, none] H3
    have hnd3 := e03 _ _ hnd
    have d1 : Ev (tDIn (tVar 1) (tVar 0)) [some (.ref nd), some (.str (T b)), some (.ref l), none, none, none, none, none, none] H3 (.bl (Fw.vE ps b).isSome) := fun H5 e5 Q5 q5 =>
      ⟨_, rfl, _, rfl, nd, _, rfl, .inl ⟨kvOf ps, .inr (T b), .inl (e5 _ _ hnd3), rfl, rfl⟩, by rw [kv_val]; exact q5 H5 (Ex.refl H5)⟩
    refine q_when (b := (Fw.vE ps b).isSome) (et_B d1) (fun hs H4 e4 => ?_) (fun hs H4 e4 => ?_)
    · obtain ⟨v, hv⟩ := Option.isSome_iff_exists.mp hs
      have hvn := ch_nx (Fw.nx_some hnx hv)
      have e04 := e03.trans e4
      have hl4 := e4 _ _ hl3
      have hnd4 := e4 _ _ hnd3
      refine ⟨.ref l, rfl, l, rfl, ⟨_, sq_of hl4⟩, fun D hD => dc_ch (K := K) (F := fwV ps n b) hl4 hD (fun _ => rfl) (fun _ => rfl) (fun c' hc' => ?_) fun H' e' hF => k H' D (Xn.ex (e04.trans e')) (hT.ext (e04.trans e')) (fresh_back e04 hD) hF⟩
      have g1 : Ev (tDGet (tVar 0) (tVar 1)) ((wipe [some (.ref nd), some (.str (T b)), some (.ref l), none, none, none, none, none, none] (List.map (fun x => x.2) [(Str.ofString "onto", 8)])).set 8 (some c')) H4 v := fun H6 e6 Q6 q6 =>
        ⟨_, rfl, _, rfl, nd, v, rfl, .inl ⟨kvOf ps, .inr (T b), .inl (e6 _ _ hnd4), rfl, by rw [kv_val]; exact hv.symm⟩, q6 H6 (Ex.refl H6)⟩
      have hlf := Fw.fwE_leaf (Fw.vE ps) ch0 chs (n := n) (c := c') hv
      refine EvF.ite (b := decide (c' = v)) (et_test (ev_op (r := rEq) (ev_var rfl) g1 (rv_eq (scal_nx (allN_nx c' hc') hvn)))) (fun h => ?_) (fun h => ?_)
      · rw [if_pos (of_decide_eq_true h)] at hlf
        exact EvF.s (es_tup ea_nil (by decide)) fun H2 p e hp => ⟨p, rfl, [], hp, by show EsT H2 [] (Fw.fwE (Fw.vE ps) ch0 chs n b c'); rw [hlf]; exact .nil⟩
      · rw [if_neg (of_decide_eq_false h)] at hlf
        intro H5 e5 Q5 q5
        have z9 : EvS (tTup (tCons (tVar 1) (tCons (tDGet (tVar 0) (tVar 1)) tNil))) ((wipe [some (.ref nd), some (.str (T b)), some (.ref l), none, none, none, none, none, none] (List.map (fun x => x.2) [(Str.ofString "onto", 8)])).set 8 (some c')) H4 [.str (T b), v] := es_tup (ea_cons (ev_var rfl) (ea_cons g1 ea_nil)) (by show 2 ≤ 100000; decide)
        refine tup_one (z9 H5 e5 _ fun p H6 e6 hp => ⟨sz_of (by decide), fun p7 n7 => ?_⟩)
        exact q5 _ _ (e6.trans (Ex.new n7)) ⟨p7, rfl, [.ref p], upd_same, by show EsT _ _ (Fw.fwE (Fw.vE ps) ch0 chs n b c'); rw [hlf]; exact .cons (Ex.new n7 _ _ hp) .nil⟩
    · have hv : Fw.vE ps b = none := by
        cases z : Fw.vE ps b with
        | none => rfl
        | some v => rw [z] at hs; cases hs
      obtain ⟨m, rfl, hx0, hx1⟩ := Fw.nx_none hnx hv
      have e04 := e03.trans e4
      have hl4 := e4 _ _ hl3
      have hnd4 := e4 _ _ hnd3
      have hp10 : (2 : Nat) ^ (m + 1) ≤ 1024 := Nat.pow_le_pow_right (by decide) (show m + 1 ≤ 10 by omega)
      refine q_asgW ⟨.ref nd, rfl, ?_⟩
      refine ev_addS (b := [48]) (ev_var rfl) (ev_is ev_c (congrArg V.str lit.1)) (by simp; omega) H4 (Ex.refl _) _ fun H5 e5 => ?_
      refine ⟨nd, b ++ [48], ps, Fm, rfl, e5 _ _ hnd4, by rw [List.length_append]; show b.length + 1 + m = 10; omega, hx0, hT.ext (e04.trans e5), fun H6 D6 x6 T6 n6 f6 => ?_⟩
      have x06 := (Xn.ex (e04.trans e5)).trans x6
      have hl6 := x6.lst (e5 _ _ hl4)
      have hnd6 := x06.dK hnd
      change tSeq _ _ _ [some (.ref nd), some (.str (T b)), some (.ref l), some (.ref D6), none, none, none, none, none] H6
      refine q_asgW ⟨.ref nd, rfl, ?_⟩
      refine ev_addS (b := [49]) (ev_var rfl) (ev_is ev_c (congrArg V.str lit.2)) (by simp; omega) H6 (Ex.refl _) _ fun H7 e7 => ?_
      refine ⟨nd, b ++ [49], ps, Fm, rfl, e7 _ _ hnd6, by rw [List.length_append]; show b.length + 1 + m = 10; omega, hx1, T6.ext e7, fun H8 D8 x8 T8 n8 f8 => ?_⟩
      have x68 := (Xn.ex e7).trans x8
      have x08 := x06.trans x68
      have hl8 := x68.lst hl6
      have f68 := f6.xn x68
      change tSeq _ _ _ [some (.ref nd), some (.str (T b)), some (.ref l), some (.ref D6), some (.ref D8), none, none, none, none] H8
      refine q_asgW ⟨.ref l, rfl, l, rfl, ⟨_, sq_of hl8⟩, fun D9 n9 => dc_ch (K := K) (F := Fw.bothE (Fw.vE ps) ch0 chs m b) hl8 n9 (fun _ => rfl) (fun _ => rfl) (fun c' hc' => ?_) fun H9 e9 f9 => ?_⟩
      · obtain ⟨us1, g1, z1⟩ := es_fe (K := K) (σ := (wipe [some (.ref nd), some (.str (T b)), some (.ref l), some (.ref D6), some (.ref D8), none, none, none, none] (List.map (fun x => x.2) [(Str.ofString "onto", 8)])).set 8 (some c')) (i := 3) (j := 8) f68 hc' rfl rfl
        obtain ⟨us2, g2, z2⟩ := es_fe (K := K) (σ := (wipe [some (.ref nd), some (.str (T b)), some (.ref l), some (.ref D6), some (.ref D8), none, none, none, none] (List.map (fun x => x.2) [(Str.ofString "onto", 8)])).set 8 (some c')) (i := 4) (j := 8) f8 hc' rfl rfl
        have l1 : (fwV ps m (b ++ [48]) c').length ≤ 2 ^ m := Fw.fwE_pow (Fw.vE ps) ch0 chs m (b ++ [48]) c'
        have l2 : (fwV ps m (b ++ [49]) c').length ≤ 2 ^ m := Fw.fwE_pow (Fw.vE ps) ch0 chs m (b ++ [49]) c'
        have q1 := z1.lenE
        have q2 := z2.lenE
        rw [Nat.pow_succ] at hp10
        exact EvF.s (es_cat g1 g2 (by omega)) fun H2 p e hp => ⟨p, rfl, us1 ++ us2, hp, (z1.mono e).app (z2.mono e)⟩
      have x09 := x08.trans (Xn.ex e9)
      have hl9 := e9 _ _ hl8
      have T9 := T8.ext e9
      change tSeq _ _ _ [some (.ref nd), some (.str (T b)), some (.ref l), some (.ref D6), some (.ref D8), none, none, some (.ref D9), none] H9
      refine q_asgW ⟨.ref l, rfl, T9, fun f' c'' H10 eN nn T10 f0 f1 c1 => ?_⟩
      have x910 : Xn H9 H10 := ⟨eN, nn⟩
      have f10 := f9.xn x910
      have hl10 := x910.lst hl9
      refine ⟨l, f', c'', ch0, chs, fun k => (Fw.bothE (Fw.vE ps) ch0 chs m b k).length, rfl, rfl, hl10, f1, c1, rfl, rfl, fun x hx H3 Q' hk q' => ⟨D9, Fw.bothE (Fw.vE ps) ch0 chs m b, x, rfl, rfl, f10.off hl10 hk, hx, q'⟩, ?_⟩
      have hbm : Fw.bestE (Fw.vE ps) ch0 chs m b ∈ allN := Fw.bst_mem _ chs ch0
      change tSeq _ _ _ [some (.ref nd), some (.str (T b)), some (.ref l), some (.ref D6), some (.ref D8), some (Fw.bestE (Fw.vE ps) ch0 chs m b), none, some (.ref D9), none] H10
      have hnode := fun c' => Fw.fwE_node (Fw.vE ps) ch0 chs (n := m) (c := c') hv
      have hbp := fun c' => Fw.bothE_pow (Fw.vE ps) ch0 chs m b c'
      generalize Fw.bestE (Fw.vE ps) ch0 chs m b = best at *
      generalize Fw.bothE (Fw.vE ps) ch0 chs m b = both at *
      have x010 := x09.trans x910
      refine q_asgY (Y := fun v H' => ∃ r, v = .ref r ∧ TupE H' r ((b, best) :: both best)) (fun H11 e11 Q11 q11 => ?_) fun v H12 e12 hy => ?_
      · have z9 : EvS (tTup (tCons (tVar 1) (tCons (tVar 5) tNil))) [some (.ref nd), some (.str (T b)), some (.ref l), some (.ref D6), some (.ref D8), some best, none, some (.ref D9), none] H10 [.str (T b), best] := es_tup (ea_cons (ev_var rfl) (ea_cons (ev_var rfl) ea_nil)) (by show 2 ≤ 100000; decide)
        refine op_tup1 (z9 H11 e11 _ fun p H12 e12 hp => ⟨sz_of (by decide), fun p13 n13 => ?_⟩)
        have h13 : (upd H12 p13 (.tup [.ref p])) p13 = some (.tup [.ref p]) := upd_same
        have e13 : Ex H12 (upd H12 p13 (.tup [.ref p])) := Ex.new n13
        generalize upd H12 p13 (.tup [.ref p]) = H13 at *
        obtain ⟨a, hg, us, ht, he⟩ := (f10.mono ((e11.trans e12).trans e13)).get hbm
        have hlen := he.lenE
        have hb2 := hbp best
        refine ⟨.ref D9, rfl, best, rfl, D9, .ref a, rfl, hg H13 (Ex.refl H13), p13, a, [.ref p], us, rfl, rfl, st_of h13, st_of ht, sz_of (by show 1 + us.length ≤ 100000; omega), (fun z => by cases z), fun _ hy => ?_, fun _ _ r hr => ?_⟩
        · rw [hy] at he
          refine q11 _ H13 (e12.trans e13) ⟨p13, rfl, [.ref p], h13, .cons (e13 _ _ hp) he⟩
        · exact q11 _ _ ((e12.trans e13).trans (Ex.new hr)) ⟨r, rfl, _, upd_same, .cons (Ex.new hr _ _ (e13 _ _ hp)) (he.mono (Ex.new hr))⟩
      · obtain ⟨r, rfl, rus, hr6, re⟩ := hy
        change tRet _ _ [some (.ref nd), some (.str (T b)), some (.ref l), some (.ref D6), some (.ref D8), some best, some (.ref r), some (.ref D9), none] H12
        have hl12 := e12 _ _ hl10
        have f12 := f10.mono e12
        have x012 := x010.trans (Xn.ex e12)
        refine ⟨.ref l, rfl, l, rfl, ⟨_, sq_of hl12⟩, fun D14 n14 => dc_ch (K := K) (F := fwV ps (m + 1) b) hl12 n14 (fun _ => rfl) (fun _ => rfl) (fun c' hc' => ?_) fun H14 e14 f14 => k H14 D14 (x012.trans (Xn.ex e14)) (T10.ext (e12.trans e14)) (x012.back _ n14) f14⟩
        obtain ⟨us, g1, z1⟩ := es_fe (K := K) (σ := (wipe [some (.ref nd), some (.str (T b)), some (.ref l), some (.ref D6), some (.ref D8), some best, some (.ref r), some (.ref D9), none] (List.map (fun x => x.2) [(Str.ofString "onto", 8)])).set 8 (some c')) (i := 7) (j := 8) f12 hc' rfl rfl
        have g6 : EvS (tVar 6) ((wipe [some (.ref nd), some (.str (T b)), some (.ref l), some (.ref D6), some (.ref D8), some best, some (.ref r), some (.ref D9), none] (List.map (fun x => x.2) [(Str.ofString "onto", 8)])).set 8 (some c')) H12 rus := es_var (ev_var rfl) hr6
        have q1 := z1.lenE
        have q6 := re.lenE
        have hc2 := hnode c'
        refine EvF.ite (b := decide ((rus.length : Int) < (us.length : Int))) (et_test (ev_op (r := rI0 fun i j => .bl (decide (i < j))) (ev_lenU g6) (ev_lenU g1) rv_I0)) (fun h => ?_) (fun h => ?_)
        · have h := of_decide_eq_true h
          rw [if_pos (by omega)] at hc2
          exact EvF.s g6 fun H2 p e hp => ⟨p, rfl, rus, hp, by show EsT H2 rus (Fw.fwE (Fw.vE ps) ch0 chs (m + 1) b c'); rw [hc2]; exact re.mono e⟩
        · have h := of_decide_eq_false h
          rw [if_neg (by omega)] at hc2
          exact EvF.s g1 fun H2 p e hp => ⟨p, rfl, us, hp, by show EsT H2 us (Fw.fwE (Fw.vE ps) ch0 chs (m + 1) b c'); rw [hc2]; exact z1.mono e⟩
theorem ok_fe {c Pt : Addr} {t1 t2 t8 : Tok} (B : Bl mg) (hM1 : mg "HERE" = some (.str "here" t1)) (hM2 : mg "DROP" = some (.str "drop" t2)) (hM8 : mg "MOST_ROUTERS" = some (.int 8 t8)) (TB : TabB base mg c Pt) (hg : mg "fewest_entries" = some (.ref f)) (hk : PySem.W.keepIn K (.ref f) = true) (hb : Binds K fd ["nexts", "part"] []) (F : FnP K "fewest_entries" sFe f fd) (hcd : fd.code = .ref c) : ∀ n, Cal P w K mg base "fewest_entries" ["nexts", "part"] (n + 2) (spFex Pt n)
  | 0 => ⟨f, fd, okC F hcd scFe (fun vs H Q E h => h.elim) (fun A outer s H vs Q E hr h => h.elim), hg, hk, hb⟩
  | n + 1 => ⟨f, fd, fe_step B hM1 hM2 hM8 TB (ok_fe B hM1 hM2 hM8 TB hg hk hb F hcd n) F hcd, hg, hk, hb⟩
end
end Wk

set_option Elab.async false
set_option linter.all false
set_option maxRecDepth 100000
set_option maxHeartbeats 4000000
namespace L2
open PySem PySem.Spec PyProof.Rows
section
variable {X : Cx}
/-- y = {k: v for ..}, y a local of a def -/
theorem ps_setDc {i : Nat} {y : Str} {py : Pos} {kx vx tg iter : Expr} {ifs : List Expr} {scope : Scope} {own : List (Str × Nat)} {pos spos : Pos} {wi : TI} {g : TG} {tt : TT} {tk tv : TE} (hc : X.calm = true) (hN : X.N.Nodup) (hy : X.N[i]? = some y) (hyl : X.env.scope.names.lookup y = some .local)
    (hsw : swapsWith (.DictComp kx vx [⟨tg, iter, ifs, 0⟩] scope pos) (some (.Name y py)) spos.line X.env = pure true) (hi : PI X tg iter wi) (ok : BlkOk X.N X.env.scope scope own)
    (hg : ∀ (s : Shared) (H : Hp) (C : Addr) (cl : List (Str × Addr)) (fp : List Addr), PG (X.blk s H scope (compEnvC scope cl C X.env) fp) tg g) (ht : ∀ (s : Shared) (H : Hp) (C : Addr) (cl : List (Str × Addr)) (fp : List Addr), PTs (X.blk s H scope (compEnvC scope cl C X.env) fp) ifs tt)
    (hk : ∀ (s : Shared) (H : Hp) (C : Addr) (cl : List (Str × Addr)) (fp : List Addr), PE (X.blk s H scope (compEnvC scope cl C X.env) fp) kx tk)
    (he : ∀ (s : Shared) (H : Hp) (C : Addr) (cl : List (Str × Addr)) (fp : List Addr), PE (X.blk s H scope (compEnvC scope cl C X.env) fp) vx tv) (hs : ∀ x, foldedSetIterable iter X.env x = pure x := by intro _; rfl) :
    PS X (.Assign [.Name y py] (.DictComp kx vx [⟨tg, iter, ifs, 0⟩] scope pos) spos) (tAsg (tDc wi g tt tk tv (own.map (·.2))) (gName i)) := by
  refine ⟨fun pins s σ H D I h => ?_⟩
  rw [exec_Assign_Name_used _ _ _ _ hsw]
  refine wpAny_bind (wpAny_standAt (wpAny_bind ?_))
  show wpAny _ X.A (do let _ ← comprehension (.DictComp kx vx [⟨tg, iter, ifs, 0⟩] scope pos) scope X.env (firstIterPos [⟨tg, iter, ifs, 0⟩] pos) newDict false (eval iter X.env) (some (assign (.Name y py) X.env))) _ _ s
  have h : tDc wi g tt tk tv (own.map (·.2)) σ H (fun x H1 => gName i x σ H1 D.nx) := h
  refine wpAny_bind (thn (dc_core (Qf := fun _ s' => SP X pins D .next s') hc hN I hi ok hg ht hk he hs h fun L C s' m H' I' q hn f => ?_) fun _ s' hq => wpAny_pure (wpAny_pure hq))
  show wpAny _ _ (assign (.Name y py) X.env (.ref L)) _ _ _
  refine wpAny_assign_Name (store_ok2 (v := V.ref L) I' hN hy (.inl hyl) rfl (fun s2 I2 ⟨a, sb, ha⟩ => ?_) (.inr hyl))
  obtain ⟨f0, f1, f2, f3, f4, f5⟩ := f
  have haC : C ≠ a := by
    rcases ha with z | z
    · rw [z]; exact f1
    · exact fun e => f4 y a z e.symm
  refine ⟨m, hn.sameBut sb haC, fun h3 sb3 => ?_⟩
  exact ⟨_, H', I2.turned (t' := s2.toks) (fun b o hb e => (sb3.2 b hb).trans e) f0 f1 f3 f4 f5, q⟩
theorem sw_trueD {kx vx : Expr} {gs : List Comprehension} {scope : Scope} {pos py : Pos} {y : Str} {l : Nat} {env : Env} (hk : env.scope.kind = .function) (hy : env.scope.names.lookup y = some .local) (hl : (py.line == pos.line) = true)
    (ha : (scope.names.any fun (n, k) => n == y && (k == .local || k == .cell)) = false) : swapsWith (.DictComp kx vx gs scope pos) (some (.Name y py)) l env = pure true := by
  have ky : env.kindOf y = some .local := hy
  have hb : env.blockKind = .function := by unfold Env.blockKind; rw [hk]; rfl
  unfold swapsWith
  simp only [hb, ky, ha, Expr.pos, hl]
  rfl
end
end L2
namespace Wk
open PySem PySem.Spec PyProof.Rows L2 Evl LamX NdefX LmP
/-- {k: v for k, v in rows} -/
theorem dc_rowsB {K : PySem.W.Frag} {J : It} {us : List V} {es : List Row} {Gd : Hp → Prop} {i1 i2 : Nat} {vs : List Nat} {σ : L2.St} {H : Hp} {D : Addr} {Qd : Hp → Prop} (w : Walk J us.length Gd (fun i H x H' => H' = H ∧ us[i]? = some x)) (hD : H D = none) (hus : EsT H us es) (nd : (es.map (·.1)).Nodup) (hn : us.length ≤ 2000)
    (hG : ∀ H', Ex H H' → Gd H') (hw : ∀ x y, wipe (((wipe σ vs).set i1 (some x)).set i2 (some y)) vs = wipe σ vs) (h1 : ∀ x y, (((wipe σ vs).set i1 (some x)).set i2 (some y))[i1]? = some (some x)) (h2 : ∀ x y, (((wipe σ vs).set i1 (some x)).set i2 (some y))[i2]? = some (some y))
    (hq : ∀ H', Ex H H' → H' D = some (.dK (kvOf es)) → Qd H') :
    ∃ W : Nat → Nat → Hp → Prop, (∃ m, W 0 m (upd H D (.dK []))) ∧ ∀ i m H, W i m H →
      (J.stop i H ∧ Qd H) ∨ (J.go i H ∧ ∃ Nx : Hp → Prop, (∀ H', Nx H' → ∃ m', m' < m ∧ W (i + 1) m' H') ∧ ∀ x H', J.yld i H x H' → gTup K 2 (gCons (gName i1) (gCons (gName i2) gNil)) x (wipe σ vs) H' fun σ2 H2 => wipe σ2 vs = wipe σ vs ∧ tYes σ2 H2 fun b H3 =>
        if b = true then tVar i1 σ2 H3 fun y H4 => tVar i2 σ2 H4 fun z H5 => ∃ kvs k, y = kV k ∧ H5 D = some (.dK kvs) ∧ kvs.length < sizeLine ∧ Nx (upd H5 D (.dK (putK kvs k z))) else Nx H3) := by
  refine ⟨fun i m H' => m = us.length - i ∧ i ≤ us.length ∧ Ex H H' ∧ H' D = some (.dK (kvOf (es.take i))), ⟨us.length, by simp, Nat.zero_le _, Ex.new hD, by rw [List.take_zero]; exact upd_same⟩, ?_⟩
  rintro i m H1 ⟨rfl, hi, e1, d1⟩
  by_cases lt : i < us.length
  · refine .inr ⟨w.goes i H1 lt (hG H1 e1), fun H' => Ex H H' ∧ H' D = some (.dK (kvOf (es.take (i + 1)))), fun H' p => ⟨us.length - (i + 1), by omega, rfl, lt, p⟩, fun x H' y => ?_⟩
    obtain ⟨rfl, hx⟩ := w.yields i H1 x H' lt (hG H1 e1) y
    obtain ⟨b, e, rfl, he, hb⟩ := hus.at_ hx
    refine ⟨b, _, rfl, st_of (e1 _ _ hb), rfl, g_two ⟨hw _ _, ?_⟩⟩
    refine et_yes H' (Ex.refl _) _ fun H3 e3 => ?_
    rw [if_pos rfl]
    refine ⟨_, h1 _ _, _, h2 _ _, kvOf (es.take i), .inr (T e.1), rfl, e3 _ _ d1, ?_, Ex.mut (e1.trans e3) hD, ?_⟩
    · rw [kv_len, List.length_take]
      exact sz_lt (by omega)
    · rw [upd_same, kv_put, putK_new e.2 (val_none (nd_at nd he)), take_snoc he]
  · have e : i = us.length := by omega
    subst e
    rw [List.take_of_length_le (by rw [hus.length]; omega)] at d1
    exact .inl ⟨w.stops H1 (hG H1 e1), hq H1 e1 d1⟩

theorem Tb.xn {CT : Addr} {H H' : Hp} {x : Addr} {es : List Row} (e : Xn H H') (h : Tb CT H x es) : Tb CT H' x es := by
  obtain ⟨dx, fs, te, nd, us', es', h1, h2, h3, h4, h5, h6, h7, h8⟩ := h
  exact ⟨dx, fs, te, nd, us', es', e.ins h1, h2, h3, h4, e.tk _ _ h5, h6.tk e.tk, h7, e.dK h8⟩
/-- the fewest entries of a row -/
abbrev few {m : Nat} (es : List Row) (hes : EsOk es m) : List Row := Fw.fwE (nxE es hes) ch0 chs 10 [] (.str "drop")
theorem few24 {m : Nat} {es : List Row} (hes : EsOk es m) (h : es.length ≤ 24) : EsOk (few es hes) 24 := by
  have a := few_row hes
  have b := few_le hes
  exact ⟨a.nd, Nat.le_trans b h, a.it⟩
section
variable {P : Program} {w : World} {K : PySem.W.Frag} {mg : Str → Option Value} {base : Heap} {f : Addr} {fd : FuncData} {CT : Addr}
def spFew (CT Pt : Addr) : Sp := fun vs H Q _ => ∃ (x : Addr) (es : List Row) (hes : EsOk es 24), vs = [.ref x] ∧ Tb CT H x es ∧ Tabs (TF Pt) H ∧ ∀ H' y, Xn H H' → Tabs (TF Pt) H' → H y = none → Tb CT H' y (few es hes) → Q (.ref y) H'
abbrev sFew : Stmt := top 28
abbrev nFew : List Str := ["table", "nexts", "part", "onto"]
theorem scFew : FnScope nFew ["table"] (defScope sFew) := ⟨rfl, rfl, rfl, by decide +kernel, rfl, by decide +kernel, by decide +kernel⟩
abbrev WF : L2.St → XK := fun _ _ _ _ => False
theorem ok_few {Pt : Addr} {t2 : Tok} (hM2 : mg "DROP" = some (.str "drop" t2)) (MT : MkT P w K mg base CT) (CP : Cal P w K mg base "parts" ["table"] 13 (spPar CT)) (CF : Cal P w K mg base "fewest_entries" ["nexts", "part"] 13 (spFex Pt 11)) (F : FnP K "fewest" sFew f fd) : FnOk P w K mg base CX0 14 f fd ["table"] (spFew CT Pt) := by
  obtain ⟨fI, fdI, mk, FI, bI⟩ := MT.ex
  refine F.ok scFew (fun vs H Q E h => ?_) (fun cdv A outer s H vs Q E hr h => ?_)
  · obtain ⟨x, es, hes, rfl, _⟩ := h
    rfl
  · obtain ⟨x, es, hes, rfl, hT, hTb, k⟩ := h
    have hu : (A.deeper (envOfC "fewest" (defScope sFew) s.heap.objs.size f cdv)).units + 1 < cLine := by have := hr.un; omega
    have r7 : Room 7 _ := hr.mono (by decide)
    refine ⟨_, pss_cons (ps_setDc (i := 1) (own := [("part", 2), ("onto", 3)]) (g := gTup K 2 (gCons (gName 2) (gCons (gName 3) gNil))) (tt := tYes) (tk := tVar 2) (tv := tVar 3) rfl scFew.nd rfl rfl (sw_trueD rfl rfl rfl (by decide +kernel)) (pi_listK (K := K) rfl (pe_cal CP hr (by rfl) (pa_cons (pv 0) pa_nil))) (blkOk_by (N := nFew) (sc := defScope sFew) (by decide +kernel))
        (fun _ _ _ _ _ => pg_tup rfl (pgs_cons (pg_name (i := 2) scFew.nd rfl (.inl rfl)) (pgs_cons (pg_name (i := 3) scFew.nd rfl (.inl rfl)) pgs_nil))) (fun _ _ _ _ _ => pts_nil) (fun _ _ _ _ _ => pv 2) (fun _ _ _ _ _ => pv 3))
      (pss_one (ps_ret (pe_mkAt (CX := CX0) (W := WF) mk FI r7 (by rfl) MT.g bI (fun _ _ _ _ _ _ _ h => h.elim) (pa_cons (pe_dget hu (pe_cal CF hr (by rfl) (pa_cons (pv 1) (pa_cons pe_str pa_nil)) (Nat.le_refl _)) (pe_glob (v := .str "drop") (by rfl) hM2 ⟨_, rfl⟩) (fun _ _ => rfl)) pa_nil)))), ?_⟩
    have lit : Str.ofString "" = T [] := by decide +kernel
    refine q_asgW ⟨.ref x, rfl, x, es, hes, rfl, hT, fun H1 D1 rs n1 e1 h1 hrs => ⟨D1, rfl, ⟨_, sq_of h1⟩, fun D hD => dc_rowsB (K := K) (walk_list (K := K) (a := D1) (xs := rs)) hD hrs (pls_prt fun _ hi => pnt_nx hes hi).nd (by rw [hrs.lenE]; exact Nat.le_trans (pls_len _) (by decide)) (fun H' e => sq_of (e _ _ h1)) (fun _ _ => rfl) (fun _ _ => rfl) (fun _ _ => rfl) fun H2 e2 h2 => ?_⟩⟩
    have e02 := e1.trans e2
    change tRet _ _ [some (.ref x), some (.ref D), none, none] H2
    refine ⟨.ref D, rfl, D, [], pls (pnt (.str "drop") es) fun _ hi => pnt_nx hes hi, _, by rw [← lit]; rfl, h2, rfl, nxE_ok hes, hTb.ext e02, fun H3 D3 x3 T3 n3 f3 => ?_⟩
    have hdr : V.str "drop" ∈ allN := .tail _ (.head _)
    obtain ⟨a, hg, ht⟩ := f3.get hdr
    obtain ⟨us, hus, hes3⟩ := ht
    refine ⟨D3, .ref a, rfl, hg H3 (Ex.refl H3), ?_⟩
    have x03 := (Xn.ex e02).trans x3
    exact mk_tab (us := us) (es := few es hes) (.inr hus) hes3 (few24 hes hes.len) fun y H4 e4 hy hT4 => k H4 y (x03.trans (Xn.ex e4)) (T3.ext e4) (x03.back _ hy) hT4
end
end Wk

set_option Elab.async false
set_option linter.all false
set_option maxRecDepth 100000
set_option maxHeartbeats 4000000
namespace Wk
open PySem PySem.Spec PyProof.Rows L2 Evl
theorem lay_nxs : ∀ {l : List V}, (∀ v ∈ l, NxV v) → PyData.canLayAll0 (l.map nxD) = true ∧ PyData.depthAll (l.map nxD) ≤ 1
  | [], _ => ⟨by simp [PyData.canLayAll0], by simp [PyData.depthAll]⟩
  | v :: l, h => by
    obtain ⟨h1, h2⟩ := lay_nxs (l := l) fun x hx => h x (List.mem_cons_of_mem _ hx)
    obtain ⟨l1, l2⟩ := lay_nx (h v List.mem_cons_self)
    refine ⟨?_, ?_⟩
    · rw [List.map_cons]
      simp [PyData.canLayAll0, l1, h1]
    · rw [List.map_cons]
      simp only [PyData.depthAll]
      omega
theorem dqa_nxs {H : Hp} : ∀ {l : List V}, (∀ v ∈ l, NxV v) → DqA H l (l.map nxD)
  | [], _ => .nil
  | v :: l, h => .cons (dq_nx (h v List.mem_cons_self)) (dqa_nxs fun x hx => h x (List.mem_cons_of_mem _ hx))
theorem eqvAll_nxs : ∀ {l m : List V}, (∀ v ∈ l, NxV v) → (∀ v ∈ m, NxV v) → PyData.eqvAll (l.map nxD) (m.map nxD) = decide (l = m)
  | [], [], _, _ => by simp [PyData.eqvAll]
  | [], b :: m, _, _ => by simp [PyData.eqvAll]
  | a :: l, [], _, _ => by simp [PyData.eqvAll]
  | a :: l, b :: m, ha, hb => by
    rw [List.map_cons, List.map_cons, PyData.eqvAll, nx_eqv (ha a List.mem_cons_self) (hb b List.mem_cons_self), eqvAll_nxs (fun y hy => ha y (List.mem_cons_of_mem _ hy)) fun y hy => hb y (List.mem_cons_of_mem _ hy)]
    by_cases h1 : a = b
    · by_cases h2 : l = m
      · rw [h1, h2]; simp
      · simp [h1, h2]
    · simp [h1]
section
variable {K : PySem.W.Frag} {H : Hp} {a : Addr} {l : List V}
theorem dl_nxs (hs : ∀ v ∈ l, NxV v) (h : H a = some (.lst l)) : Dp K H (.ref a) (.list (l.map nxD)) := Dq.dp (by simp only [PyData.canLay0]; exact (lay_nxs hs).1) (.lst h (dqa_nxs hs))
theorem sh_nxs (hs : ∀ v ∈ l, NxV v) : SeqAt.shaped (.list (l.map nxD)) = true := by
  obtain ⟨h1, h2⟩ := lay_nxs hs
  unfold SeqAt.shaped
  rw [Bool.and_eq_true]
  refine ⟨by simp only [PyData.canLay0]; exact h1, decide_eq_true ?_⟩
  simp only [PyData.depth]
  omega
end
/-- == of two lists of ways -/
theorem rv_eqNx {K : PySem.W.Frag} {H : Hp} {a b : Addr} {l m : List V} (hl : ∀ v ∈ l, NxV v) (hm : ∀ v ∈ m, NxV v) (ha : H a = some (.lst l)) (hb : H b = some (.lst m)) : RV (rEqD K) (.ref a) (.ref b) H (.bl (decide (l = m))) := fun H1 e Q q => by
  refine ⟨_, _, dl_nxs hl (e _ _ ha), dl_nxs hm (e _ _ hb), sh_nxs hl, sh_nxs hm, ?_⟩
  rw [PyData.eqv, eqvAll_nxs hl hm]
  exact q H1 (Ex.refl H1)
theorem gV_nx {F : Nat → V} (h : ∀ i, i < 8 → NxV (F i)) : ∀ v ∈ gV F, NxV v := fun v hv => by
  unfold gV at hv
  obtain ⟨i, hi, rfl⟩ := List.mem_map.mp hv
  exact h i (List.mem_range.mp hi)
theorem gV_eq {F G : Nat → V} (h : gV F = gV G) : ∀ i, i < 8 → F i = G i := fun i hi => by
  have z := congrArg (fun l : List V => l[i]?) h
  unfold gV at z
  simp only [List.getElem?_map, List.getElem?_range hi] at z
  exact Option.some.inj z
theorem gV_ix {F : Nat → V} {i : Nat} (hi : i < 8) : (gV F)[i]? = some (F i) := by
  unfold gV
  rw [List.getElem?_map, List.getElem?_range hi]
  rfl
theorem inV_str {z : Str} {xs : List V} (h : V.str z ∈ xs) : inV (.str z) xs = true := by
  unfold inV
  rw [List.any_eq_true]
  exact ⟨_, h, by simp [eqV]⟩
/-- the text of 0 or 1 -/
theorem ev_s01 {σ : L2.St} {H : Hp} {ta : TE} {z : Nat} (h : Ev ta σ H (.int (z : Int))) (hz : z < 2) : Ev (tCB (fun xs H Q => ∃ i : Int, xs = [.int i] ∧ i.natAbs.log2 < 1920 ∧ Q (.str (toString i)) H) (tCons ta tNil)) σ H (.str (T [48 + z])) := fun H1 e Q q => h H1 e _ fun H2 e2 => by
  have : z = 0 ∨ z = 1 := by omega
  rcases this with rfl | rfl
  · exact ⟨0, rfl, by decide, by rw [show (Str.ofString (toString (0 : Int))) = T [48 + 0] from t_zero]; exact q H2 e2⟩
  · exact ⟨1, rfl, by decide, by rw [show (Str.ofString (toString (1 : Int))) = T [48 + 1] from t_one]; exact q H2 e2⟩
theorem p8_nx {es : List Row} (h : ∀ e ∈ es, NxV e.2) (i : Nat) : NxV (p8 (.str "drop") es i) := by
  have h1 : ∀ (s : Nat) (l : List Row) (F : Nat → V), (∀ e ∈ l, NxV e.2) → (∀ i, NxV (F i)) → ∀ i, NxV (l.foldl (p81 s) F i) := fun s l => by
    induction l with
    | nil => exact fun F _ hF => hF
    | cons e t ih =>
      intro F hl hF
      refine ih _ (fun e' he => hl e' (List.mem_cons_of_mem _ he)) fun j => ?_
      unfold p81
      split
      · exact hl e List.mem_cons_self
      · exact hF j
  have h2 : ∀ n i, NxV (p8N (.str "drop") es n i) := fun n => by
    induction n with
    | zero => exact fun i => .inr (.inl rfl)
    | succ n ih => exact h1 n es _ h ih
  exact h2 4 i
theorem given_head {f : Nat → Bool} {n : Nat} (h : ∃ i, i < n ∧ f i = true) : ∃ i, i < n ∧ (given n f fun i => V.int (i : Int))[0]? = some (.int (i : Int)) := by
  obtain ⟨i, hi, hf⟩ := h
  have hm : i ∈ (List.range n).filter f := List.mem_filter.mpr ⟨List.mem_range.mpr hi, hf⟩
  unfold given
  cases hz : (List.range n).filter f with
  | nil => rw [hz] at hm; cases hm
  | cons j t =>
    have hj : j ∈ (List.range n).filter f := by rw [hz]; exact List.mem_cons_self
    exact ⟨j, List.mem_range.mp (List.mem_filter.mp hj).1, rfl⟩
theorem lst_one {te : TE} {σ : L2.St} {H : Hp} {Q : VK} (h : te σ H fun x H1 => 1 ≤ sizeLine ∧ ∀ p, H1 p = none → Q (.ref p) (upd H1 p (.lst [x]))) : tLst (tCons te tNil) σ H Q := h
theorem op_notin_seqK {X : Cx} {K : PySem.W.Frag} (hK : X.K = K) : OpR X (compareOp .NotIn) (rIn K true) := by
  subst hK
  exact op_notIn_seq
theorem ix_tupK {X : Cx} {K : PySem.W.Frag} (hK : X.K = K) : IxR X (rIxT K) := by
  subst hK
  exact ix_tup
section
variable {P : Program} {w : World} {K : PySem.W.Frag} {mg : Str → Option Value} {base : Heap} {f : Addr} {fd : FuncData}
/-- no row of at most three bits that paints F has fewer than N -/
def Mn3 (F : Nat → V) (N : Nat) : Prop := ∀ es : List Row, (es.map (·.1)).Nodup → (∀ e ∈ es, IsB e.1 ∧ e.1.length ≤ 3) → (∀ e ∈ es, NxV e.2) → (∀ i, i < 8 → p8 (.str "drop") es i = F i) → N ≤ es.length
def spPos (n : Nat) : Sp := fun vs H Q _ => ∃ (d c : Addr) (us : List V) (es : List Row) (F : Nat → V) (N : Nat) (left : Int), vs = [.ref d, .ref c, .int left] ∧ H d = some (.lst (gV F)) ∧ (∀ i, i < 8 → NxV (F i)) ∧ H c = some (.lst us) ∧ EsT H us es ∧
  (es.map (·.1)).Nodup ∧ (∀ e ∈ es, IsB e.1 ∧ e.1.length ≤ 3) ∧ (∀ e ∈ es, NxV e.2) ∧ Mn3 F N ∧ N ≤ 30 ∧ (es.length : Int) + left < N ∧ left < (n : Int) + 1 ∧ ∀ H', Ex H H' → Q (.bl false) H'
def spPosx : Nat → Sp
  | 0 => fun _ _ _ _ => False
  | n + 1 => spPos n
abbrev sPos : Stmt := top 36
abbrev nPos : List Str := ["_law_due", "_law_chosen", "_law_left", "_law_painted_here", "_law_known", "_law_place", "_law_sign_row", "_law_size", "_law_bits", "_law_item", "_law_k"]
theorem scPos : FnScope nPos ["_law_due", "_law_chosen", "_law_left"] (defScope sPos) := ⟨rfl, rfl, rfl, by decide +kernel, rfl, by decide +kernel, by decide +kernel⟩
theorem pos_step {n : Nat} (B : Bl mg) (C8 : Cal P w K mg base "_law_small_painted" ["_law_entries"] 1 spP8) (C : Cal P w K mg base "_law_possible" ["_law_due", "_law_chosen", "_law_left"] (n + 2) (spPosx n)) (F : FnP K "_law_possible" sPos f fd) : FnOk P w K mg base CX0 (n + 3) f fd ["_law_due", "_law_chosen", "_law_left"] (spPos n) := by
  refine F.ok scPos (fun vs H Q E h => ?_) (fun cdv A outer s H vs Q E hr h => ?_)
  · obtain ⟨d, c, us, es, Fm, N, left, rfl, _⟩ := h
    rfl
  · obtain ⟨d, c, us, es, Fm, N, left, rfl, hd, hF, hc, hus, nd, h3, hnx, hmn, hN, hlt, hln, k⟩ := h
    have hu : (A.deeper (envOfC "_law_possible" (defScope sPos) s.heap.objs.size f cdv)).units + 64 < cLine := by have := hr.un; omega
    refine ⟨_, pss_cons (ps_if (pt_cmpR op_lt (pv 2) pe_int (nomark _)) (pss_one (ps_ret pe_bl)) pss_nil)
      (pss_cons (ps_set (i := 3) scPos.nd rfl (Or.inr rfl) (pe_cal C8 (hr.mono (by omega : 1 ≤ n + 2)) (by rfl) (pa_cons (pv 1) pa_nil) (Nat.le_refl _)))
      (pss_cons (ps_if (pt_cmpR (op_eqD hu) (pv 3) (pv 0) (nomark _)) (pss_one (ps_ret pe_bl)) pss_nil)
      (pss_cons (ps_if (pt_cmpR op_lt (pv 2) pe_int (nomark _)) (pss_one (ps_ret pe_bl)) pss_nil)
      (pss_cons (ps_setLc (i := 4) (own := [("_law_item", 9)]) (g := gName 9) (tt := tYes) rfl scPos.nd rfl rfl (sw_true rfl rfl rfl (by decide +kernel)) (pi_listK (K := K) rfl (pv 1)) (blkOk_by (N := nPos) (sc := defScope sPos) (by decide +kernel))
          (fun _ _ _ _ _ => pg_name (i := 9) scPos.nd rfl (Or.inl rfl)) (fun _ _ _ _ _ => pts_nil) (fun _ _ _ _ _ => pe_ix (ix_tupK (K := K) rfl) (pv 9) pe_int (fun _ _ => rfl)))
      (pss_cons (ps_set (i := 5) scPos.nd rfl (Or.inl rfl) (pe_ix (ix_listK (K := K) rfl) (pe_lc (own := [("_law_k", 10)]) (g := gName 10) rfl scPos.nd (pi_range1 (by rfl) B.range (pa_cons pe_int pa_nil)) (blkOk_by (N := nPos) (sc := defScope sPos) (by decide +kernel))
          (fun _ _ _ _ _ => pg_name (i := 10) scPos.nd rfl (Or.inl rfl)) (fun _ _ _ _ _ => pts_one (pt_cmpR op_ne (pe_ix (ix_listK (K := K) rfl) (pv 3) (pv 10) (fun _ _ => rfl)) (pe_ix (ix_listK (K := K) rfl) (pv 0) (pv 10) (fun _ _ => rfl)) (nomark _))) (fun _ _ _ _ _ => pv 10)) pe_int (fun _ _ => rfl)))
      (pss_cons (ps_set (i := 6) scPos.nd rfl (Or.inl rfl) (pe_op op_add_str (pe_op op_add_str (pe_callTy call_str_int (by rfl) B.str PyProof.Rows.boot_str (pa_cons (pe_op op_fdiv (pv 5) pe_int) pa_nil)) (pe_callTy call_str_int (by rfl) B.str PyProof.Rows.boot_str (pa_cons (pe_op op_mod (pe_op op_fdiv (pv 5) pe_int) pe_int) pa_nil))) (pe_callTy call_str_int (by rfl) B.str PyProof.Rows.boot_str (pa_cons (pe_op op_mod (pv 5) pe_int) pa_nil))))
      (pss_cons (ps_for (passes_of rfl) rfl (pi_range1 (by rfl) B.range (pa_cons pe_int pa_nil)) (pg_name (i := 7) scPos.nd rfl (Or.inl rfl))
        (pss_cons (ps_set (i := 8) scPos.nd rfl (Or.inl rfl) (pe_slice sl_str (pv 6) po_none (po_some (pv 7))))
        (pss_one (ps_if (PW.pt (pw_and (pt_cmpR (op_notin_seqK (K := K) rfl) (pv 8) (pv 4) rfl) (pw_and1 (pt_val (pe_cal C hr (by rfl) (pa_cons (pv 0) (pa_cons (pe_op op_cat (pv 1) (pe_lst (pa_cons (pe_tup (pa_cons (pv 8) (pa_cons (pe_ix (ix_listK (K := K) rfl) (pv 0) (pv 5) (fun _ _ => rfl)) pa_nil))) pa_nil))) (pa_cons (pe_op op_sub (pv 2) pe_int) pa_nil))) (Nat.le_refl _)))))) (pss_one (ps_ret pe_bl)) pss_nil))))
      (pss_one (ps_ret pe_bl))))))))), ?_⟩
    refine q_when (b := decide (left < 0)) (et_test (ev_op (r := rI0 fun i j => .bl (decide (i < j))) (ev_var rfl) ev_c rv_I0)) (fun hb H1 e1 => s_ret (v := .bl false) ev_c fun H2 e2 => k H2 (e1.trans e2)) fun hb H1 e1 => ?_
    have hb := of_decide_eq_false hb
    have hle : es.length ≤ 30 := by omega
    refine q_asgW ⟨.ref c, rfl, c, us, es, 30, rfl, .inl (e1 _ _ hc), hus.mono e1, ⟨nd, hle, fun e he => ⟨(h3 e he).1, Nat.le_trans (h3 e he).2 (by decide), hnx e he⟩⟩, by decide, fun e he => (h3 e he).2, fun H2 D nD e2 hD => ?_⟩
    have e02 := e1.trans e2
    change tSeq _ _ _ [some (.ref d), some (.ref c), some (.int left), some (.ref D), none, none, none, none, none, none, none] H2
    have hp8 : ∀ i, i < 8 → NxV (p8 (.str "drop") es i) := fun i hi => p8_nx hnx i
    have hne : gV (p8 (.str "drop") es) ≠ gV Fm := fun z => by
      have := hmn es nd h3 hnx (gV_eq z)
      omega
    refine q_when (b := decide (gV (p8 (.str "drop") es) = gV Fm)) (et_test (ev_op (r := rEqD K) (ev_var rfl) (ev_var rfl) (rv_eqNx (gV_nx hp8) (gV_nx hF) hD (e02 _ _ hd)))) (fun hb2 => absurd (of_decide_eq_true hb2) hne) fun _ H3 e3 => ?_
    have e03 := e02.trans e3
    refine q_when (b := decide (left < 1)) (et_test (ev_op (r := rI0 fun i j => .bl (decide (i < j))) (ev_var rfl) ev_c rv_I0)) (fun hb H4 e4 => s_ret (v := .bl false) ev_c fun H5 e5 => k H5 ((e03.trans e4).trans e5)) fun hb1 H4 e4 => ?_
    have hb1 := of_decide_eq_false hb1
    obtain ⟨m, rfl⟩ : ∃ m, n = m + 1 := ⟨n - 1, by omega⟩
    have e04 := e03.trans e4
    have hul := hus.lenE
    -- the ranges that are known
    have kn := el_lcL (K := K) (xs := us) (tl := tVar 1) (t := tYes) (te := tOp (rIxT K) (tVar 9) (tC (.int 0))) (j := 9) (vs := [9]) (σ := [some (.ref d), some (.ref c), some (.int left), some (.ref D), none, none, none, none, none, none, none]) (H := H4) (fun _ => true) (fun i => .str (T (es.getD i ([], .non)).1)) (ev_var rfl) (sq_of (e04 _ _ hc)) (by omega) (fun x => rfl) (fun i x H5 e5 hx => et_yes) (fun i x H5 e5 hx _ => by
      obtain ⟨b, e, rfl, he, hbb⟩ := hus.at_ hx
      have hg : es.getD i ([], .non) = e := by rw [List.getD_eq_getElem?_getD, he]; rfl
      rw [hg]
      exact ev_op (ev_var rfl) ev_c (rv_ixT (st_of (e5 _ _ (e04 _ _ hbb))) (atI_nat (j := 0) rfl)))
    rw [given_yesAll] at kn
    refine q_asgL kn fun L5 H5 n5 e5 h5 => ?_
    have hin : ∀ r : List Nat, inV (.str (T r)) ((List.range us.length).map fun i => V.str (T (es.getD i ([], .non)).1)) = false → r ∉ es.map (·.1) := fun r hr hm => by
      obtain ⟨e, he, hre⟩ := List.mem_map.mp hm
      obtain ⟨i, hi⟩ := List.mem_iff_getElem?.mp he
      have hi2 := (List.getElem?_eq_some_iff.mp hi).1
      have hm2 : V.str (T r) ∈ (List.range us.length).map fun i => V.str (T (es.getD i ([], .non)).1) := List.mem_map.mpr ⟨i, List.mem_range.mpr (by omega), by rw [List.getD_eq_getElem?_getD, hi, ← hre]; rfl⟩
      rw [inV_str hm2] at hr
      cases hr
    have hflat : ((List.range us.length).map fun i => V.str (T (es.getD i ([], .non)).1)).all flatV = true := by
      rw [List.all_eq_true]
      intro v hv
      obtain ⟨i, _, rfl⟩ := List.mem_map.mp hv
      rfl
    generalize (List.range us.length).map (fun i => V.str (T (es.getD i ([], .non)).1)) = kns at *
    have e05 := e04.trans e5
    change tSeq _ _ _ [some (.ref d), some (.ref c), some (.int left), some (.ref D), some (.ref L5), none, none, none, none, none, none] H5
    -- the place
    have pl := el_lcR1 (ta := tCons (tC (.int 8)) tNil) (t := tTest (tOp rNe (tOp (rIxL K) (tVar 3) (tVar 10)) (tOp (rIxL K) (tVar 0) (tVar 10)))) (te := tVar 10) (j := 10) (vs := [10]) (n := 8) (σ := [some (.ref d), some (.ref c), some (.int left), some (.ref D), some (.ref L5), none, none, none, none, none, none]) (H := H5) (fun i => !decide (p8 (.str "drop") es i = Fm i)) (fun i => .int (i : Int)) (ea_cons ev_c ea_nil) (by decide) (fun x => rfl) (fun i H6 e6 hi => by
      have hi8 : i < 8 := by omega
      exact et_test (ev_op (r := rNe) (ev_ixR (ev_var rfl) (ev_var rfl) (e6 _ _ ((e3.trans e4).trans e5 _ _ hD)) (gV_ix hi8)) (ev_ixR (ev_var rfl) (ev_var rfl) (e6 _ _ (e05 _ _ hd)) (gV_ix hi8)) (rv_ne (scal_nx (hp8 i hi8) (hF i hi8))))) (fun i H6 e6 hi _ => ev_var rfl)
    obtain ⟨pc, hpc, hpg⟩ := given_head (n := 8) (f := fun i => !decide (p8 (.str "drop") es i = Fm i)) (by
      refine Classical.byContradiction fun z => hne ?_
      unfold gV
      refine List.map_congr_left fun i hi => ?_
      have hi8 := List.mem_range.mp hi
      refine Classical.byContradiction fun y => z ⟨i, hi8, by simp [y]⟩)
    refine q_asg (v := .int (pc : Int)) (ev_opL1 pl (fun H1 e => ev_c) fun p H1 hp e => rv_ixL (sq_of hp) (atI_nat (j := 0) hpg)) fun H6 e6 => ?_
    have e06 := e05.trans e6
    change tSeq _ _ _ [some (.ref d), some (.ref c), some (.int left), some (.ref D), some (.ref L5), some (.int (pc : Int)), none, none, none, none, none] H6
    -- its bits
    have q1 : Ev (tOp (rI CDiv fun i j => .int (i / j)) (tVar 5) (tC (.int 4))) [some (.ref d), some (.ref c), some (.int left), some (.ref D), some (.ref L5), some (.int (pc : Int)), none, none, none, none, none] H6 (.int ((pc / 4 : Nat) : Int)) := ev_is (ev_op (ev_var rfl) ev_c (rv_I ⟨by decide, by decide⟩)) (by rw [Int.natCast_ediv]; rfl)
    have q2 : Ev (tOp (rI (fun _ j => 0 < j) fun i j => .int (i % j)) (tOp (rI CDiv fun i j => .int (i / j)) (tVar 5) (tC (.int 2))) (tC (.int 2))) [some (.ref d), some (.ref c), some (.int left), some (.ref D), some (.ref L5), some (.int (pc : Int)), none, none, none, none, none] H6 (.int ((pc / 2 % 2 : Nat) : Int)) := ev_is (ev_op (ev_op (ev_var rfl) ev_c (rv_I ⟨by decide, by decide⟩)) ev_c (rv_I (by decide))) (by rw [Int.natCast_emod, Int.natCast_ediv]; rfl)
    have q3 : Ev (tOp (rI (fun _ j => 0 < j) fun i j => .int (i % j)) (tVar 5) (tC (.int 2))) [some (.ref d), some (.ref c), some (.int left), some (.ref D), some (.ref L5), some (.int (pc : Int)), none, none, none, none, none] H6 (.int ((pc % 2 : Nat) : Int)) := ev_is (ev_op (ev_var rfl) ev_c (rv_I (by decide))) (by rw [Int.natCast_emod]; rfl)
    refine q_asg (ev_addS (ev_addS (ev_s01 q1 (by omega)) (ev_s01 q2 (by omega)) (by show 1 + 1 ≤ 1000; decide)) (ev_s01 q3 (by omega)) (by show 2 + 1 ≤ 1000; decide)) fun H7 e7 => ?_
    have hB3 : IsB (([48 + pc / 4] ++ [48 + pc / 2 % 2]) ++ [48 + pc % 2]) := fun x hx => by
      simp only [List.cons_append, List.nil_append, List.mem_cons, List.not_mem_nil, or_false] at hx
      omega
    have hl3 : (([48 + pc / 4] ++ [48 + pc / 2 % 2]) ++ [48 + pc % 2]).length = 3 := rfl
    generalize (([48 + pc / 4] ++ [48 + pc / 2 % 2]) ++ [48 + pc % 2]) = row at *
    have e07 := e06.trans e7
    have h57 := (e6.trans e7) _ _ h5
    change tSeq _ _ _ [some (.ref d), some (.ref c), some (.int left), some (.ref D), some (.ref L5), some (.int (pc : Int)), some (.str (T row)), none, none, none, none] H7
    refine q_forR1 (ta := tCons (tC (.int 4)) tNil) (n := 4) (ea_cons ev_c ea_nil) (by decide) (fun i σ' H' => ∃ o7 o8, σ' = [some (.ref d), some (.ref c), some (.int left), some (.ref D), some (.ref L5), some (.int (pc : Int)), some (.str (T row)), o7, o8, none, none] ∧ Ex H7 H') (fun H8 e8 => ⟨_, _, rfl, e8⟩) (fun i σ' H' hi hh => ?_) (fun σ' H' hh => ?_)
    · obtain ⟨o7, o8, rfl, e8⟩ := hh
      change tSeq _ _ _ [some (.ref d), some (.ref c), some (.int left), some (.ref D), some (.ref L5), some (.int (pc : Int)), some (.str (T row)), some (.int (i : Int)), o8, none, none] H'
      refine q_asg (ev_slS (l := row) (ev_var rfl) eo_none (eo_some (ev_var rfl)) (by omega)) fun H9 e9 => ?_
      rw [cut_take]
      have hBt := hB3.take i
      have hlt3 : (row.take i).length ≤ 3 := by rw [List.length_take]; omega
      generalize row.take i = bits at *
      have e79 := e8.trans e9
      have e09 := e07.trans e79
      change tIfS _ _ _ _ [some (.ref d), some (.ref c), some (.int left), some (.ref D), some (.ref L5), some (.int (pc : Int)), some (.str (T row)), some (.int (i : Int)), some (.str (T bits)), none, none] H9
      refine s_when (b := (!inV (.str (T bits)) kns) && false) (et_and (et_test (ev_op (r := rIn K true) (ev_var rfl) (ev_var rfl) fun H1 e Q1 q1 => ⟨L5, kns, rfl, .inl (sq_of (e _ _ (e79 _ _ h57))), rfl, hflat, q1 H1 (Ex.refl H1)⟩)) fun hnin HA eA Q9 q9 => ?_) (fun z => by simp at z) fun _ HB eB => ⟨_, _, rfl, e79.trans eB⟩
      have hnin : inV (.str (T bits)) kns = false := by simpa using hnin
      have hnm := hin bits hnin
      have e0A := e09.trans eA
      refine ⟨.ref d, rfl, .ref c, rfl, ?_⟩
      have z9 : EvS (tTup (tCons (tVar 8) (tCons (tOp (rIxL K) (tVar 0) (tVar 5)) tNil))) [some (.ref d), some (.ref c), some (.int left), some (.ref D), some (.ref L5), some (.int (pc : Int)), some (.str (T row)), some (.int (i : Int)), some (.str (T bits)), none, none] HA [.str (T bits), Fm pc] := es_tup (ea_cons (ev_var rfl) (ea_cons (ev_ixR (ev_var rfl) (ev_var rfl) (e0A _ _ hd) (gV_ix hpc)) ea_nil)) (by show 2 ≤ 100000; decide)
      refine lst_one (z9 HA (Ex.refl _) _ fun p HB eB hp => ⟨sz_of (by decide), fun q nq => ?_⟩)
      have eC := Ex.new (o := .lst [V.ref p]) nq
      have hq : (upd HB q (.lst [V.ref p])) q = some (.lst [V.ref p]) := upd_same
      generalize upd HB q (.lst [V.ref p]) = HC at *
      have e0C := (e0A.trans eB).trans eC
      refine ⟨c, q, us, [.ref p], rfl, rfl, e0C _ _ hc, hq, sz_of (by show us.length + 1 ≤ 100000; omega), fun r nr => ?_⟩
      have eD := Ex.new (o := .lst (us ++ [V.ref p])) nr
      have hr2 : (upd HC r (.lst (us ++ [V.ref p]))) r = some (.lst (us ++ [V.ref p])) := upd_same
      generalize upd HC r (.lst (us ++ [V.ref p])) = HD at *
      have e0D := e0C.trans eD
      refine ⟨.int left, rfl, left, 1, rfl, rfl, d, r, us ++ [.ref p], es ++ [(bits, Fm pc)], Fm, N, left - 1, rfl, e0D _ _ hd, hF, hr2, est_snoc (e := (bits, Fm pc)) (eD _ _ (eC _ _ hp)) (hus.mono e0D), ?_, ?_, ?_, hmn, hN, ?_, by omega, fun HE eE => ⟨false, rfl, q9 HE (((eB.trans eC).trans eD).trans eE)⟩⟩
      · rw [List.map_append, List.nodup_append]
        exact ⟨nd, by simp, fun x hx y hy => fun z => by
          have : y = bits := by simpa using hy
          exact hnm (by rw [← this, ← z]; exact hx)⟩
      · intro e he
        rcases List.mem_append.mp he with z | z
        · exact h3 e z
        · rw [List.mem_singleton.mp z]
          exact ⟨hBt, hlt3⟩
      · intro e he
        rcases List.mem_append.mp he with z | z
        · exact hnx e z
        · rw [List.mem_singleton.mp z]
          exact hF pc hpc
      · rw [List.length_append]
        show ((es.length + 1 : Nat) : Int) + (left - 1) < N
        omega
    · obtain ⟨o7, o8, rfl, e8⟩ := hh
      exact s_ret (v := .bl false) ev_c fun H9 e9 => k H9 ((e07.trans e8).trans e9)
theorem ok_pos (B : Bl mg) (C8 : Cal P w K mg base "_law_small_painted" ["_law_entries"] 1 spP8) (hg : mg "_law_possible" = some (.ref f)) (hk : PySem.W.keepIn K (.ref f) = true) (hb : Binds K fd ["_law_due", "_law_chosen", "_law_left"] []) (F : FnP K "_law_possible" sPos f fd) : ∀ n, Cal P w K mg base "_law_possible" ["_law_due", "_law_chosen", "_law_left"] (n + 2) (spPosx n)
  | 0 => ⟨f, fd, F.ok scPos (fun vs H Q E h => h.elim) (fun cdv A outer s H vs Q E hr h => h.elim), hg, hk, hb⟩
  | n + 1 => ⟨f, fd, pos_step B C8 (ok_pos B C8 hg hk hb F n) F, hg, hk, hb⟩
end
end Wk

set_option Elab.async false
set_option linter.all false
set_option maxRecDepth 100000
set_option maxHeartbeats 4000000
namespace Wk
open PySem PySem.Spec PyProof.Rows L2 Evl LamX
theorem EsOk.perm {a b : List Row} {m : Nat} (p : a.Perm b) (h : EsOk b m) : EsOk a m :=
  ⟨((p.map (·.1)).nodup_iff).mpr h.nd, by rw [p.length_eq]; exact h.len, fun e he => h.it e (p.mem_iff.mp he)⟩
theorem vE_perm {a b : List Row} (p : a.Perm b) (nd : (b.map (·.1)).Nodup) : Fw.vE a = Fw.vE b := by
  funext r
  have nda : (a.map (·.1)).Nodup := ((p.map (·.1)).nodup_iff).mpr nd
  cases h : Fw.vE b r with
  | some v => exact Fw.vE_at nda (e := (r, v)) (p.mem_iff.mpr (Fw.vE_mem h))
  | none =>
    exact Fw.vE_none fun e he z => by
      have := Fw.vE_at nd (p.mem_iff.mp he)
      rw [z, h] at this
      cases this
theorem pnt_perm {a b : List Row} {m : Nat} (p : a.Perm b) (h : EsOk b m) {i : Nat} (hi : i < 1024) : pnt (.str "drop") a i = pnt (.str "drop") b i := by
  have ha := h.perm p
  rw [pnt_pt _ ha.nd (fun e he => ⟨(ha.it e he).1, (ha.it e he).2.1⟩) hi, pnt_pt _ h.nd (fun e he => ⟨(h.it e he).1, (h.it e he).2.1⟩) hi, vE_perm p h.nd]
theorem pls_congr {W W' : Nat → V} {h : ∀ i, i < 1024 → NxV (W i)} {h' : ∀ i, i < 1024 → NxV (W' i)} (e : ∀ i, i < 1024 → W i = W' i) : pls W h = pls W' h' := by
  have z : ((List.range 1024).attach.map fun i => (⟨W i.1, h i.1 (List.mem_range.mp i.2)⟩ : NxS)) = (List.range 1024).attach.map fun i => (⟨W' i.1, h' i.1 (List.mem_range.mp i.2)⟩ : NxS) :=
    List.map_congr_left fun i _ => Subtype.ext (e i.1 (List.mem_range.mp i.2))
  unfold pls
  rw [z]
theorem nxE_congr {m k : Nat} {a b : List Row} (ha : EsOk a m) (hb : EsOk b k) (e : ∀ i, i < 1024 → pnt (.str "drop") a i = pnt (.str "drop") b i) : nxE a ha = nxE b hb := by
  unfold nxE
  rw [pls_congr e]
theorem few_congr {m k : Nat} {a b : List Row} (ha : EsOk a m) (hb : EsOk b k) (e : ∀ i, i < 1024 → pnt (.str "drop") a i = pnt (.str "drop") b i) : few a ha = few b hb := by
  show Fw.fwE (nxE a ha) ch0 chs 10 [] (.str "drop") = Fw.fwE (nxE b hb) ch0 chs 10 [] (.str "drop")
  rw [nxE_congr ha hb e]
theorem few_few {m k : Nat} {a : List Row} (ha : EsOk a m) (hb : EsOk (few a ha) k) : few (few a ha) hb = few a ha := few_congr hb ha fun _ hi => few_pnt ha hi
/-- the fewest that small rows have (what the law asks) -/
theorem few_mn3 {m : Nat} {es : List Row} (hes : EsOk es m) (h3 : ∀ e ∈ es, e.1.length ≤ 3) : Mn3 (p8 (.str "drop") es) (few es hes).length := fun es' nd hb hx hp => min_small hes h3 nd hb hx hp
theorem tb_ent {K : PySem.W.Frag} {CT : Addr} {H : Hp} {x : Addr} {es : List Row} (X : TX K CT) (h : Tb CT H x es) : ∃ te us' es', H te = some (.tup us') ∧ EsT H us' es' ∧ SrR es' es ∧ ∀ {σ : L2.St} {tx : TE} {H1 : Hp}, Ex H H1 → Ev tx σ H1 (.ref x) → Ev (tFld K tx "entries") σ H1 (.ref te) := by
  obtain ⟨dx, fs, te, nd, us', es', h1, h2, h3, h4, h5, h6, h7, h8⟩ := h
  refine ⟨te, us', es', h5, h6, h7, fun {σ tx H1} e hx H2 e2 Q q => hx H2 e2 _ fun H3 e3 => ?_⟩
  exact ⟨x, CT, dx, fs, .ref te, rfl, ((e.trans e2).trans e3) _ _ h1, X.ic.cl, X.nE, h2, q H3 e3⟩
end Wk

set_option Elab.async false
set_option linter.all false
set_option maxRecDepth 100000
set_option maxHeartbeats 2000000
namespace Wk
open PySem PySem.SeqAt
open AutoSeq1 (wpAny_loadPart')
open MeetsSeq MeetsSeq2 MeetsSeq3 SeqRoads2
section
variable {prog : Program} {w : World} {A : Around} {R : Result → Shared → Prop}
/-- at each turn the list is read anew; whether its i-th item is x -/
def InI (prog : Program) (w : World) (A : Around) (E : Value → Shared → Prop) (l : Addr) (x : Value) (e : Nat → Bool) (N : Nat) (I : Shared → Prop) : Prop :=
  ∀ s, I s → ∃ (items : Array Value) (n : Nat), s.heap.get? l = some { cls := .type "list", data := .seq items n } ∧ items.size = N ∧ ∀ (i : Nat) (h : i < items.size), wpAny (model prog w) A.in1 (eqBool items[i] x) (fun r s' => r = e i ∧ I s') E s
theorem in_loopB (l : Addr) (x : Value) (e : Nat → Bool) (N : Nat) (I : Shared → Prop) (hl : InI prog w A (fun er s' => R (.error er) s') l x e N I)
    (fin : ∀ (b : Bool) s, (b = true ↔ ∃ j, j < N ∧ e j = true) → I s → R (.ok (.ret (.bool b))) s) (k : Nat) :
    ∀ i : Nat, N - i = k → i ≤ N → (∀ j, j < i → e j = false) → ∀ s, I s →
      wpAny (model prog w) A.in1 (Builtin.«list.__contains__.loop» ⟨[.ref l, x, rawInt i], []⟩) (GQ.FinOf prog w A R) (fun er s' => R (.error er) s') s := by
  induction k with
  | zero =>
    intro i hk hi hno s h
    obtain ⟨items, n, hl1, hs1, _⟩ := hl _ h
    have hR : R (.ok (.ret (.bool false))) s := fin false s ⟨fun z => (by cases z), fun ⟨j, hj, hj2⟩ => by rw [hno j (by omega)] at hj2; cases hj2⟩ h
    obtain ⟨hp, g, d, tk, os⟩ := s
    wp_walk using wpAny_loadPart' hl1
    have hi1 : items[((i : Nat) : Int).toNat]? = none := by simp; omega
    rw [hi1]
    wp_walk
    exact hR
  | succ k ih =>
    intro i hk hi hno s h
    obtain ⟨items, n, hl1, hs1, turn⟩ := hl _ h
    have hlt : i < items.size := by omega
    have ht := turn i hlt
    obtain ⟨hp, g, d, tk, os⟩ := s
    wp_walk using wpAny_loadPart' hl1
    have hi1 : items[((i : Nat) : Int).toNat]? = some items[i] := by simp [hlt]
    have hc : ((i : Int) + 1) = ((i + 1 : Nat) : Int) := by omega
    rw [hi1]
    refine wpAny_bind (wpAny_mono ht (fun r s2 h2 => ?_) fun _ _ x => x)
    obtain ⟨hr, h2⟩ := h2
    subst hr
    cases hb : e i with
    | true =>
      have hR := fin true s2 ⟨fun _ => ⟨i, by omega, hb⟩, fun _ => rfl⟩ h2
      obtain ⟨hp2, g2, d2, tk2, os2⟩ := s2
      wp_walk
      exact hR
    | false =>
      have hrec := ih (i + 1) (by omega) (by omega) (fun j hj => by
        by_cases c : j = i
        · rw [c]; exact hb
        · exact hno j (by omega)) s2 h2
      obtain ⟨hp2, g2, d2, tk2, os2⟩ := s2
      wp_walk
      rw [hc]
      exact ⟨plainId_quiet plain_contains_loop _, codeAny_builtin entry_contains_loop (by
        rw [Around.under_plainId plain_contains_loop _]
        exact hrec)⟩
theorem list_inB (l : Addr) (x : Value) (e : Nat → Bool) (N : Nat) (I : Shared → Prop) (hl : InI prog w A (fun er s' => R (.error er) s') l x e N I)
    (fin : ∀ (b : Bool) s, (b = true ↔ ∃ j, j < N ∧ e j = true) → I s → R (.ok (.ret (.bool b))) s) {s : Shared} (h : I s) :
    wpAny (model prog w) A.in1 (Builtin.«list.__contains__» ⟨[.ref l, x], []⟩) (GQ.FinOf prog w A R) (fun er s' => R (.error er) s') s := by
  obtain ⟨items, n, hl1, hs1, _⟩ := hl _ h
  have hrec := in_loopB (A := A) (R := R) l x e N I hl fin _ 0 rfl (Nat.zero_le _) (fun j hj => by omega) s h
  obtain ⟨hp, g, d, tk, os⟩ := s
  wp_walk using wpAny_loadPart' hl1
  exact ⟨plainId_quiet plain_contains_loop _, codeAny_builtin entry_contains_loop (by
    rw [Around.under_plainId plain_contains_loop _]
    exact hrec)⟩
/-- the same of two lists -/
def EqI (prog : Program) (w : World) (A : Around) (E : Value → Shared → Prop) (l b : Addr) (e : Nat → Bool) (N : Nat) (I : Shared → Prop) : Prop :=
  ∀ s, I s → ∃ (items items2 : Array Value) (n n2 : Nat), s.heap.get? l = some { cls := .type "list", data := .seq items n } ∧ s.heap.get? b = some { cls := .type "list", data := .seq items2 n2 } ∧ items.size = N ∧ items2.size = N ∧
    ∀ (i : Nat) (h1 : i < items.size) (h2 : i < items2.size), wpAny (model prog w) A.in1 (eqBool items[i] items2[i]) (fun r s' => r = e i ∧ I s') E s
theorem eq_loopB (l b : Addr) (e : Nat → Bool) (N : Nat) (I : Shared → Prop) (hl : EqI prog w A (fun er s' => R (.error er) s') l b e N I)
    (fin : ∀ (r : Bool) s, (r = true ↔ ∀ j, j < N → e j = true) → I s → R (.ok (.ret (.bool r))) s) (k : Nat) :
    ∀ i : Nat, N - i = k → i ≤ N → (∀ j, j < i → e j = true) → ∀ s, I s →
      wpAny (model prog w) A.in1 (Builtin.«list.__eq__.loop» ⟨[.ref l, .ref b, rawInt i, rawInt 2], []⟩) (GQ.FinOf prog w A R) (fun er s' => R (.error er) s') s := by
  induction k with
  | zero =>
    intro i hk hi hyes s h
    obtain ⟨items, items2, n, n2, hl1, hb1, hs1, hs2, _⟩ := hl _ h
    have hR : R (.ok (.ret (.bool true))) s := fin true s ⟨fun _ j hj => hyes j (by omega), fun _ => rfl⟩ h
    obtain ⟨hp, g, d, tk, os⟩ := s
    wp_walk using wpAny_loadPart' hl1, wpAny_loadPart' hb1
    have hi1 : items[((i : Nat) : Int).toNat]? = none := by simp; omega
    have hi2 : items2[((i : Nat) : Int).toNat]? = none := by simp; omega
    rw [hi1, hi2]
    wp_walk using wpAny_loadPart' hl1, wpAny_loadPart' hb1
    show R (.ok (.ret (.bool (items.size == items2.size)))) _
    rw [hs1, hs2]
    simpa using hR
  | succ k ih =>
    intro i hk hi hyes s h
    obtain ⟨items, items2, n, n2, hl1, hb1, hs1, hs2, turn⟩ := hl _ h
    have hlt : i < items.size := by omega
    have hlt2 : i < items2.size := by omega
    have ht := turn i hlt hlt2
    obtain ⟨hp, g, d, tk, os⟩ := s
    wp_walk using wpAny_loadPart' hl1, wpAny_loadPart' hb1
    have hi1 : items[((i : Nat) : Int).toNat]? = some items[i] := by simp [hlt]
    have hi2 : items2[((i : Nat) : Int).toNat]? = some items2[i] := by simp [hlt2]
    have hc : ((i : Int) + 1) = ((i + 1 : Nat) : Int) := by omega
    rw [hi1, hi2]
    refine wpAny_bind (wpAny_mono ht (fun r s2 h2 => ?_) fun _ _ x => x)
    obtain ⟨hr, h2⟩ := h2
    subst hr
    cases he : e i with
    | false =>
      have hR := fin false s2 ⟨fun z => (by cases z), fun z => by rw [z i (by omega)] at he; cases he⟩ h2
      obtain ⟨items', items2', n', n2', hl1', hb1', hs1', hs2', _⟩ := hl _ h2
      obtain ⟨hp2, g2, d2, tk2, os2⟩ := s2
      wp_walk using wpAny_loadPart' hl1', wpAny_loadPart' hb1'
      have hlt' : i < items'.size := by omega
      have hlt2' : i < items2'.size := by omega
      have hi1' : items'[((i : Nat) : Int).toNat]? = some items'[i] := by simp [hlt']
      have hi2' : items2'[((i : Nat) : Int).toNat]? = some items2'[i] := by simp [hlt2']
      rw [hi1', hi2']
      wp_walk
      exact hR
    | true =>
      have hrec := ih (i + 1) (by omega) (by omega) (fun j hj => by
        by_cases c : j = i
        · rw [c]; exact he
        · exact hyes j (by omega)) s2 h2
      obtain ⟨hp2, g2, d2, tk2, os2⟩ := s2
      wp_walk
      rw [hc]
      exact ⟨plainId_quiet plain_eq_loop _, codeAny_builtin entry_eq_loop (by
        rw [Around.under_plainId plain_eq_loop _]
        exact hrec)⟩
theorem list_eqB (l b : Addr) (e : Nat → Bool) (N : Nat) (I : Shared → Prop) (hl : EqI prog w A (fun er s' => R (.error er) s') l b e N I)
    (fin : ∀ (r : Bool) s, (r = true ↔ ∀ j, j < N → e j = true) → I s → R (.ok (.ret (.bool r))) s) {s : Shared} (h : I s) :
    wpAny (model prog w) A.in1 (Builtin.«list.__eq__» ⟨[.ref l, .ref b], []⟩) (GQ.FinOf prog w A R) (fun er s' => R (.error er) s') s := by
  obtain ⟨items, items2, n, n2, hl1, hb1, hs1, hs2, _⟩ := hl _ h
  have hrec := eq_loopB (A := A) (R := R) l b e N I hl fin _ 0 rfl (Nat.zero_le _) (fun j hj => by omega) s h
  obtain ⟨hp, g, d, tk, os⟩ := s
  have f3 := AutoSeq1.sub_list_list
  have hne : ¬ (items.size != items2.size) = true := by simp [hs1, hs2]
  wp_walk using wpAny_loadPart' hl1, wpAny_loadPart' hb1
  exact ⟨plainId_quiet plain_eq_loop _, codeAny_builtin entry_eq_loop (by
    rw [Around.under_plainId plain_eq_loop _]
    exact hrec)⟩
end
section
variable {prog : Program} {w : World} {A : Around} {E : Value → Shared → Prop} {s : Shared}
theorem notIn_listB {l : Addr} {x : Value} {e : Nat → Bool} {N : Nat} {Q : Value → Shared → Prop} (I : Shared → Prop) (hl : InI prog w A E l x e N I)
    (fin : ∀ (b : Bool) s, (b = true ↔ ∃ j, j < N ∧ e j = true) → I s → Q (.bool (!b)) s) (h : I s) : wpAny (model prog w) A (compareOp .NotIn x (.ref l)) Q E s := by
  obtain ⟨items, n, hl1, hs1, _⟩ := hl _ h
  show wpAny _ A (do return .bool (!(← contains (.ref l) x))) Q E s
  refine wpAny_bind (wpAny_contains_slot ⟨_, hl1, rfl⟩ F.slot_list_contains (wpAny_mono (GQ.call_here F.slot_list_contains ⟨_, hl1, rfl⟩ F.entry_list_contains (F.args_list_contains_2 _ _)
    (list_inB (R := wants (fun v s' => ∃ b, v = .bool b ∧ Q (.bool (!b)) s') E) l x e N I hl (fun b s' hb hI => ⟨b, rfl, fin b s' hb hI⟩) h)) (fun v s' hv => ?_) fun _ _ e => e))
  obtain ⟨b, rfl, hq⟩ := hv
  exact wpAny_truthy_bool (wpAny_pure hq)
theorem rc_listB {l b : Addr} {e : Nat → Bool} {N : Nat} {Q : Value → Shared → Prop} (hu : A.units < cLine) (I : Shared → Prop) (hl : EqI prog w A E l b e N I)
    (fin : ∀ (r : Bool) s, (r = true ↔ ∀ j, j < N → e j = true) → I s → Q (.bool r) s) (h : I s) : wpAny (model prog w) A (richCompare .Eq (.ref l) (.ref b)) Q E s := by
  obtain ⟨items, items2, n, n2, hl1, hb1, _, _, _⟩ := hl _ h
  refine wpAny_richCompare_same_room (op := .Eq) ⟨_, hl1, rfl⟩ ⟨_, hb1, rfl⟩ F.slot_list_eq (GQ.call_here F.slot_list_eq ⟨_, hl1, rfl⟩ F.entry_list_eq (F.args_list_eq_2 _ _) ?_) hu
  exact list_eqB (R := wants (fun v s' => v ≠ .notImplemented ∧ Q v s') E) l b e N I hl (fun r s' hr q => ⟨(fun x => nomatch x), fin r s' hr q⟩) h
end
end Wk

set_option Elab.async false
set_option linter.all false
set_option maxRecDepth 100000
set_option maxHeartbeats 2000000
namespace Wk
open L2 PySem PySem.Spec PyProof.Rows
/-! an own == that tells True or False -/
abbrev EqvB := V → V → Bool → Hp → Prop
def MonB (D : EqvB) : Prop := ∀ x y z H H', Ext H H' → D x y z H → D x y z H'
def RcB (X : Cx) (n : Nat) (D : EqvB) : Prop :=
  ∀ (A : Around) (pins : List (Addr × Obj)) (s : Shared) (σ : L2.St) (H : Hp) (x y : V) (u v : Value) (z : Bool), Sub X n A → Inv X pins σ H s → RelV x u → RelV y v → D x y z H →
    wpAny (model X.prog X.w) A (richCompare .Eq u v) (fun r s' => r = .bool z ∧ ∃ H', Inv X pins σ H' s' ∧ Ext H H') X.xe s
def EqB (X : Cx) (n : Nat) (D : EqvB) : Prop :=
  ∀ (A : Around) (pins : List (Addr × Obj)) (s : Shared) (σ : L2.St) (H : Hp) (x y : V) (u v : Value) (z : Bool), Sub X n A → Inv X pins σ H s → RelV x u → RelV y v → D x y z H →
    wpAny (model X.prog X.w) A (eqBool u v) (fun r s' => r = z ∧ ∃ H', Inv X pins σ H' s' ∧ Ext H H') X.xe s
def DInsB (C : Addr) (R : Addr → Addr → Bool → Hp → Prop) : EqvB := fun x y z H => ∃ a b dx dy fs gs, x = .ref a ∧ y = .ref b ∧ H a = some (.ins C dx fs) ∧ H b = some (.ins C dy gs) ∧ R a b z H
def spEqB (R : Addr → Addr → Bool → Hp → Prop) : Sp := fun vs H Q _ => ∃ a b z, vs = [.ref a, .ref b] ∧ R a b z H ∧ ∀ H', Ext H H' → Q (.bl z) H'
section
variable {X : Cx} {n : Nat} {D : EqvB}
theorem rcB_ins {CX : CXT} {C f : Addr} {fd : FuncData} {ps : List Str} {R : Addr → Addr → Bool → Hp → Prop} {E : XK} (F : FnOk X.prog X.w X.K X.mg X.base CX n f fd ps (spEqB R))
    (hs : PySem.W.findIn X.K (.ref C) "__eq__" = some (some (.ref f))) (hf : PySem.W.isFn X.K (.ref f) = true) (hb : Binds X.K fd ps []) (hx : Passes CX X E) : RcB X n (DInsB C R) := by
  intro A pins s σ H x y u v z sb I rx ry d
  obtain ⟨a, b, dx, dy, fs, gs, rfl, rfl, ha, hb', hr⟩ := d
  cases rx
  cases ry
  obtain ⟨mA, J, _⟩ := ins_get I.hok ha
  obtain ⟨mB, J', _⟩ := ins_get I.hok hb'
  obtain ⟨od, J, _⟩ := J.look
  obtain ⟨od', J', _⟩ := J'.look
  obtain ⟨m, hF⟩ := I.fr
  refine PySem.W.cmp_K (op := .Eq) (tb := .ref C) sb.room.units0 hF I.ok.mod.kin J J'.type (by simp [PySem.W.notFirst]) hs hf ?_
  have hsp : spEqB R [.ref a, .ref b] H (fun v H' => v = .bl z ∧ Ext H H') E := ⟨a, b, z, rfl, hr, fun H' e => ⟨rfl, e⟩⟩
  have e0 : Env0 X.prog X.w X.K X.mg X.base A X.stack s H := by
    have e := I.env0
    exact ⟨by rw [sb.fr]; exact e.frames, e.mod, e.bs, e.bsz, e.funs, e.frf, e.hok, e.bare⟩
  have hl := F.len _ _ _ _ hsp
  have r2 : Vals [V.ref a, V.ref b] [Value.ref a, Value.ref b] := .cons rfl (.cons rfl .nil)
  refine wpAny_call (codeAny_mono (F.run A X.stack s H ⟨[.ref a, .ref b], []⟩ [.ref a, .ref b] [.ref a, .ref b] _ E sb.room e0 (by
    have := hb s [.ref a, .ref b] I.kIn (by simpa using hl)
    simpa using this) r2 hsp) fun r s' hq => ?_)
  cases r with
  | error e => exact hx pins σ H s e s' I hq
  | ok fl =>
    cases fl with
    | ret w =>
      obtain ⟨zz, H', I', rz, ez, ex⟩ := I.after hq
      subst ez
      cases rz
      exact ⟨rfl, H', I', ex⟩
    | next => exact False.elim hq
    | brk => exact False.elim hq
    | cont => exact False.elim hq
theorem RcB.eqB (h : RcB X n D) (hr : ∀ x y z H, D x y z H → ∃ a b, x = .ref a ∧ y = .ref b) (hs : ∀ a z H, D (.ref a) (.ref a) z H → z = true) : EqB X n D := by
  intro A pins s σ H x y u v z sb I rx ry d
  obtain ⟨a, b, rfl, rfl⟩ := hr _ _ _ _ d
  cases rx
  cases ry
  by_cases hab : a = b
  · subst hab
    rw [hs _ _ _ d]
    exact SeqAt.EqAt.same (A := A) (s := s) (.ref a) X.prog X.w X.xe _ ⟨rfl, H, I, Ext.rfl'⟩
  · refine GQ.eqBool_refG hab (wpAny_mono (h A pins s σ H (.ref a) (.ref b) _ _ z sb I rfl rfl d) (fun r s' q => ?_) fun _ _ x => x)
    obtain ⟨hr', q⟩ := q
    exact ⟨z, hr', rfl, q⟩
/-- x == y -/
def rEqB (D : EqvB) : R2 := fun x y H Q => ∃ z, D x y z H ∧ ∀ H', Ext H H' → Q (.bl z) H'
theorem op_eqB (h : RcB X n D) (hr : Room n X.A) : OpR X (compareOp .Eq) (rEqB D) := by
  intro pins s σ H x y v u Q I rx ry hq
  obtain ⟨z, d, q⟩ := hq
  show wpAny (model X.prog X.w) X.A (richCompare .Eq v u) (EP X pins σ Q) X.xe s
  refine wpAny_mono (h X.A pins s σ H x y v u z ⟨hr, rfl⟩ I rx ry d) (fun r s' zz => ?_) fun _ _ x => x
  obtain ⟨hr', H', I', e⟩ := zz
  subst hr'
  exact ⟨.bl z, H', I', rfl, q H' e⟩
/-- x not in [..] -/
def rNinB (D : EqvB) : R2 := fun x y H Q => ∃ l ys, ∃ e : Nat → Bool, y = .ref l ∧ H l = some (.lst ys) ∧ (∀ i yi, ys[i]? = some yi → D yi x (e i) H) ∧ ∀ (b : Bool) H', (b = true ↔ ∃ j, j < ys.length ∧ e j = true) → Ext H H' → Q (.bl (!b)) H'
theorem op_notInB (hD : MonB D) (h : EqB X n D) (hr : Room (n + 1) X.A) : OpR X (compareOp .NotIn) (rNinB D) := by
  intro pins s σ H x y v u Q I rx ry hq
  obtain ⟨l, ys, e, rfl, hl, he, q⟩ := hq
  cases ry
  have sb : Sub X (n + 1) X.A := ⟨hr, rfl⟩
  refine notIn_listB (N := ys.length) (e := e) (fun s' => LoopI X pins σ H s') (fun s' t => ?_) (fun b s' hb t => ?_) ⟨H, I, Ext.rfl'⟩
  · obtain ⟨H1, I1, e1⟩ := t
    obtain ⟨z, its, k, r, ei⟩ := I1.hok l _ (e1 _ _ hl)
    refine ⟨its.toArray, k, ei, by rw [List.size_toArray, ← r.length], fun i hi => ?_⟩
    have hi' : i < its.length := by simpa using hi
    have k1 : i < ys.length := by rw [r.length]; exact hi'
    obtain ⟨w, hw, rw'⟩ := r.get (List.getElem?_eq_getElem k1)
    have g1 : its[i]? = some its.toArray[i] := by rw [List.getElem?_eq_getElem hi'] <;> simp
    rw [g1] at hw
    rw [Option.some.inj hw]
    refine wpAny_mono (h _ pins s' σ H1 _ _ w v (e i) sb.in1 I1 rw' rx (hD _ _ _ _ _ e1 (he i _ (List.getElem?_eq_getElem k1)))) (fun r s2 q2 => ?_) fun _ _ x => x
    obtain ⟨hr', H2, I2, e2⟩ := q2
    exact ⟨hr', H2, I2, e1.trans e2⟩
  · obtain ⟨H1, I1, e1⟩ := t
    exact ⟨.bl (!b), H1, I1, rfl, q b H1 hb e1⟩
/-- [..] == [..] -/
def rEqLB (D : EqvB) : R2 := fun x y H Q => ∃ a b xs ys, ∃ e : Nat → Bool, x = .ref a ∧ y = .ref b ∧ H a = some (.lst xs) ∧ H b = some (.lst ys) ∧ xs.length = ys.length ∧ (∀ i xi yi, xs[i]? = some xi → ys[i]? = some yi → D xi yi (e i) H) ∧
  ∀ (r : Bool) H', (r = true ↔ ∀ j, j < xs.length → e j = true) → Ext H H' → Q (.bl r) H'
theorem op_eqLB (hD : MonB D) (h : EqB X n D) (hr : Room (n + 1) X.A) : OpR X (compareOp .Eq) (rEqLB D) := by
  intro pins s σ H x y v u Q I rx ry hq
  obtain ⟨a, b, xs, ys, e, rfl, rfl, ha, hb, hl, he, q⟩ := hq
  cases rx
  cases ry
  have sb : Sub X (n + 1) X.A := ⟨hr, rfl⟩
  show wpAny (model X.prog X.w) X.A (richCompare .Eq (.ref a) (.ref b)) (EP X pins σ Q) X.xe s
  refine rc_listB (N := xs.length) (e := e) hr.units0 (fun s' => LoopI X pins σ H s') (fun s' t => ?_) (fun r s' hb t => ?_) ⟨H, I, Ext.rfl'⟩
  · obtain ⟨H1, I1, e1⟩ := t
    obtain ⟨z, its, k, r, ei⟩ := I1.hok a _ (e1 _ _ ha)
    obtain ⟨z2, its2, k2, r2, ei2⟩ := I1.hok b _ (e1 _ _ hb)
    refine ⟨its.toArray, its2.toArray, k, k2, ei, ei2, by rw [List.size_toArray, ← r.length], by rw [List.size_toArray, ← r2.length, ← hl], fun i h1 h2 => ?_⟩
    have h1' : i < its.length := by simpa using h1
    have h2' : i < its2.length := by simpa using h2
    have k1 : i < xs.length := by rw [r.length]; exact h1'
    have k2 : i < ys.length := by rw [r2.length]; exact h2'
    obtain ⟨w, hw, rw'⟩ := r.get (List.getElem?_eq_getElem k1)
    obtain ⟨w2, hw2, rw2⟩ := r2.get (List.getElem?_eq_getElem k2)
    have g1 : its[i]? = some its.toArray[i] := by rw [List.getElem?_eq_getElem h1'] <;> simp
    have g2 : its2[i]? = some its2.toArray[i] := by rw [List.getElem?_eq_getElem h2'] <;> simp
    rw [g1] at hw
    rw [g2] at hw2
    rw [Option.some.inj hw, Option.some.inj hw2]
    refine wpAny_mono (h _ pins s' σ H1 _ _ w w2 (e i) sb.in1 I1 rw' rw2 (hD _ _ _ _ _ e1 (he i _ _ (List.getElem?_eq_getElem k1) (List.getElem?_eq_getElem k2)))) (fun r s2 q2 => ?_) fun _ _ x => x
    obtain ⟨hr', H2, I2, e2⟩ := q2
    exact ⟨hr', H2, I2, e1.trans e2⟩
  · obtain ⟨H1, I1, e1⟩ := t
    exact ⟨.bl r, H1, I1, rfl, q r H1 hb e1⟩
end
end Wk

set_option Elab.async false
set_option linter.all false
set_option maxRecDepth 100000
set_option maxHeartbeats 4000000
namespace Wk
open PySem PySem.Spec PyProof.Rows L2 Evl
/-! rows told apart -/
theorem eqv_nx {a b : V} (ha : NxV a) (hb : NxV b) : PyData.eqv (nxD a) (nxD b) = decide (a = b) := by
  have ss : ∀ x y : Str, PyData.eqv (.str x) (.str y) = decide (V.str x = V.str y) := fun x y => by
    have e : decide (V.str x = V.str y) = decide (x = y) := decide_eq_decide.mpr ⟨fun z => by injection z, fun z => by rw [z]⟩
    rw [e]
    simp [PyData.eqv]
    by_cases z : x = y <;> simp [z]
  have ii : ∀ x y : Int, PyData.eqv (.int x) (.int y) = decide (V.int x = V.int y) := fun x y => by
    have e : decide (V.int x = V.int y) = decide (x = y) := decide_eq_decide.mpr ⟨fun z => by injection z, fun z => by rw [z]⟩
    rw [e]
    simp [PyData.eqv]
    by_cases z : x = y <;> simp [z]
  have si : ∀ (x : Str) (y : Int), PyData.eqv (.str x) (.int y) = decide (V.str x = V.int y) := fun x y => by
    rw [decide_eq_false (fun z => by cases z)]
    simp [PyData.eqv]
  have is : ∀ (x : Int) (y : Str), PyData.eqv (.int x) (.str y) = decide (V.int x = V.str y) := fun x y => by
    rw [decide_eq_false (fun z => by cases z)]
    simp [PyData.eqv]
  rcases ha with rfl | rfl | ⟨i, _, rfl⟩ <;> rcases hb with rfl | rfl | ⟨j, _, rfl⟩ <;> first | exact ss _ _ | exact ii _ _ | exact si _ _ | exact is _ _
theorem eqv_rowD {a b : Row} (ha : NxV a.2) (hb : NxV b.2) : PyData.eqv (rowD a) (rowD b) = decide (a = b) := by
  obtain ⟨a1, a2⟩ := a
  obtain ⟨b1, b2⟩ := b
  unfold rowD
  simp only [PyData.eqv, PyData.eqvAll, eqv_nx ha hb]
  by_cases h1 : a1 = b1
  · by_cases h2 : a2 = b2
    · simp [h1, h2]
    · simp [h1, h2]
  · have : T a1 ≠ T b1 := fun z => h1 (T_inj z)
    have e : (T a1 == T b1) = false := beq_eq_false_iff_ne.mpr this
    simp [h1, e]
def okR (es : List Row) : Prop := ∀ e ∈ es, IsB e.1 ∧ NxV e.2
theorem eqv_rowL : ∀ {a b : List Row}, okR a → okR b → PyData.eqvAll (a.map rowD) (b.map rowD) = decide (a = b)
  | [], [], _, _ => by simp [PyData.eqvAll]
  | [], _ :: _, _, _ => by simp [PyData.eqvAll]
  | _ :: _, [], _, _ => by simp [PyData.eqvAll]
  | x :: a, y :: b, ha, hb => by
    have ih := eqv_rowL (a := a) (b := b) (fun e he => ha e (List.mem_cons_of_mem _ he)) (fun e he => hb e (List.mem_cons_of_mem _ he))
    simp only [List.map_cons, PyData.eqvAll, eqv_rowD (ha x List.mem_cons_self).2 (hb y List.mem_cons_self).2, ih]
    by_cases h : x = y
    · subst h; simp
    · simp [h]
theorem eqv_rowT {a b : List Row} (ha : okR a) (hb : okR b) : PyData.eqv (.tuple (a.map rowD)) (.tuple (b.map rowD)) = decide (a = b) := by
  simp only [PyData.eqv]
  exact eqv_rowL ha hb
theorem call_isCK {X : Cx} {K : PySem.W.Frag} {C : Addr} (hK : X.K = K) (c : C8.InsC K C) : CallR X (.builtin "isinstance") (fun xs H Q => ∃ a dx fs, xs = [.ref a, .ref C] ∧ H a = some (.ins C dx fs) ∧ Q (.bl true) H) := by
  subst hK
  exact C8.call_isC c
theorem okR_perm {a b : List Row} (h : SrR a b) (hb : okR b) : okR a := fun e he => hb e (h.2.perm.mem_iff.mp he)
/-- two tables, by what they hold -/
def RT (CT : Addr) (a b : Addr) (z : Bool) (H : Hp) : Prop := ∃ e1 e2 s1 s2, Tb CT H a e1 ∧ Tb CT H b e2 ∧ okR e1 ∧ okR e2 ∧ SrR s1 e1 ∧ SrR s2 e2 ∧ z = decide (s1 = s2)
section
variable {P : Program} {w : World} {K : PySem.W.Frag} {mg : Str → Option Value} {base : Heap} {f : Addr} {fd : FuncData} {CT CB CW CO : Addr}
abbrev sEq : Stmt := inClass (top 22) 1
theorem scEq : FnScope ["self", "other"] ["self", "other"] (defScope sEq) := ⟨rfl, rfl, rfl, by decide +kernel, rfl, by decide +kernel, by decide +kernel⟩
theorem ok_eq (B : Bl mg) (X : TX K CT) (g : mg "Table" = some (.ref CT)) (F : FnM K "__eq__" "Table.__eq__" sEq f fd) : FnOk P w K mg base CX0 1 f fd ["self", "other"] (spEqB (RT CT)) := by
  refine F.ok scEq (fun vs H Q E h => ?_) (fun cdv A outer s H vs Q E hr h => ?_)
  · obtain ⟨a, b, z, rfl, _⟩ := h
    rfl
  · obtain ⟨a, b, z, rfl, ⟨e1, e2, s1, s2, h1, h2, o1, o2, r1, r2, rfl⟩, k⟩ := h
    have hu : (A.deeper (envOfC "Table.__eq__" (defScope sEq) s.heap.objs.size f cdv)).units + 64 < cLine := by have := hr.un; omega
    refine ⟨_, pss_one (ps_ret (pe_and (pe_callB (call_isCK (K := K) rfl X.ic) (by rfl) B.isi boot_isinstance (pa_cons (pv 1) (pa_cons (pe_glob (v := .ref CT) (by rfl) g rfl) pa_nil)))
      (pe_one (pe_cmpR (op_eqD hu) (pe_fld (pv 0) rfl) (pe_fld (pv 1) rfl) (nomark _))))), ?_⟩
    obtain ⟨dx, fs, te, nd, us, es, i1, i2, i3, i4, i5, i6, i7, i8⟩ := h1
    obtain ⟨dy, gs, tf, ne, vs, fs', j1, j2, j3, j4, j5, j6, j7, j8⟩ := h2
    obtain rfl := r1.uniq i7
    obtain rfl := r2.uniq j7
    have ok1 := okR_perm r1 o1
    have ok2 := okR_perm r2 o2
    have c1 : Ev (tCB (fun xs H Q => ∃ a dx fs, xs = [.ref a, .ref CT] ∧ H a = some (.ins CT dx fs) ∧ Q (.bl true) H) (tCons (tVar 1) (tCons (tC (.ref CT)) tNil))) (start ["self", "other"] [V.ref a, .ref b]) H (.bl true) := fun H1 e Q1 q1 => ⟨.ref b, rfl, b, dy, gs, rfl, e _ _ j1, q1 H1 (Ex.refl _)⟩
    have c2 : Ev (tOp (rEqD K) (tFld K (tVar 0) "entries") (tFld K (tVar 1) "entries")) (start ["self", "other"] [V.ref a, .ref b]) H (.bl (decide (s1 = s2))) := fun H1 e Q1 q1 => by
      refine ⟨.ref a, rfl, a, CT, dx, fs, .ref te, rfl, e _ _ i1, X.ic.cl, X.nE, i2, .ref b, rfl, b, CT, dy, gs, .ref tf, rfl, e _ _ j1, X.ic.cl, X.nE, j2, ?_⟩
      exact ⟨_, _, rows_dp (e _ _ i5) (i6.mono e) ok1, rows_dp (e _ _ j5) (j6.mono e) ok2, rows_shaped ok1, rows_shaped ok2, by rw [eqv_rowT ok1 ok2]; exact q1 H1 (Ex.refl _)⟩
    exact s_ret (v := .bl (true && decide (s1 = s2))) (ev_andV c1 fun _ => c2) k
def DT (CT : Addr) : EqvB := DInsB CT (RT CT)
theorem dt_of {H : Hp} {a b : Addr} {e1 e2 s1 s2 : List Row} (h1 : Tb CT H a e1) (h2 : Tb CT H b e2) (o1 : okR e1) (o2 : okR e2) (r1 : SrR s1 e1) (r2 : SrR s2 e2) : DT CT (.ref a) (.ref b) (decide (s1 = s2)) H := by
  obtain ⟨dx, fs, te, nd, us, es, i1, _⟩ := id h1
  obtain ⟨dy, gs, tf, ne, vs, fs', j1, _⟩ := id h2
  exact ⟨a, b, dx, dy, fs, gs, rfl, rfl, i1, j1, e1, e2, s1, s2, h1, h2, o1, o2, r1, r2, rfl⟩
structure MqT (P : Program) (w : World) (K : PySem.W.Frag) (mg : Str → Option Value) (base : Heap) (CT : Addr) : Prop where
  ex : ∃ (fE : Addr) (fd : FuncData), Meth K CT "__eq__" fE ∧ FnOk P w K mg base CX0 1 fE fd ["self", "other"] (spEqB (RT CT)) ∧ Binds K fd ["self", "other"] []
theorem rc_DT {X : Cx} (M : MqT X.prog X.w X.K X.mg X.base CT) : RcB X 1 (DT CT) := by
  obtain ⟨fE, fd, me, Fn, b⟩ := M.ex
  exact rcB_ins (E := E0) Fn me.at_ me.fn b pass0
end
end Wk

set_option Elab.async false
set_option linter.all false
set_option maxRecDepth 100000
set_option maxHeartbeats 4000000
namespace Wk
open PySem PySem.Spec PyProof.Rows L2 Evl LamX
theorem est_rev {H : Hp} : ∀ {us : List V} {es : List Row}, EsT H us es → EsT H us.reverse es.reverse
  | _, _, .nil => .nil
  | _, _, .cons h t => by
    rw [List.reverse_cons, List.reverse_cons]
    exact est_snoc h (est_rev t)
section
variable {P : Program} {w : World} {K : PySem.W.Frag} {mg : Str → Option Value} {base : Heap} {f : Addr} {fd : FuncData} {CT Pt : Addr}
/-! law -/
def spLaw (K : PySem.W.Frag) (Pt : Addr) : Sp := fun vs H Q _ => ∃ (a : Addr) (ns : List Int), vs = [.ref a] ∧ SqL K H a (ns.map V.int) ∧ ns.length ≤ 63 ∧ Tabs (TF Pt) H ∧ ∀ H', Q (.bl true) H'
abbrev sLaw : Stmt := top 38
abbrev nLaw : List Str := ["_law_script", "_law_pool_here", "_law_row", "_law_table", "_law_small", "_law_item", "_law_turned", "_law_again"]
theorem scLaw : FnScope nLaw ["_law_script"] (defScope sLaw) := ⟨rfl, rfl, rfl, by decide +kernel, rfl, by decide +kernel, by decide +kernel⟩
structure Cs (P : Program) (w : World) (K : PySem.W.Frag) (mg : Str → Option Value) (base : Heap) (CT Pt : Addr) : Prop where
  pool : Cal P w K mg base "_law_pool" ["_law_script"] 1 (spPool K)
  se : Cal P w K mg base "_law_small_entries" ["_law_pool_here"] 2 spSE
  pnt : Cal P w K mg base "_law_painted" ["_law_entries"] 1 spPnt
  p8 : Cal P w K mg base "_law_small_painted" ["_law_entries"] 1 spP8
  ie : Cal P w K mg base "_law_is_entry" ["_law_item"] 1 spLEn
  pos : Cal P w K mg base "_law_possible" ["_law_due", "_law_chosen", "_law_left"] 33 (spPosx 31)
  few : Cal P w K mg base "fewest" ["table"] 14 (spFew CT Pt)
  mkT : MkT P w K mg base CT
  mq : MqT P w K mg base CT
theorem ok_law (B : Bl mg) (hso : mg "sorted" = none) (X : TX K CT) (S : Cs P w K mg base CT Pt) (F : FnP K "law" sLaw f fd) : FnOk P w K mg base CX0 34 f fd ["_law_script"] (spLaw K Pt) := by
  obtain ⟨fI, fdI, mk, FI, bI⟩ := S.mkT.ex
  refine F.ok scLaw (fun vs H Q E h => ?_) (fun cdv A outer s H vs Q E hr h => ?_)
  · obtain ⟨a, ns, rfl, _⟩ := h
    rfl
  · obtain ⟨a0, ns, rfl, hS, hns, hTb, k⟩ := h
    have r7 : Room 7 _ := hr.mono (by decide)
    have r1 : Room 1 _ := hr.mono (by decide)
    have hu : (A.deeper (envOfC "law" (defScope sLaw) s.heap.objs.size f cdv)).units + 64 < cLine := by have := hr.un; omega
    refine ⟨_, pss_cons (ps_set (i := 1) scLaw.nd rfl (Or.inl rfl) (pe_cal S.pool hr (by rfl) (pa_cons (pv 0) pa_nil)))
      (pss_cons (ps_set (i := 2) scLaw.nd rfl (Or.inl rfl) (pe_cal S.se hr (by rfl) (pa_cons (pv 1) pa_nil)))
      (pss_cons (ps_set (i := 3) scLaw.nd rfl (Or.inl rfl) (pe_mkAt (CX := CX0) (W := WF) mk FI r7 (by rfl) S.mkT.g bI (fun _ _ _ _ _ _ _ h => h.elim) (pa_cons (pe_callTy (call_listK2 (K := K) rfl) (by rfl) B.list PyProof.Rows.boot_list (pa_cons (pv 2) pa_nil)) pa_nil)))
      (pss_cons (ps_set (i := 4) scLaw.nd rfl (Or.inl rfl) (pe_cal S.few hr (by rfl) (pa_cons (pv 3) pa_nil)))
      (pss_cons (ps_if (PW.pt (pw_or (pt_not (pt_val (pe_callB (call_isCK (K := K) rfl X.ic) (by rfl) B.isi boot_isinstance (pa_cons (pv 4) (pa_cons (pe_glob (v := .ref CT) (by rfl) S.mkT.g rfl) pa_nil)))))
          (pw_or (pt_not (pt_val (pe_callB call_isi (by rfl) B.isi boot_isinstance (pa_cons (pe_fld (pv 4) rfl) (pa_cons (pe_bltn (v := .ty "tuple") (by rfl) B.tuple PyProof.Rows.boot_tuple rfl) pa_nil)))))
          (pw_or1 (pt_cmpR op_gt (pe_callB call_len_seq (by rfl) B.len PySem.boot_len (pa_cons (pe_fld (pv 4) rfl) pa_nil)) (pe_callB call_len_seq (by rfl) B.len PySem.boot_len (pa_cons (pv 2) pa_nil)) (nomark _)))))) (pss_one (ps_ret pe_bl)) pss_nil)
      (pss_cons (ps_for (passes_of rfl) rfl (pi_tupK (K := K) rfl (pe_fld (pv 4) rfl)) (pg_name (i := 5) scLaw.nd rfl (Or.inl rfl))
        (pss_one (ps_if (pt_not (pt_val (pe_cal S.ie hr (by rfl) (pa_cons (pv 5) pa_nil)))) (pss_one (ps_ret pe_bl)) pss_nil)))
      (pss_cons (ps_if (pt_cmpR (op_neD hu) (pe_cal S.pnt hr (by rfl) (pa_cons (pe_fld (pv 4) rfl) pa_nil)) (pe_cal S.pnt hr (by rfl) (pa_cons (pv 2) pa_nil)) (nomark _)) (pss_one (ps_ret pe_bl)) pss_nil)
      (pss_cons (ps_if (pt_val (pe_cal S.pos hr (by rfl) (pa_cons (pe_cal S.p8 hr (by rfl) (pa_cons (pv 2) pa_nil)) (pa_cons (pe_lst pa_nil) (pa_cons (pe_op op_sub (pe_callB call_len_seq (by rfl) B.len PySem.boot_len (pa_cons (pe_fld (pv 4) rfl) pa_nil)) pe_int) pa_nil))))) (pss_one (ps_ret pe_bl)) pss_nil)
      (pss_cons (ps_set (i := 6) scLaw.nd rfl (Or.inl rfl) (pe_callTy (call_listK2 (K := K) rfl) (by rfl) B.list PyProof.Rows.boot_list (pa_cons (pv 2) pa_nil)))
      (pss_cons (ps_expr (pe_bm0 PySem.F.plainAttrs_list PySem.F.slot_list_reverse PySem.F.type_list_reverse mt_reverse (pv 6)))
      (pss_cons (ps_set (i := 7) scLaw.nd rfl (Or.inl rfl) (pe_cal S.few hr (by rfl) (pa_cons (pe_mkAt (CX := CX0) (W := WF) mk FI r7 (by rfl) S.mkT.g bI (fun _ _ _ _ _ _ _ h => h.elim) (pa_cons (pe_callTy (call_tupleK (K := K) rfl) (by rfl) B.tuple PyProof.Rows.boot_tuple (pa_cons (pv 6) pa_nil)) pa_nil)) pa_nil)))
      (pss_cons (ps_if (PW.pt (pw_or (pt_not (pt_cmpR (op_eqB (rc_DT S.mq) r1) (pv 7) (pv 4) (nomark _))) (pw_or1 (pt_cmpR (op_neD hu) (pe_fld (pv 7) rfl) (pe_fld (pv 4) rfl) (nomark _))))) (pss_one (ps_ret pe_bl)) pss_nil)
      (pss_cons (ps_if (pt_cmpR op_ne (pe_callB call_len_seq (by rfl) B.len PySem.boot_len (pa_cons (pe_fld (pe_cal S.few hr (by rfl) (pa_cons (pv 4) pa_nil)) rfl) pa_nil)) (pe_callB call_len_seq (by rfl) B.len PySem.boot_len (pa_cons (pe_fld (pv 4) rfl) pa_nil)) (nomark _)) (pss_one (ps_ret pe_bl)) pss_nil)
      (pss_one (ps_ret (pe_cmpR (op_eqD hu) (pe_fld (pv 3) rfl) (pe_callTy (call_tupleK (K := K) rfl) (by rfl) B.tuple PyProof.Rows.boot_tuple (pa_cons (pe_callB (cr_sortedR (K := K) rfl) (by rfl) hso PyProof.Rows.boot_sorted (pa_cons (pv 2) pa_nil)) pa_nil)) (nomark _)))))))))))))))), ?_⟩
    refine ⟨.ref a0, rfl, a0, ns, rfl, hS, hns, fun G H1 p g c eG hP => ?_⟩
    refine g_name ?_
    dsimp only
    change tSeq (tAsg _ _) _ _ [some (.ref a0), some (.ref p), none, none, none, none, none, none] H1
    refine q_asgW ⟨.ref p, rfl, G, p, g, c, rfl, hP, fun G2 H2 L us es gq hL hus hes h3 => ?_⟩
    have eGH := gq.pl.ex
    have hL2 := eGH _ _ hL
    have hus2 := hus.mono eGH
    have T2 := hTb.ext (eG.trans (gq.ex.trans eGH))
    have hes24 := hes.le (show 15 ≤ 24 by decide)
    clear hP gq hL hus eGH eG hS
    change tSeq _ _ _ [some (.ref a0), some (.ref p), some (.ref L), none, none, none, none, none] H2
    refine q_asgW ?_
    refine ⟨.ref L, rfl, L, us, rfl, .inl (sq_of hL2), fun l1 hl1 => ?_⟩
    have x1 := Ex.new (o := .lst us) hl1
    refine mk_tab (us := us) (es := es) (.inl upd_same) (hus2.mono x1) hes24 fun t1 H3 x2 ht1 hT1 => ?_
    have e23 := x1.trans x2
    clear x1 x2
    change tSeq _ _ _ [some (.ref a0), some (.ref p), some (.ref L), some (.ref t1), none, none, none, none] H3
    refine q_asgW ⟨.ref t1, rfl, t1, es, hes24, rfl, hT1, T2.ext e23, fun H4 y x34 T4 ny hTy => ?_⟩
    have hL4 := x34.lst (e23 _ _ hL2)
    have hus4 := (hus2.mono e23).tk x34.tk
    have hT14 := hT1.xn x34
    have hul := hus4.lenE
    have hel : es.length ≤ 15 := hes.len
    change tSeq _ _ _ [some (.ref a0), some (.ref p), some (.ref L), some (.ref t1), some (.ref y), none, none, none] H4
    have okF := few24 hes24 hes24.len
    have hle : (few es hes24).length ≤ es.length := few_le hes24
    have hpnt := fun i hi => few_pnt hes24 (i := i) hi
    have hmn := few_mn3 hes24 h3
    have hff := few_few hes24 okF
    obtain ⟨te, us', es', hte, hus', hsr, fE⟩ := tb_ent (K := K) X hTy
    have hlen := hsr.2.perm.length_eq
    have okE := okF.perm hsr.2.perm
    have hul' := hus'.lenE
    have okr : ∀ e ∈ es', IsB e.1 ∧ NxV e.2 := fun e he => ⟨(okE.it e he).1, (okE.it e he).2.2⟩
    have hpE : ∀ i, i < 1024 → pnt (.str "drop") es' i = pnt (.str "drop") es i := fun i hi => by rw [pnt_perm hsr.2.perm okF hi, hpnt i hi]
    -- what it is
    have c1 : Ev (tCB (fun xs H Q => ∃ a dx fs, xs = [.ref a, .ref CT] ∧ H a = some (.ins CT dx fs) ∧ Q (.bl true) H) (tCons (tVar 4) (tCons (tC (.ref CT)) tNil))) [some (.ref a0), some (.ref p), some (.ref L), some (.ref t1), some (.ref y), none, none, none] H4 (.bl true) := fun H5 e Q1 q1 => by
      obtain ⟨dx, fs, te, nd, us', es', i1, _⟩ := id hTy
      exact ⟨.ref y, rfl, y, dx, fs, rfl, e _ _ i1, q1 H5 (Ex.refl _)⟩
    have c2 : Ev (tCB (rIsi K) (tCons (tFld K (tVar 4) "entries") (tCons (tC (.ty "tuple")) tNil))) [some (.ref a0), some (.ref p), some (.ref L), some (.ref t1), some (.ref y), none, none, none] H4 (.bl true) := ev_isi (K := K) (fE (Ex.refl _) (ev_var rfl)) (.tup hte (hus'.dq fun e he => (okr e he).2)) (show kitB "tuple" "tuple" = some true by decide +kernel)
    have l4 : ∀ {H5 : Hp} {o5 o6 o7 : Option V}, Ex H4 H5 → Ev (tCB (rLenS K) (tCons (tFld K (tVar 4) "entries") tNil)) [some (.ref a0), some (.ref p), some (.ref L), some (.ref t1), some (.ref y), o5, o6, o7] H5 (.int (us'.length : Int)) := fun e => ev_lenT (K := K) (fE e (ev_var rfl)) (st_of (e _ _ hte))
    have l2 : Ev (tCB (rLenS K) (tCons (tVar 2) tNil)) [some (.ref a0), some (.ref p), some (.ref L), some (.ref t1), some (.ref y), none, none, none] H4 (.int (us.length : Int)) := ev_len (K := K) (ev_var rfl) (sq_of hL4)
    refine q_when (b := !true || (!true || decide ((us.length : Int) < (us'.length : Int)))) (et_or (et_not (et_B c1)) fun _ => et_or (et_not (et_B c2)) fun _ => et_test (ev_op (r := rI0 fun i j => .bl (decide (j < i))) (l4 (Ex.refl _)) l2 rv_I0)) (fun z => ?_) fun _ H5 e5 => ?_
    · exfalso
      have z : (us.length : Int) < (us'.length : Int) := of_decide_eq_true (by simpa using z)
      omega
    clear c1 c2 l2
    -- its entries
    refine q_forT (K := K) (g := gName 5) (fE (σ := [some (.ref a0), some (.ref p), some (.ref L), some (.ref t1), some (.ref y), none, none, none]) (tx := tVar 4) e5 (ev_var rfl)) (st_of (e5 _ _ hte)) (fun i σ' H' => ∃ o5, σ' = [some (.ref a0), some (.ref p), some (.ref L), some (.ref t1), some (.ref y), o5, none, none] ∧ Ex H4 H') (fun H6 e6 => ⟨_, rfl, e5.trans e6⟩) (fun i σ' H' _ hp => ?_) (fun i x σ' H' hx hp => ?_) (fun σ' H' hp => ?_)
    · obtain ⟨_, _, e6⟩ := hp
      exact st_of (e6 _ _ hte)
    · obtain ⟨o5, rfl, e6⟩ := hp
      obtain ⟨b, e, rfl, he, hb⟩ := hus'.at_ hx
      obtain ⟨i1, i2, i3⟩ := okE.it e (List.mem_of_getElem? he)
      show tIfS _ _ _ _ [some (.ref a0), some (.ref p), some (.ref L), some (.ref t1), some (.ref y), some (.ref b), none, none] H'
      have d1 : Ev (tCall spLEn [] E0 (tCons (tVar 5) tNil)) [some (.ref a0), some (.ref p), some (.ref L), some (.ref t1), some (.ref y), some (.ref b), none, none] H' (.bl true) := fun H7 e7 Q7 q7 => ⟨.ref b, rfl, b, e.1, e.2, rfl, e7 _ _ (e6 _ _ hb), i1, i2, i3, fun H8 e8 => q7 H8 e8⟩
      exact s_when (b := !true) (et_not (et_B d1)) (fun z => by cases z) fun _ H7 e7 => ⟨_, rfl, e6.trans e7⟩
    obtain ⟨o5, rfl, e6⟩ := hp
    -- it paints the same
    have pE : ∀ i, i < 1024 → NxV (pnt (.str "drop") es i) := fun i hi => pnt_nx hes24 hi
    have hfv : fV (pnt (.str "drop") es') = fV (pnt (.str "drop") es) := by
      unfold fV
      exact List.map_congr_left fun i hi => hpE i (List.mem_range.mp hi)
    have nfv : ∀ v ∈ fV (pnt (.str "drop") es), NxV v := fun v hv => by
      unfold fV at hv
      obtain ⟨i, hi, rfl⟩ := List.mem_map.mp hv
      exact pE i (List.mem_range.mp hi)
    have d2 : Ev (tOp (rNeD K) (tCall spPnt [] E0 (tCons (tFld K (tVar 4) "entries") tNil)) (tCall spPnt [] E0 (tCons (tVar 2) tNil))) [some (.ref a0), some (.ref p), some (.ref L), some (.ref t1), some (.ref y), o5, none, none] H' (.bl (!decide (fV (pnt (.str "drop") es) = fV (pnt (.str "drop") es)))) := fun H7 e7 Q7 q7 => by
      refine fE (σ := [some (.ref a0), some (.ref p), some (.ref L), some (.ref t1), some (.ref y), o5, none, none]) (tx := tVar 4) (e6.trans e7) (ev_var rfl) H7 (Ex.refl _) _ fun H8 e8 => ?_
      have e48 := (e6.trans e7).trans e8
      refine ⟨te, us', es', 24, rfl, .inr (e48 _ _ hte), hus'.mono e48, okE, by decide, fun H9 D9 n9 e9 h9 => ?_⟩
      refine ⟨.ref L, rfl, L, us, es, 24, rfl, .inl (e9 _ _ (e48 _ _ hL4)), hus4.mono (e48.trans e9), hes24, by decide, fun HA DA nA eA hA => ?_⟩
      rw [hfv] at h9
      refine ⟨_, _, dl_nxs nfv (eA _ _ h9), dl_nxs nfv hA, sh_nxs nfv, sh_nxs nfv, ?_⟩
      rw [PyData.eqv, eqvAll_nxs nfv nfv]
      exact q7 HA ((e8.trans e9).trans eA)
    refine q_when (b := !decide (fV (pnt (.str "drop") es) = fV (pnt (.str "drop") es))) (et_test d2) (fun z => by simp at z) fun _ H7 e7 => ?_
    clear d2
    have e47 := e6.trans e7
    -- no fewer do
    have d3 : Ev (tCall (spPosx 31) [] E0 (tCons (tCall spP8 [] E0 (tCons (tVar 2) tNil)) (tCons (tLst tNil) (tCons (tOp (rI0 fun i j => .int (i - j)) (tCB (rLenS K) (tCons (tFld K (tVar 4) "entries") tNil)) (tC (.int 1))) tNil)))) [some (.ref a0), some (.ref p), some (.ref L), some (.ref t1), some (.ref y), o5, none, none] H7 (.bl false) := fun H8 e8 Q8 q8 => by
      have e48 := e47.trans e8
      refine ⟨.ref L, rfl, L, us, es, 24, rfl, .inl (e48 _ _ hL4), hus4.mono e48, hes24, by decide, h3, fun H9 D9 n9 e9 h9 => ⟨sz_of (by decide), fun q nq => ?_⟩⟩
      have eA := Ex.new (o := .lst []) nq
      have hq : (upd H9 q (.lst [])) q = some (.lst []) := upd_same
      generalize upd H9 q (.lst []) = HA at *
      refine l4 (o5 := o5) (o6 := none) (o7 := none) ((e48.trans e9).trans eA) HA (Ex.refl _) _ fun HB eB => ⟨(us'.length : Int), 1, rfl, rfl, ?_⟩
      refine ⟨D9, q, [], [], p8 (.str "drop") es, (few es hes24).length, (us'.length : Int) - 1, rfl, eB _ _ (eA _ _ h9), fun i hi => p8_nx (fun e he => (hes24.it e he).2.2) i, eB _ _ hq, .nil, List.nodup_nil, (fun e he => by cases he), (fun e he => by cases he), hmn, by omega, ?_, by show (us'.length : Int) - 1 < ((30 : Nat) : Int) + 1; omega, fun HC eC => q8 HC (((e9.trans eA).trans eB).trans eC)⟩
      show ((0 : Nat) : Int) + ((us'.length : Int) - 1) < _
      omega
    refine q_when (b := false) (et_B d3) (fun z => by cases z) fun _ H8 e8 => ?_
    clear d3
    have e48 := e47.trans e8
    -- the row turned
    have hrp : es.reverse.Perm es := List.reverse_perm es
    have okRv := hes24.perm hrp
    have hfr := few_congr okRv hes24 fun i hi => pnt_perm hrp hes24 hi
    refine q_asgW ⟨.ref L, rfl, L, us, rfl, .inl (sq_of (e48 _ _ hL4)), fun l6 hl6 => ?_⟩
    have x1 := Ex.new (o := .lst us) hl6
    have h6 : (upd H8 l6 (.lst us)) l6 = some (.lst us) := upd_same
    generalize upd H8 l6 (.lst us) = H9 at *
    have n6 : H4 l6 = none := fresh_back e48 hl6
    change tSeq _ _ _ [some (.ref a0), some (.ref p), some (.ref L), some (.ref t1), some (.ref y), o5, some (.ref l6), none] H9
    refine ⟨.ref l6, rfl, .inl ⟨rfl, _, sq_of h6⟩, l6, us, rfl, rfl, h6, ?_⟩
    have e4A := Ex.mut (o := .lst us.reverse) (e48.trans x1) n6
    have h6A : (upd H9 l6 (.lst us.reverse)) l6 = some (.lst us.reverse) := upd_same
    have T8 := T4.ext (e48.trans x1)
    have TA : Tabs (TF Pt) (upd H9 l6 (.lst us.reverse)) := T4.ext e4A
    generalize upd H9 l6 (.lst us.reverse) = HA at *
    dsimp only
    change tSeq _ _ _ [some (.ref a0), some (.ref p), some (.ref L), some (.ref t1), some (.ref y), o5, some (.ref l6), none] HA
    have husA := hus4.mono e4A
    refine q_asgW ?_
    refine ⟨.ref l6, rfl, l6, us.reverse, rfl, .inl ⟨sq_of h6A, fun l2 hl2 => ?_⟩⟩
    have x3 := Ex.new (o := .tup us.reverse) hl2
    refine mk_tab (us := us.reverse) (es := es.reverse) (.inr upd_same) ((est_rev husA).mono x3) okRv fun t2 HB x4 ht2 hT2 => ?_
    have eAB := x3.trans x4
    refine ⟨t2, es.reverse, okRv, rfl, hT2, TA.ext eAB, fun HC y2 xBC TC ny2 hTy2 => ?_⟩
    rw [hfr] at hTy2
    have x4C := (Xn.ex (e4A.trans eAB)).trans xBC
    have hTyC := hTy.xn x4C
    have hT1C := hT14.xn x4C
    have hLC := x4C.lst hL4
    have husC := hus4.tk x4C.tk
    change tSeq _ _ _ [some (.ref a0), some (.ref p), some (.ref L), some (.ref t1), some (.ref y), o5, some (.ref l6), some (.ref y2)] HC
    obtain ⟨te2, us2, es2, hte2, hus2', hsr2, fE2⟩ := tb_ent (K := K) X hTy2
    obtain ⟨te3, us3, es3, hte3, hus3, hsr3, fE3⟩ := tb_ent (K := K) X hTyC
    obtain rfl := hsr2.uniq hsr
    obtain rfl := hsr3.uniq hsr
    have okf : okR (few es hes24) := fun e he => ⟨(okF.it e he).1, (okF.it e he).2.2⟩
    have d4 : Ev (tOp (rEqB (DT CT)) (tVar 7) (tVar 4)) [some (.ref a0), some (.ref p), some (.ref L), some (.ref t1), some (.ref y), o5, some (.ref l6), some (.ref y2)] HC (.bl (decide (es3 = es3))) := fun HD eD Q1 q1 => ⟨_, rfl, _, rfl, _, dt_of (hTy2.mono eD) (hTyC.mono eD) okf okf hsr2 hsr2, fun HE eE => q1 HE eE⟩
    have d5 : Ev (tOp (rNeD K) (tFld K (tVar 7) "entries") (tFld K (tVar 4) "entries")) [some (.ref a0), some (.ref p), some (.ref L), some (.ref t1), some (.ref y), o5, some (.ref l6), some (.ref y2)] HC (.bl false) := fun HD eD Q1 q1 => by
      refine fE2 (σ := [some (.ref a0), some (.ref p), some (.ref L), some (.ref t1), some (.ref y), o5, some (.ref l6), some (.ref y2)]) (tx := tVar 7) eD (ev_var rfl) HD (Ex.refl _) _ fun HE eE => ?_
      refine fE3 (σ := [some (.ref a0), some (.ref p), some (.ref L), some (.ref t1), some (.ref y), o5, some (.ref l6), some (.ref y2)]) (tx := tVar 4) (eD.trans eE) (ev_var rfl) HE (Ex.refl _) _ fun HF eF => ?_
      have eCF := (eD.trans eE).trans eF
      exact ⟨_, _, rows_dp (eCF _ _ hte2) (hus2'.mono eCF) okr, rows_dp (eCF _ _ hte3) (hus3.mono eCF) okr, rows_shaped okr, rows_shaped okr, by rw [rows_eqv okr]; exact q1 HF (eE.trans eF)⟩
    refine q_when (b := !decide (es3 = es3) || false) (et_or (et_not (et_test d4)) fun _ => et_test d5) (fun z => by simp at z) fun _ HD eD => ?_
    clear d4 d5
    -- once more
    have TyD := hTyC.mono eD
    refine ⟨.ref y, rfl, y, few es hes24, okF, rfl, TyD, TC.ext eD, fun HE y3 xDE TE ny3 hTy3 => ?_⟩
    rw [hff] at hTy3
    have xCE := (Xn.ex eD).trans xDE
    obtain ⟨dx4, fs4, te4, nd4, us4, es4, i1, i2, i3, i4, hte4, hus4', hsr4, i8⟩ := hTy3
    obtain ⟨te5, us5, es5, hte5, hus5, hsr5, fE5⟩ := tb_ent (K := K) X (hTyC.xn xCE)
    obtain rfl := hsr4.uniq hsr2
    obtain rfl := hsr5.uniq hsr2
    have q4 := hus4'.lenE
    have q5 := hus5.lenE
    refine ⟨y3, CT, dx4, fs4, .ref te4, rfl, i1, X.ic.cl, X.nE, i2, ?_⟩
    refine ⟨te4, us4, rfl, .inr (st_of hte4), ?_⟩
    have z5 : Ev (tCB (rLenS K) (tCons (tFld K (tVar 4) "entries") tNil)) [some (.ref a0), some (.ref p), some (.ref L), some (.ref t1), some (.ref y), o5, some (.ref l6), some (.ref y2)] HE (.int (us5.length : Int)) := ev_lenT (K := K) (fE5 (Ex.refl _) (ev_var rfl)) (st_of hte5)
    refine z5 HE (Ex.refl _) _ fun HF eF => ⟨rfl, _, rfl, ?_⟩
    rw [q4, q5, decide_eq_true rfl]
    simp only [Bool.not_true, Bool.false_eq_true, if_false]
    unfold tNext
    dsimp only
    exact s_ret (v := .bl true) (ask_sorted X (ev_var rfl) ((hT1C.xn xCE).mono eF) (ev_var rfl) (eF _ _ (xCE.lst hLC)) ((husC.tk xCE.tk).mono eF) hes24) fun HG eG => k HG
end
end Wk

set_option Elab.async false
set_option linter.all false
set_option maxRecDepth 100000
set_option maxHeartbeats 4000000
namespace Wk
open PySem PySem.Spec PyProof.Rows L2 Evl LamX
theorem code_at {K : PySem.W.Frag} {p : He.Defn} {x q : Str} {params : Arguments} {body : List Stmt} {scope : Scope} {dvs : List V} {kws : List (Str × V)} {fd : FuncData} (F : FunD K x q params body scope dvs kws (He.fAd K p) fd) : fd.code = .ref (He.cT K p).1 := by
  obtain ⟨oc, od, dV, kV, doc, pm, an, cdv, ct, osl, e, lk, hcd, _, _⟩ := F.ex
  subst e
  obtain ⟨c, hc⟩ := He.codeIn_ref hcd
  have z : (PySem.W.fnOf x q params body scope dV kV doc pm an cdv ct).code = .ref c := hc
  show _ = Value.ref (He.codeOf K p)
  rw [He.codeOf_eq lk z]
  exact z
theorem law_at {w : World} {h : Heap} {K : PySem.W.Frag} {mg : Str → Option Value} {fa : Addr} {fd : FuncData} (c : He.SaysX Wk.fa fn [] tf eb w h K) (kx : K.In h) (hb : ∀ (t : Shared) (u : Value), BindsTo t fd ⟨[u], []⟩ [("_law_script", u)])
    (hF : ∀ base : Heap, K.In base → base.Ns mainGlobals mg → TabB base mg (He.cT K ("fewest_entries", none)).1 (He.cT K ("fewest_entries", none)).2 → FnOk (PySem.Challenge.rw_wishreels_k85_whole_fewest_entries_of_sm).prog w K mg base CX0 34 fa fd ["_law_script"] (spLaw K (He.cT K ("fewest_entries", none)).2)) :
    LawAtS PySem.Challenge.rw_wishreels_k85_whole_fewest_entries_of_sm w K CX0 34 63 "_law_script" mg fa h := by
  have hm : (("fewest_entries", none) : He.Defn) ∈ tf := List.mem_singleton.mpr rfl
  refine ⟨fd, [He.cT K ("fewest_entries", none)], spLaw K (He.cT K ("fewest_entries", none)).2, fun p hp => ?_, fun p hp => ?_, fun p hp => ?_, hb, fun H a ns hl _ hH hS => ⟨a, ns, rfl, hS, hl, fun q hq => ?_, fun _ => rfl⟩, fun base k1 k2 hTB => hF base k1 k2 (hTB _ (List.mem_singleton.mpr rfl))⟩
  · rw [List.mem_singleton.mp hp]
    exact c.empty _ hm
  · rw [List.mem_singleton.mp hp]
    exact c.out _ hm
  · rw [List.mem_singleton.mp hp]
    exact PySem.W.codeHd_of_K kx (c.hd _ hm)
  · rw [List.mem_singleton.mp hq]
    exact TabS.nil (hH _ (List.mem_singleton.mpr rfl))
end Wk

set_option Elab.async false
set_option linter.all false
set_option maxRecDepth 100000
set_option maxHeartbeats 4000000
namespace Wk
open PySem PySem.Spec PyProof.Rows L2 Evl
theorem facts {P : Program} {w : World} {K : PySem.W.Frag} {h : Heap} {mg : Str → Option Value} {f : Addr} (X : K.In h) (G : h.Ns mainGlobals mg) (hfa : mg ("law" : Str) = some (.ref f)) (c : He.SaysD fa fn K) (cx : eb K = true) :
    ∃ fd : FuncData, (∀ (t : Shared) (u : Value), BindsTo t fd ⟨[u], []⟩ [("_law_script", u)]) ∧ ∀ base : Heap, K.In base → base.Ns mainGlobals mg → (LamX.TabB base mg (He.cT K ("fewest_entries", none)).1 (He.cT K ("fewest_entries", none)).2) → FnOk P w K mg base CX0 34 f fd ["_law_script"] (spLaw K (He.cT K ("fewest_entries", none)).2) := by
  obtain ⟨d0, F0⟩ := c.def_ 0 (d := dG "is_integer" 6) rfl
  obtain ⟨d1, F1⟩ := c.def_ 1 (d := dG "is_between" 7) rfl
  obtain ⟨d2, F2⟩ := c.def_ 2 (d := dG "is_row" 8) rfl
  obtain ⟨d3, F3⟩ := c.def_ 3 (d := dG "is_tuple_of" 9) rfl
  obtain ⟨d4, F4⟩ := c.def_ 4 (d := dG "is_router" 10) rfl
  obtain ⟨d5, F5⟩ := c.def_ 5 (d := dG "is_range" 13) rfl
  obtain ⟨d6, F6⟩ := c.def_ 6 (d := dG "is_address" 14) rfl
  obtain ⟨d7, F7⟩ := c.def_ 7 (d := dG "addresses" 15) rfl
  obtain ⟨d8, F8⟩ := c.def_ 8 (d := dG "beginnings" 16) rfl
  obtain ⟨d9, F9⟩ := c.def_ 9 (d := dD "merged" 17 [.str ""]) rfl
  obtain ⟨d10, F10⟩ := c.def_ 10 (d := dG "refuse_wrong_entries" 23) rfl
  obtain ⟨d11, F11⟩ := c.def_ 11 (d := dG "is_entry" 24) rfl
  obtain ⟨d12, F12⟩ := c.def_ 12 (d := dG "is_end" 25) rfl
  obtain ⟨d13, F13⟩ := c.def_ 13 (d := dG "parts" 26) rfl
  obtain ⟨d14, F14⟩ := c.def_ 14 (d := dG "fewest" 28) rfl
  obtain ⟨d15, F15⟩ := c.def_ 15 (d := dG "fewest_entries" 29) rfl
  obtain ⟨d16, F16⟩ := c.def_ 16 (d := dG "_law_pool" 31) rfl
  obtain ⟨d17, F17⟩ := c.def_ 17 (d := dG "_law_draw" 32) rfl
  obtain ⟨d18, F18⟩ := c.def_ 18 (d := dG "_law_painted" 33) rfl
  obtain ⟨d19, F19⟩ := c.def_ 19 (d := dG "_law_small_entries" 34) rfl
  obtain ⟨d20, F20⟩ := c.def_ 20 (d := dG "_law_small_painted" 35) rfl
  obtain ⟨d21, F21⟩ := c.def_ 21 (d := dG "_law_possible" 36) rfl
  obtain ⟨d22, F22⟩ := c.def_ 22 (d := dG "_law_is_entry" 37) rfl
  obtain ⟨d23, F23⟩ := c.def_ 23 (d := dG "law" 38) rfl
  obtain ⟨d24, F24⟩ := c.def_ 24 (d := dM "Table" "__init__" "Table.__init__" 22 0) rfl
  obtain ⟨d25, F25⟩ := c.def_ 25 (d := dM "Table" "__eq__" "Table.__eq__" 22 1) rfl
  obtain ⟨d26, F26⟩ := c.def_ 26 (d := dM "Table" "onward" "Table.onward" 22 2) rfl
  have e := hfa.symm.trans (He.glo_ok X G (c.fact 23 (f := .glo "law") rfl))
  cases e
  have bL := FunD.bindsA (ps := ["_law_script"]) F23 fun _ _ _ _ _ _ us hl => match us, hl with | [_], _ => rfl
  have B : Bl mg := ⟨He.free_ok X G (c.fact 24 rfl), He.free_ok X G (c.fact 25 rfl), He.free_ok X G (c.fact 26 rfl), He.free_ok X G (c.fact 27 rfl), He.free_ok X G (c.fact 28 rfl), He.free_ok X G (c.fact 29 rfl), He.free_ok X G (c.fact 30 rfl), He.free_ok X G (c.fact 31 rfl), He.free_ok X G (c.fact 32 rfl), He.free_ok X G (c.fact 33 rfl), He.free_ok X G (c.fact 34 rfl), He.free_ok X G (c.fact 35 rfl), He.free_ok X G (c.fact 36 rfl), He.free_ok X G (c.fact 37 rfl)⟩
  have hso : mg "sorted" = none := He.free_ok X G (c.fact 38 (f := .free "sorted") rfl)
  obtain ⟨t8, m8⟩ := He.int_ok X G (c.fact 39 (f := .int "MOST_ROUTERS" 8) rfl)
  obtain ⟨tA, mA⟩ := He.int_ok X G (c.fact 40 (f := .int "ADDRESS_LENGTH" 10) rfl)
  obtain ⟨tE, mE⟩ := He.int_ok X G (c.fact 41 (f := .int "MOST_ENTRIES" 24) rfl)
  obtain ⟨tH, mH⟩ := He.str_ok X G (c.fact 49 (f := .str "HERE" "here") rfl)
  obtain ⟨tD, mD⟩ := He.str_ok X G (c.fact 50 (f := .str "DROP" "drop") rfl)
  have TXx : TX K (He.ga K "Table") := insB_ok cx (He.cls_ok (c.fact 43 (f := .cls "Table") rfl)) (He.noat_ok (c.fact 47 (f := .noat "Table" "entries") rfl)) (He.noat_ok (c.fact 48 (f := .noat "Table" "_nexts") rfl))
  refine ⟨d23, fun t u => bL t [u] rfl, fun base _ _ TB => ?_⟩
  have C0 : Cal P w K mg base "is_integer" ["thing"] 1 spIsInt := calOf F0 (ok_isInt B F0) (He.glo_ok X G (c.fact 0 rfl)) (F0.bindsN fun _ _ _ _ _ _ us hl => match us, hl with | [_], _ => rfl)
  have C1 : Cal P w K mg base "is_between" ["least", "most", "thing"] 2 spBetween := calOf F1 (ok_between B C0 F1) (He.glo_ok X G (c.fact 1 rfl)) (F1.bindsN fun _ _ _ _ _ _ us hl => match us, hl with | [_, _, _], _ => rfl)
  have C2 : Cal P w K mg base "is_router" ["size", "thing"] 3 spRouter := calOf F4 (ok_router C1 F4) (He.glo_ok X G (c.fact 4 rfl)) (F4.bindsN fun _ _ _ _ _ _ us hl => match us, hl with | [_, _], _ => rfl)
  have C3 : Cal P w K mg base "is_row" ["thing"] 1 spIsRow := calOf F2 (ok_isRow B F2) (He.glo_ok X G (c.fact 2 rfl)) (F2.bindsN fun _ _ _ _ _ _ us hl => match us, hl with | [_], _ => rfl)
  have C4 : Cal P w K mg base "is_tuple_of" ["many", "thing"] 1 spTupOf2 := calOf F3 (ok_tupOf2 B F3) (He.glo_ok X G (c.fact 3 rfl)) (F3.bindsN fun _ _ _ _ _ _ us hl => match us, hl with | [_, _], _ => rfl)
  have C5 : Cal P w K mg base "is_range" ["thing"] 1 (spRange K) := calOf F5 (ok_range B mA F5) (He.glo_ok X G (c.fact 5 rfl)) (F5.bindsN fun _ _ _ _ _ _ us hl => match us, hl with | [_], _ => rfl)
  have C6 : Cal P w K mg base "is_address" ["thing"] 2 (spAddr K) := calOf F6 (ok_addr B mA C5 F6) (He.glo_ok X G (c.fact 6 rfl)) (F6.bindsN fun _ _ _ _ _ _ us hl => match us, hl with | [_], _ => rfl)
  have C7 : Cal P w K mg base "beginnings" ["address"] 1 spBeg := calOf F8 (ok_beg B mA F8) (He.glo_ok X G (c.fact 8 rfl)) (F8.bindsN fun _ _ _ _ _ _ us hl => match us, hl with | [_], _ => rfl)
  have C8 : Cal P w K mg base "is_end" ["thing"] 1 (spEnd K) := calOf F12 (ok_end B mH mD F12) (He.glo_ok X G (c.fact 12 rfl)) (F12.bindsN fun _ _ _ _ _ _ us hl => match us, hl with | [_], _ => rfl)
  have C9 : Cal P w K mg base "is_entry" ["thing"] 4 spEntry := calOf F11 (ok_entry m8 C4 C5 C2 C8 F11) (He.glo_ok X G (c.fact 11 rfl)) (F11.bindsN fun _ _ _ _ _ _ us hl => match us, hl with | [_], _ => rfl)
  have CA : Cal P w K mg base "refuse_wrong_entries" ["entries"] 5 spRWE := calOf F10 (ok_rwe B mE C3 C9 F10) (He.glo_ok X G (c.fact 10 rfl)) (F10.bindsN fun _ _ _ _ _ _ us hl => match us, hl with | [_], _ => rfl)
  have MT : MkT P w K mg base (He.ga K "Table") := ⟨He.glo_ok X G (c.fact 42 (f := .glo "Table") rfl), ⟨_, d24, He.mkr_ok (c.fact 44 (f := .mkr "Table") rfl), ok_init B hso TXx CA F24, F24.bindsN fun _ _ _ _ _ _ us hl => match us, hl with | [_, _], _ => rfl⟩⟩
  have MQ : MqT P w K mg base (He.ga K "Table") := ⟨⟨_, d25, He.meth_ok (c.fact 45 (f := .meth "Table" "__eq__") rfl), ok_eq B TXx (He.glo_ok X G (c.fact 42 (f := .glo "Table") rfl)) F25, F25.bindsN fun _ _ _ _ _ _ us hl => match us, hl with | [_, _], _ => rfl⟩⟩
  have MO : MskO P w K mg base (He.ga K "Table") "onward" ["self", "address"] 3 (spOnw0 (He.ga K "Table")) := ⟨⟨_, d26, He.meth_ok (c.fact 46 (f := .meth "Table" "onward") rfl), ok_onw0 mD TXx C6 C7 F26, F26.bindsN fun _ _ _ _ _ _ us hl => match us, hl with | [_, _], _ => rfl⟩⟩
  have CD : Cal P w K mg base "addresses" [] 1 spAds := calOf F7 (ok_ads B mA F7) (He.glo_ok X G (c.fact 7 rfl)) (F7.bindsN fun _ _ _ _ _ _ us hl => match us, hl with | [], _ => rfl)
  have FM : FnMg K (He.ga K "merged") d9 := F9
  obtain ⟨dsM, vM, bM⟩ := mg_one FM
  have CM : CalD P w K mg base "merged" ["worths", "ahead"] [V.str ""] 12 (spM (WN K) 10) := ⟨_, d9, dsM, mg_step B (ok_mg (W := WN K) B (He.glo_ok X G (c.fact 9 rfl)) FM.kp (mg_full FM) FM 10) FM, (He.glo_ok X G (c.fact 9 rfl)), FM.kp, bM, vM⟩
  have CP : Cal P w K mg base "parts" ["table"] 13 (spPar (He.ga K "Table")) := calOf F13 (ok_par TXx CM CD MO F13) (He.glo_ok X G (c.fact 13 rfl)) (F13.bindsN fun _ _ _ _ _ _ us hl => match us, hl with | [_], _ => rfl)
  have CF : Cal P w K mg base "fewest_entries" ["nexts", "part"] 13 (spFex (He.cT K ("fewest_entries", none)).2 11) := ok_fe B mH mD m8 TB (He.glo_ok X G (c.fact 15 rfl)) F15.kp (F15.bindsN fun _ _ _ _ _ _ us hl => match us, hl with | [_, _], _ => rfl) F15 (code_at (p := ("fewest_entries", none)) F15) 11
  have CW : Cal P w K mg base "fewest" ["table"] 14 (spFew (He.ga K "Table") (He.cT K ("fewest_entries", none)).2) := calOf F14 (ok_few mD MT CP CF F14) (He.glo_ok X G (c.fact 14 rfl)) (F14.bindsN fun _ _ _ _ _ _ us hl => match us, hl with | [_], _ => rfl)
  have D0 : Cal P w K mg base "_law_pool" ["_law_script"] 1 (spPool K) := calOf F16 (ok_pool B F16) (He.glo_ok X G (c.fact 16 rfl)) (F16.bindsN fun _ _ _ _ _ _ us hl => match us, hl with | [_], _ => rfl)
  have D1 : Cal P w K mg base "_law_draw" ["_law_pool_here", "_law_many"] 1 spDrw := calOf F17 (ok_drw B F17) (He.glo_ok X G (c.fact 17 rfl)) (F17.bindsN fun _ _ _ _ _ _ us hl => match us, hl with | [_, _], _ => rfl)
  have D2 : Cal P w K mg base "_law_small_entries" ["_law_pool_here"] 2 spSE := calOf F19 (ok_se B D1 F19) (He.glo_ok X G (c.fact 19 rfl)) (F19.bindsN fun _ _ _ _ _ _ us hl => match us, hl with | [_], _ => rfl)
  have D4 : Cal P w K mg base "_law_painted" ["_law_entries"] 1 spPnt := calOf F18 (ok_pnt B F18) (He.glo_ok X G (c.fact 18 rfl)) (F18.bindsN fun _ _ _ _ _ _ us hl => match us, hl with | [_], _ => rfl)
  have D5 : Cal P w K mg base "_law_small_painted" ["_law_entries"] 1 spP8 := calOf F20 (ok_p8 B F20) (He.glo_ok X G (c.fact 20 rfl)) (F20.bindsN fun _ _ _ _ _ _ us hl => match us, hl with | [_], _ => rfl)
  have D6 : Cal P w K mg base "_law_is_entry" ["_law_item"] 1 spLEn := calOf F22 (ok_lEn B F22) (He.glo_ok X G (c.fact 22 rfl)) (F22.bindsN fun _ _ _ _ _ _ us hl => match us, hl with | [_], _ => rfl)
  have D7 : Cal P w K mg base "_law_possible" ["_law_due", "_law_chosen", "_law_left"] 33 (spPosx 31) := ok_pos B D5 (He.glo_ok X G (c.fact 21 rfl)) F21.kp (F21.bindsN fun _ _ _ _ _ _ us hl => match us, hl with | [_, _, _], _ => rfl) F21 31
  exact ok_law B hso TXx ⟨D0, D2, D4, D5, D6, D7, CW, MT, MQ⟩ F23
end Wk
open PySem PySem.W PySem.Calls PyProof.Rows
set_option maxHeartbeats 0
theorem PySem.Challenge.cw_wishreels_k85_whole_fewest_entries_of_sm_holds : PySem.Challenge.rw_wishreels_k85_whole_fewest_entries_of_sm.Holds := by
  w_on; o_law
  refine HandSHeadRun.head_any (r := Wk.R) (q := view Wk.R.prog [38]) (H := Wk.hk) (ob := Wk.ob) (M := 9000) (loose := Wk.loose) (d := HandSHeadRun.topDef Wk.R.prog 38) (kwd := []) Wk.ob_eq
    (by kernel_rfl) (fun s => by kernel_rfl) Wk.run (by kernel_rfl) (by kernel_rfl) (by kernel_rfl) (by rfl) (by first | assumption | decide +kernel) (by decide +kernel) ⟨rfl, rfl, rfl, rfl, rfl, by decide +kernel⟩ ?hw ?hc
  case hw => w_witness2
  case hc =>
    refine LamX.walk_ofTsE (l := PySem.Challenge.rw_wishreels_k85_whole_fewest_entries_of_sm) (n := 63) (k := 34) (x := "_law_script") (CX := fun _ => L2.CX0) rfl (by decide) (by kernel_rfl) ⟨rfl, by decide, by decide⟩ ?F (fun _ _ _ _ _ z => z)
    intro w mg fa h Y G hmg0
    obtain ⟨K, kx, c⟩ := Y
    have hmg : mg ("law" : PySem.Str) = some (.ref fa) := by
      have e : (HandSHeadRun.topDef Wk.R.prog 38).name = ("law" : PySem.Str) := by kernel_rfl
      rw [← e]
      exact hmg0
    obtain ⟨fd, hb, hF⟩ := Wk.facts (P := (PySem.Challenge.rw_wishreels_k85_whole_fewest_entries_of_sm).prog) (w := w) kx G hmg c.t.d c.more
    exact ⟨K, kx, Wk.law_at c kx hb hF⟩

import PyProof.Rows.All
import Wide.All
import OpenK.AllK
import Wide.FinOn
import KE.KStateDown
import HandS.ForMost
import HandS.More
import HandS.WordsExc
import HandS.Defaults
import HandS.Deep
import HandS.IsInst
import HandS.Evl
import HandS.Walk
import HandS.TupSets
import HandS.TupAny
import HandS.Conv
import PyProof.P3In
import KE.GoesMore
import KE.GoesEnum
import HandS.ExcInit
import HandS.ExcField
import HandS.ExcOwn
import PyProof.NeKinds
import PyProof.EqKinds
import PyProof.FactsAll.subtypes_4
import PyProof.FactsAll.dict_1
import HandS.SetFor
import HandS.Strs
import HandS.WideBits
import HandS.Wide
import HandS.TryOnly
import HandS.TryMany
import HandS.ExcIs
import HandS.ExcBuiltin
import HandS.Head0
import HandS.Head1
import HandS.Head2
import HandS.HeadEnd
import HandS.HeadHook1
import HandS.HeadHook2
import PySem.Challenge.RW_wishreels_k49_patterns_refused
set_option Elab.async false
set_option linter.all false
set_option maxRecDepth 100000
set_option maxHeartbeats 2000000
namespace Wk
open PySem PySem.Spec PyProof.Rows L2 Evl
/-! data that stand in a heap -/
mutual
inductive Dq (G : Hp) : V → PyData → Prop
  | non : Dq G .non .none
  | bl (b : Bool) : Dq G (.bl b) (.bool b)
  | int (i : Int) : Dq G (.int i) (.int i)
  | str (x : Str) : Dq G (.str x) (.str x)
  | lst {a : Addr} {xs : List V} {ds : List PyData} : G a = some (.lst xs) → DqA G xs ds → Dq G (.ref a) (.list ds)
  | tup {a : Addr} {xs : List V} {ds : List PyData} : G a = some (.tup xs) → DqA G xs ds → Dq G (.ref a) (.tuple ds)
  | dic {a : Addr} : G a = some (.dK []) → Dq G (.ref a) (.dict [])
inductive DqA (G : Hp) : List V → List PyData → Prop
  | nil : DqA G [] []
  | cons {v : V} {vs : List V} {d : PyData} {ds : List PyData} : Dq G v d → DqA G vs ds → DqA G (v :: vs) (d :: ds)
end
mutual
theorem Dq.mono {G H : Hp} (e : Ex G H) : ∀ {d : PyData} {v : V}, Dq G v d → Dq H v d
  | .none, _, .non => .non
  | .bool _, _, .bl b => .bl b
  | .int _, _, .int i => .int i
  | .str _, _, .str x => .str x
  | .list _, _, .lst h a => .lst (e _ _ h) (DqA.mono e a)
  | .tuple _, _, .tup h a => .tup (e _ _ h) (DqA.mono e a)
  | .dict _, _, .dic h => .dic (e _ _ h)
theorem DqA.mono {G H : Hp} (e : Ex G H) : ∀ {ds : List PyData} {vs : List V}, DqA G vs ds → DqA H vs ds
  | [], _, .nil => .nil
  | _ :: _, _, .cons h t => .cons (Dq.mono e h) (DqA.mono e t)
end
mutual
theorem Dq.dp {K : PySem.W.Frag} {G : Hp} : ∀ {d : PyData} {v : V}, d.canLay0 = true → Dq G v d → Dp K G v d
  | .none, _, _, .non => .non
  | .bool _, _, _, .bl b => .bl b
  | .int _, _, _, .int i => .int i
  | .str _, _, _, .str x => .str x
  | .list ds, _, c, .lst h a => .lst (sq_of h) (DqA.dp (by simpa [PyData.canLay0] using c) a)
  | .tuple ds, _, c, .tup h a => .tup (st_of h) (DqA.dp (by simpa [PyData.canLay0] using c) a)
  | .dict _, _, c, .dic h => by simp [PyData.canLay0] at c
theorem DqA.dp {K : PySem.W.Frag} {G : Hp} : ∀ {ds : List PyData} {vs : List V}, PyData.canLayAll0 ds = true → DqA G vs ds → DpAll K G vs ds
  | [], _, _, .nil => .nil
  | d :: ds, _, c, .cons h t => by
    have c' : d.canLay0 = true ∧ PyData.canLayAll0 ds = true := by simpa [PyData.canLayAll0] using c
    exact .cons (Dq.dp c'.1 h) (DqA.dp c'.2 t)
end
theorem DqA.length {G : Hp} : ∀ {ds : List PyData} {vs : List V}, DqA G vs ds → vs.length = ds.length
  | [], _, .nil => rfl
  | _ :: _, _, .cons _ t => congrArg Nat.succ t.length
theorem DqA.get {G : Hp} : ∀ {ds : List PyData} {vs : List V} {i : Nat} {v : V}, DqA G vs ds → vs[i]? = some v → ∃ d, ds[i]? = some d ∧ Dq G v d
  | [], _, i, v, .nil, e => by simp at e
  | d :: _, _, 0, v, .cons h t, e => ⟨d, rfl, by simp at e; subst e; exact h⟩
  | _ :: _, _, i + 1, v, .cons h t, e => by
    obtain ⟨d, e1, e2⟩ := t.get (i := i) (by simpa using e)
    exact ⟨d, by simpa using e1, e2⟩
theorem DqA.at {G : Hp} {ds : List PyData} {vs : List V} {i : Nat} {d : PyData} (h : DqA G vs ds) (e : ds[i]? = some d) : ∃ v, vs[i]? = some v ∧ Dq G v d := by
  have hl := h.length
  obtain ⟨hi, _⟩ := List.getElem?_eq_some_iff.mp e
  have hv : vs[i]? = some (vs[i]'(by omega)) := List.getElem?_eq_getElem (by omega)
  obtain ⟨d', e1, e2⟩ := h.get hv
  rw [e] at e1
  cases e1
  exact ⟨_, hv, e2⟩
theorem DqA.append {G : Hp} : ∀ {ds es : List PyData} {vs us : List V}, DqA G vs ds → DqA G us es → DqA G (vs ++ us) (ds ++ es)
  | [], _, _, _, .nil, h => h
  | _ :: _, _, _, _, .cons h t, u => .cons h (t.append u)
theorem DqA.take {G : Hp} : ∀ {ds : List PyData} {vs : List V} (n : Nat), DqA G vs ds → DqA G (vs.take n) (ds.take n)
  | [], _, n, .nil => by simp; exact .nil
  | _ :: _, _, 0, .cons h t => .nil
  | _ :: _, _, n + 1, .cons h t => .cons h (t.take n)
theorem DqA.drop {G : Hp} : ∀ {ds : List PyData} {vs : List V} (n : Nat), DqA G vs ds → DqA G (vs.drop n) (ds.drop n)
  | [], _, n, .nil => by simp; exact .nil
  | _ :: _, _, 0, .cons h t => .cons h t
  | _ :: _, _, n + 1, .cons h t => t.drop n
theorem DqA.ints {G : Hp} : ∀ (ns : List Int), DqA G (ns.map V.int) (ns.map PyData.int)
  | [] => .nil
  | n :: ns => .cons (.int n) (DqA.ints ns)
theorem DqA.int_inv {G : Hp} : ∀ {ns : List Int} {vs : List V}, DqA G vs (ns.map PyData.int) → vs = ns.map V.int
  | [], _, .nil => rfl
  | _ :: _, _, .cons (.int n) t => by
    have := DqA.int_inv t
    subst this
    rfl
/-- the name of a datum's type -/
def tyN : PyData → String
  | .none => "NoneType"
  | .bool _ => "bool"
  | .int _ => "int"
  | .str _ => "str"
  | .list _ => "list"
  | .tuple _ => "tuple"
  | .dict _ => "dict"
theorem Dq.ty {K : PySem.W.Frag} {G : Hp} {d : PyData} {v : V} (h : Dq G v d) : TyX K G v (.type (tyN d)) := by
  cases h with
  | non => exact .base .non
  | bl b => exact .base (.bl b)
  | int i => exact .base (.int i)
  | str x => exact .base (.str x)
  | lst h _ => exact .base (.lst h)
  | tup h _ => exact .base (.tup h)
  | dic h => exact .base (.dK h)
/-- a call's callee: the def that a global name holds -/
structure Cal (P : Program) (w : World) (K : PySem.W.Frag) (mg : Str → Option Value) (base : Heap) (x : Str) (ps : List Str) (k : Nat) (sp : Sp) : Prop where
  ex : ∃ (f : Addr) (fd : FuncData), FnOk P w K mg base CX0 k f fd ps sp ∧ mg x = some (.ref f) ∧ PySem.W.keepIn K (.ref f) = true ∧ Binds K fd ps []
section
variable {X : Cx}
theorem pe_cal {x : Str} {p pos : Pos} {e : Expr} {es : List Expr} {ps : List Str} {k j : Nat} {sp : Sp} {t : TA} (C : Cal X.prog X.w X.K X.mg X.base x ps k sp) (hr : Room j X.A) (hg : Gl X x) (ha : PA X (e :: es) t) (hk : k ≤ j := by decide)
    (hdb : (x == ("__debug__" : Str)) = false := by decide) (he : starEach (e :: es) X.env = (false, eval e X.env) :: starEach es X.env := by rfl) (hpl : (backTo pos (starEach es X.env)).any (·.1) = false := by rfl) :
    PE X (.Call (.Name x p) (e :: es) [] pos) (tCall sp [] E0 t) := by
  obtain ⟨f, fd, F, g, kp, b⟩ := C.ex
  exact pe_call F (hr.mono hk) hg g kp b .nil pass0 ha hdb he hpl
end
section
variable {K : PySem.W.Frag} {σ : L2.St} {H : Hp} {ta tb tc te : TE}
/-- isinstance(x, T), T a built-in type -/
theorem ev_isi {v : V} {d : PyData} {n : String} {b : Bool} (h : Ev ta σ H v) (hd : Dq H v d) (hk : kitB (tyN d) n = some b) : Ev (tCB (rIsi K) (tCons ta (tCons (tC (.ty n)) tNil))) σ H (.bl b) := fun H1 e Q q =>
  h H1 e _ fun H2 e2 => ⟨v, .ty n, .type (tyN d), .type n, b, rfl, .ty n, (hd.mono (e.trans e2)).ty, kit_ty hk, q H2 e2⟩
/-- a <= b <= c of ints -/
theorem ev_chain {i j k : Int} {r r' : R2} {b1 b2 : Bool} (ha : Ev ta σ H (.int i)) (hb : Ev tb σ H (.int j)) (hc : Ev tc σ H (.int k)) (h1 : RV r (.int i) (.int j) H (.bl b1)) (h2 : RV r' (.int j) (.int k) H (.bl b2)) :
    Ev (tChain r r' ta tb tc) σ H (.bl (b1 && b2)) := fun H1 e Q q =>
  ha H1 e _ fun H2 e2 => hb H2 (e.trans e2) _ fun H3 e3 => h1 H3 ((e.trans e2).trans e3) _ fun H4 e4 => ⟨b1, rfl, by
    cases b1 with
    | false => exact q H4 ((e2.trans e3).trans e4)
    | true => exact hc H4 (((e.trans e2).trans e3).trans e4) _ fun H5 e5 => h2 H5 ((((e.trans e2).trans e3).trans e4).trans e5) _ fun H6 e6 => q H6 ((((e2.trans e3).trans e4).trans e5).trans e6)⟩
end
end Wk

set_option Elab.async false
set_option linter.all false
set_option maxRecDepth 100000
set_option maxHeartbeats 4000000
namespace Wk
open PySem PySem.Spec PyProof.Rows L2 Evl
/-- the walk of a tuple's iterator under an enumerate -/
abbrev itO (l : Addr) : Obj := { cls := .type "tuple_iterator", data := .fields #[.ref l, .int 0 0] }
abbrev enO (it : Addr) : Obj := { cls := .type "enumerate", data := .fields #[.none, .bool false, .ref it, rawInt 0, .none, .none] }
theorem enumNewT (l : Addr) (its : Array Value) (n : Nat) (od : Option Addr) (sl : Array (Option Value)) :
    Meets (Builtin.«enumerate.__new__» ⟨[.type "enumerate", .ref l], []⟩) (fun _ R s => s.heap.get? l = some { cls := .type "tuple", dict := od, data := .seq its n, slots := sl } ∧
      R (.ok (.ret (.ref (s.heap.push (itO l)).objs.size))) { s with heap := (s.heap.push (itO l)).push (enO s.heap.objs.size) }) :=
  .of_wp fun prog w A R s h => by
    obtain ⟨hp, g, d, tk, os⟩ := s; obtain ⟨hl, h⟩ := h
    have su := sub_enumerate
    have tl : Heap.IsTuple (Shared.heap ⟨hp, g, d, tk, os⟩) l its := ⟨_, hl, rfl, n, rfl⟩
    wp_walk using wpAny_loadPart' hl
    refine wpAny_stack_any fun st => wpAny_pure ?_
    split
    · rename_i c _ _ _ _ _
      cases (c == Value.type "enumerate") <;> (wp_walk using wpAny_loadPart' hl, wpAny_pyIter_tuple tl; exact ⟨_, rfl, h⟩)
    · wp_walk using wpAny_loadPart' hl, wpAny_pyIter_tuple tl
      exact ⟨_, rfl, h⟩
section
variable {prog : Program} {w : World} {A : Around} {E : Value → Shared → Prop} {s : Shared}
theorem enumT_call {l : Addr} {its : Array Value} {Q : Value → Shared → Prop} (tl : s.heap.IsTuple l its)
    (h : ∀ h', IsEnum h' (s.heap.objs.size + 1) s.heap.objs.size 0 .none → h'.IsTupleIter s.heap.objs.size l 0 → h'.objs.size = s.heap.objs.size + 2 → (∀ b o, s.heap.get? b = some o → h'.get? b = some o) → Q (.ref (s.heap.objs.size + 1)) { s with heap := h' }) :
    wpAny (model prog w) A (call (.type "enumerate") [.ref l]) Q E s := by
  obtain ⟨⟨c, od, dt, sl⟩, hl, hc, n, hd⟩ := tl
  replace hc : c = .type "tuple" := hc
  replace hd : dt = .seq its n := hd
  subst hc hd
  refine callType_new F.called_enumerate (by decide) (F.typeCall_enumerate_1 _) (F.newCall_enumerate_1 _) (fun ob => F.args_object_init_2 ob _) F.entry_enumerate_new (enumNewT l its n od sl) ⟨hl, ?_⟩
  have hz : (s.heap.push (itO l)).objs.size = s.heap.objs.size + 1 := Heap.size_push ..
  show _ ∧ _
  rw [hz]
  have he : IsEnum ((s.heap.push (itO l)).push (enO s.heap.objs.size)) (s.heap.objs.size + 1) s.heap.objs.size 0 .none := by
    have q := Heap.get?_push_size (s.heap.push (itO l)) (o := enO s.heap.objs.size) rfl
    rw [hz] at q; exact q
  exact ⟨⟨_, he, rfl⟩, h _ he ⟨_, Heap.get?_push_of_some _ (Heap.get?_push_size _ rfl), rfl, rfl⟩ (by rw [Heap.size_push, hz]) fun b o x => Heap.get?_push_of_some _ (Heap.get?_push_of_some _ x)⟩
end
/-- the tuple at a, each item in a new pair with its place -/
def IteT (K : PySem.W.Frag) (a : Addr) : It :=
  ⟨fun i H => ∃ (xs : List V) (x : V), SqT K H a xs ∧ xs[i]? = some x, fun i H v H' => ∃ T x, v = .ref T ∧ H T = none ∧ H' = upd H T (.tup [.int (i : Nat), x]) ∧ ∀ xs, SqT K H a xs → xs[i]? = some x, fun i H => ∃ xs : List V, SqT K H a xs ∧ xs.length = i⟩
theorem turn_enumT {P : Program} {w : World} {K : PySem.W.Frag} {elts : List Expr} {kk : Nat} {tpos : Pos} (a e it : Addr) :
    Turn P w K (.Tuple elts kk tpos) (IteT K a) [e, it] e (fun i h => (∃ old, IsEnum h e it ((i : Nat) : Int) old) ∧ h.IsTupleIter it a i ∧ e ≠ it) where
  mem := List.mem_cons_self
  obj := fun i h st b hb => by
    obtain ⟨⟨old, he⟩, ⟨o, ho, hc, hd⟩, _⟩ := st
    rcases List.mem_cons.mp hb with z | z
    · rw [z]; exact ⟨_, he, fun v q => nomatch q⟩
    · rw [List.mem_singleton.mp z]; exact ⟨o, ho, fun v q => by rw [hd] at q; cases q⟩
  keep := fun i h h' st k => by
    obtain ⟨⟨old, he⟩, ⟨o, ho, r⟩, hne⟩ := st
    exact ⟨⟨old, k e (by simp) _ he⟩, ⟨o, k it (by simp) o ho, r⟩, hne⟩
  item := by
    intro X hP hw hK hc i pins s σ H E I hf st hg
    subst hP hw hK
    obtain ⟨⟨old, he⟩, hit, hne⟩ := st
    obtain ⟨xs, x, hq, hx⟩ := hg
    obtain ⟨its, rv, p, hz⟩ := I.tuple hq
    obtain ⟨u, hu, ru⟩ := rv.get hx
    have el : e < s.heap.objs.size := Heap.lt_size he
    have il : it < s.heap.objs.size := by obtain ⟨_, q, _⟩ := hit; exact Heap.lt_size q
    have nai : a ≠ it := fun z => by
      obtain ⟨o, ho, oc, _⟩ := p
      obtain ⟨o2, ho2, oc2, _⟩ := hit
      rw [z, ho2] at ho
      cases ho
      rw [oc2] at oc
      injection oc with q
      exact absurd q (by decide)
    have nae : e ≠ a := fun z => by
      obtain ⟨o, ho, oc, _⟩ := p
      have he2 := he
      unfold IsEnum at he2
      rw [z, ho] at he2
      cases he2
      injection oc with q
      exact absurd q (by decide)
    have hi : i < its.toArray.size := by
      have q := (List.getElem?_eq_some_iff.mp hu).1
      simpa using q
    refine wpAny_pyNext_enum_itemD (Draws.tuple (by simpa using I.ok.hd hc) it a nai its.toArray) he ⟨hit, p⟩ hi hne (by simp [hne, nae]) fun y h' tk hy ho hst hT hsz hk => ?_
    have ey : y = u := by
      have q : its.toArray[i]? = some y := hy
      rw [List.getElem?_toArray, hu] at q
      exact (Option.some.inj q).symm
    subst ey
    refine ⟨_, rfl, wpAny_letOwnedTupleGo_enum (s := { s with heap := h', toks := tk + 1 }) ho fun h2 he' sb => ?_⟩
    have hT2 : h2.get? s.heap.objs.size = some { cls := .type "tuple", data := .seq #[.int i tk, y] } := (sb.2 _ (Nat.ne_of_gt el)).trans hT
    have nw : ObjOk X.prog X.w (upd H s.heap.objs.size (.tup [.int (i : Nat), x])) h2 s.heap.objs.size (.tup [.int (i : Nat), x]) := ⟨by show 2 ≤ sizeLine; decide, [.int i tk, y], .cons ⟨_, rfl⟩ (.cons ru .nil), ⟨_, hT2, rfl, _, rfl⟩⟩
    have I1 : Inv X pins σ (upd H s.heap.objs.size (.tup [.int (i : Nat), x])) { s with heap := h2, toks := tk + 1 } := I.turnedNew (ch := [e, it]) (fun b ob hb q => by
        have b1 : b ≠ e := fun z => hb (by simp [z])
        have b2 : b ≠ it := fun z => hb (by simp [z])
        exact (sb.2 b b1).trans (hk b ob b1 b2 q)) hf (Nat.le_refl _) nw
    refine ⟨.ref s.heap.objs.size, _, I1, rfl, ⟨_, x, rfl, I.hok.fresh (Nat.le_refl _), rfl, fun ys hy => by rw [I.tuple_inj hy hq]; exact hx⟩, ⟨⟨y, ?_⟩, ?_, hne⟩, fun b hb => ?_⟩
    · rw [show ((i + 1 : Nat) : Int) = (i : Int) + 1 by omega]; exact he'
    · obtain ⟨o, ho2, r2⟩ := hst.1
      exact ⟨o, (sb.2 it (Ne.symm hne)).trans ho2, r2⟩
    · have hb2 : b < s.heap.objs.size := by
        rcases List.mem_cons.mp hb with z | z
        · rw [z]; exact el
        · rw [List.mem_singleton.mp z]; exact il
      rw [upd_ne (Nat.ne_of_lt hb2)]
      exact (hf b hb).1
  done := by
    intro X hP hw hK hc i pins s σ H E I hf st hg
    subst hP hw hK
    obtain ⟨⟨old, he⟩, hit, hne⟩ := st
    obtain ⟨xs, hq, hx⟩ := hg
    obtain ⟨its, rv, p, hz⟩ := I.tuple hq
    obtain ⟨f0, f1, f2, f3, f4, f5⟩ := hf it (by simp)
    have hl := rv.length
    have ei : i = its.toArray.size := by simp; omega
    have nai : a ≠ it := fun z => by
      obtain ⟨o, ho, oc, _⟩ := p
      obtain ⟨o2, ho2, oc2, _⟩ := hit
      rw [z, ho2] at ho
      cases ho
      rw [oc2] at oc
      injection oc with q
      exact absurd q (by decide)
    subst ei
    exact wpAny_pyNext_enum_endD (Draws.tuple (by simpa using I.ok.hd hc) it a nai its.toArray) he ⟨hit, p⟩ fun h' eb => ⟨rfl, I.turned (t' := s.toks) (fun b o hb q => eb b o hb q) f0 f1 f3 f4 f5⟩
  self := fun A i s Q E st h => let ⟨⟨_, he⟩, _⟩ := st; wpAny_pyIter_enum he h

def iEnumT (K : PySem.W.Frag) (ta : TA) : TI := fun σ H R => ta σ H fun vs H1 => ∃ a xs, vs = [.ref a] ∧ SqT K H1 a xs ∧ R (IteT K a) H1
/-- for i, x in enumerate(t), t a tuple -/
theorem pi_enumT {X : Cx} {e : Expr} {ta : TA} {p pos tpos : Pos} {elts : List Expr} {kk : Nat} (hg : Gl X "enumerate") (hm : X.mg "enumerate" = none) (ha : PA X [e] ta) (hs : starEach [e] X.env = [(false, eval e X.env)] := by rfl) :
    PI X (.Tuple elts kk tpos) (.Call (.Name "enumerate" p) [e] [] pos) (iEnumT X.K ta) := by
  refine ⟨fun pins s σ H R I h => Call_ (ld_blt I hg hm boot_enumerate (PyProof.Rows.callWith_type1 (thn (ha.run pos pins s σ H _ I h) fun us s1 hh => ?_) hs rfl))⟩
  obtain ⟨vs, H1, I1, r1, a, xs, rfl, hq, q⟩ := hh
  cases r1 with
  | cons r rr =>
    cases rr
    cases r
    obtain ⟨its, rv, pt, hz⟩ := I1.tuple hq
    refine enumT_call pt fun h' he hit hsz hk => wpAny_pyIter_enum he ?_
    refine ⟨s1.heap.objs.size + 1, [s1.heap.objs.size + 1, s1.heap.objs.size], _, _, H1, rfl, I1.kept (t' := s1.toks) hk, turn_enumT a (s1.heap.objs.size + 1) s1.heap.objs.size, ⟨⟨.none, he⟩, hit, Nat.succ_ne_self _⟩, fun b hb => ?_, q⟩
    have hle : s1.heap.objs.size ≤ b := by
      rcases List.mem_cons.mp hb with z | z
      · rw [z]; exact Nat.le_add_right _ _
      · rw [List.mem_singleton.mp z]; exact Nat.le_refl _
    exact I1.fpOk hle (I1.hok.fresh hle)
theorem walk_enumT {K : PySem.W.Frag} {a : Addr} {xs : List V} : Walk (IteT K a) xs.length (fun H => SqT K H a xs) (YPair (fun i => some (.int (i : Nat))) (fun i => xs[i]?)) := by
  refine ⟨fun i _ hi q => ⟨xs, xs[i], q, by simp [hi]⟩, fun _ q => ⟨xs, q, rfl⟩, fun i H v H' _ q y => ?_⟩
  obtain ⟨T, x, h1, h2, h3, h4⟩ := y
  exact ⟨T, .int (i : Nat), x, h1, h2, h3, rfl, h4 xs q⟩
section
variable {K : PySem.W.Frag} {σ : L2.St} {H : Hp} {t : TT} {te : TE}
/-- [e for x in t], t a tuple -/
theorem el_lcT {a : Addr} {xs : List V} {tl : TE} {j : Nat} {vs : List Nat} (f : Nat → Bool) (v : Nat → V) (h : Ev tl σ H (.ref a)) (hx : SqT K H a xs) (hz : xs.length ≤ 40000) (hw : ∀ x, wipe ((wipe σ vs).set j (some x)) vs = wipe σ vs)
    (ht : ∀ (i : Nat) (x : V) H1, Ex H H1 → xs[i]? = some x → EvT t ((wipe σ vs).set j (some x)) H1 (f i)) (he : ∀ (i : Nat) (x : V) H1, Ex H H1 → xs[i]? = some x → f i = true → Ev te ((wipe σ vs).set j (some x)) H1 (v i)) :
    EvL (tLc (iTup K tl) (gName j) t te vs) σ H (given xs.length f v) := fun H0 e Q q => h H0 e _ fun H1 e1 => ⟨a, rfl, ⟨xs, ex_t (e.trans e1) hx⟩, fun Dl hD =>
  lc_it (walk_tup (K := K) (a := a) (xs := xs)) (Cw H1 f v Dl) ⟨hD, Ex.new hD, upd_same⟩ (fun i H' _ p => ex_t ((e.trans e1).trans p.2.1) hx)
    (fun i x H' H2 hi p y => by
      obtain ⟨rfl, hxi⟩ := y
      exact ⟨hw x, cw_turn p (by omega) (ht i x H1 (e.trans e1) hxi) (fun hf => he i x H1 (e.trans e1) hxi hf)⟩)
    (fun H' p => q Dl H' (fresh_back e1 p.1) (e1.trans p.2.1) p.2.2)⟩
theorem given_all (n : Nat) (v : Nat → V) : given n (fun _ => true) v = (List.range n).map v := by
  unfold given
  rw [List.filter_eq_self.mpr (fun _ _ => rfl)]
theorem et_yes : EvT tYes σ H true := fun H1 _ _ q => q H1 (Ex.refl H1)
/-- all([..]) of flags -/
theorem ev_allL {bs : List Bool} {ta : TE} (h : EvL ta σ H (bs.map V.bl)) : Ev (tCB (rAll K) (tCons ta tNil)) σ H (.bl (bs.all id)) := fun H1 e Q q =>
  h H1 e _ fun p H2 _ e2 hp => ⟨p, bs, rfl, sq_of hp, q H2 e2⟩
/-- all([test(x) for x in t]) -/
theorem ev_allT {a : Addr} {xs : List V} {tl : TE} {j : Nat} {vs : List Nat} (g : Nat → Bool) (h : Ev tl σ H (.ref a)) (hx : SqT K H a xs) (hz : xs.length ≤ 40000) (hw : ∀ x, wipe ((wipe σ vs).set j (some x)) vs = wipe σ vs)
    (he : ∀ (i : Nat) (x : V) H1, Ex H H1 → xs[i]? = some x → Ev te ((wipe σ vs).set j (some x)) H1 (.bl (g i))) :
    Ev (tCB (rAll K) (tCons (tLc (iTup K tl) (gName j) tYes te vs) tNil)) σ H (.bl (((List.range xs.length).map g).all id)) :=
  ev_allL (by
    have q := el_lcT (K := K) (te := te) (fun _ => true) (fun i => .bl (g i)) h hx hz hw (fun _ _ _ _ _ => et_yes) fun i x H1 e hxi _ => he i x H1 e hxi
    rw [given_all] at q
    rw [List.map_map]
    exact q)
end
section
variable {K : PySem.W.Frag} {σ : L2.St} {H : Hp} {ta tb te : TE}
theorem ev_lenT {p : Addr} {xs : List V} (ha : Ev ta σ H (.ref p)) (h : SqT K H p xs) : Ev (tCB (rLenS K) (tCons ta tNil)) σ H (.int (xs.length : Int)) := fun H1 e Q q =>
  ha H1 e _ fun H2 e2 => ⟨p, xs, rfl, Or.inr (ex_t (e.trans e2) h), q H2 e2⟩
theorem all_get {α : Type} (ds : List α) (p : α → Bool) : ((List.range ds.length).map (fun i => ((ds[i]?).map p).getD false)).all id = ds.all p := by
  have e : (List.range ds.length).map (fun i => ((ds[i]?).map p).getD false) = ds.map p := by
    apply List.ext_getElem
    · simp
    · intro i h1 h2
      have hi : i < ds.length := by simpa using h1
      simp [hi]
  rw [e, List.all_map]
  rfl
end
section
variable {K : PySem.W.Frag} {σ : L2.St} {H : Hp} {g : TG} {tu tz : TS} {D : Ends}
/-- for i, x in enumerate(t) -/
theorem s_forEn {a : Addr} {xs : List V} {tl : TE} (h : Ev tl σ H (.ref a)) (hx : SqT K H a xs) (Pv : Nat → L2.St → Hp → Prop) (h0 : ∀ H1, Ex H H1 → Pv 0 σ H1) (hl : ∀ i σ' H', i ≤ xs.length → Pv i σ' H' → SqT K H' a xs)
    (hs : ∀ i y T σ' H', xs[i]? = some y → Pv i σ' H' → H' T = none → g (.ref T) σ' (upd H' T (.tup [.int (i : Nat), y])) fun σ2 H2 => tu { D with nx := Pv (i + 1), ct := Pv (i + 1), bk := D.nx } σ2 H2) (hd : ∀ σ' H', Pv xs.length σ' H' → D.nx σ' H') : tFor (iEnumT K (tCons tl tNil)) g tu D σ H :=
  h H (Ex.refl H) _ fun H1 e => ⟨a, xs, rfl, ex_t e hx, for_it (walk_enumT (K := K) (a := a) (xs := xs)) Pv (h0 H1 e) hl (fun i x σ' H2 H3 hi p y => by
    obtain ⟨T, u, y, rfl, hT, rfl, hu, hy⟩ := y
    cases hu
    exact hs i y T σ' H2 hy p hT) hd⟩
theorem q_forEn {a : Addr} {xs : List V} {tl : TE} (h : Ev tl σ H (.ref a)) (hx : SqT K H a xs) (Pv : Nat → L2.St → Hp → Prop) (h0 : ∀ H1, Ex H H1 → Pv 0 σ H1) (hl : ∀ i σ' H', i ≤ xs.length → Pv i σ' H' → SqT K H' a xs)
    (hs : ∀ i y T σ' H', xs[i]? = some y → Pv i σ' H' → H' T = none → g (.ref T) σ' (upd H' T (.tup [.int (i : Nat), y])) fun σ2 H2 => tu { D with nx := Pv (i + 1), ct := Pv (i + 1), bk := tz D } σ2 H2) (hd : ∀ σ' H', Pv xs.length σ' H' → tz D σ' H') : tSeq (tFor (iEnumT K (tCons tl tNil)) g tu) tz D σ H :=
  s_forEn (D := { D with nx := tz D }) h hx Pv h0 hl hs hd
end
end Wk

set_option Elab.async false
set_option linter.all false
set_option maxRecDepth 100000
set_option maxHeartbeats 4000000
namespace Wk
open PySem PySem.Spec PyProof.Rows L2 Evl
/-! an object made, a method called, where what is raised is wished for at the caller's slots -/
section
variable {X : Cx} {CX : CXT} {k : Nat} {f C : Addr} {fd : FuncData} {ps : List Str} {sp : Sp} {W : L2.St → XK} {x m : Str} {p pos apos : Pos} {e o : Expr} {es : List Expr} {ta : TE} {t : TA}
def tMkAt (C : Addr) (sp : Sp) (W : L2.St → XK) (t : TA) : TE := fun σ H Q => t σ H fun vs H1 => ∀ x dx, H1 x = none → H1 dx = none → dx ≠ x → sp (.ref x :: vs) (upd (upd H1 dx (.own x)) x (.ins C dx [])) (fun v H2 => v = .non ∧ Q (.ref x) H2) (W σ)
theorem pe_mkAt (M : Mk X.K C f) (Fn : FnOk X.prog X.w X.K X.mg X.base CX k f fd ps sp) (hr : Room (k + 1) X.A) (hg : Gl X x) (hm : X.mg x = some (.ref C)) (hb : Binds X.K fd ps []) (hx : ∀ σ, PassesAt CX X σ (W σ)) (ha : PA X (e :: es) t)
    (hdb : (x == ("__debug__" : Str)) = false := by decide) (he : starEach (e :: es) X.env = (false, eval e X.env) :: starEach es X.env := by rfl) (hpl : (backTo pos (starEach es X.env)).any (·.1) = false := by rfl) :
    PE X (.Call (.Name x p) (e :: es) [] pos) (tMkAt C sp W t) := by
  refine ⟨fun pins s σ H Q I h => wpAny_Call_Name_kw (ld_glob I hg hm (PySem.W.callWith_K (h₀ := X.base) I.ok.mod.kin M.kp (thn (ha.run pos pins s σ H _ I h) fun us s1 hh => ?_) he hpl) hdb)⟩
  obtain ⟨vs, H1, I1, r, q⟩ := hh
  refine ⟨I1.kIn, ?_⟩
  have hq := q (s1.heap.objs.size + 1) s1.heap.objs.size (I1.hok.fresh (Nat.le_succ _)) (I1.hok.fresh (Nat.le_refl _)) (Nat.ne_of_lt (Nat.lt_succ_self _))
  have J := Inv.made (C := C) I1
  have rr : Vals (V.ref (s1.heap.objs.size + 1) :: vs) (Value.ref (s1.heap.objs.size + 1) :: us) := .cons rfl r
  have hl : (Value.ref (s1.heap.objs.size + 1) :: us).length = ps.length := rr.length.symm.trans (Fn.len _ _ _ _ hq)
  have bd := hb _ (Value.ref (s1.heap.objs.size + 1) :: us) J.kIn (by rw [List.append_nil]; exact hl)
  rw [List.append_nil] at bd
  refine wpAny_call (make_map (f := f) I1.kIn M.makes M.init (beq_iff_eq.mp M.fn) (codeAny_mono (Fn.run _ X.stack _ _ ⟨_, []⟩ _ _ _ (W σ) (hr.make C us []) (J.env0.make C us []) bd rr hq) fun r s' out => ?_))
  cases r with
  | error er => exact hx σ pins _ _ er s' J out
  | ok fl =>
    cases fl with
    | ret u =>
      obtain ⟨v, H', I3, rv, ev, q3⟩ := J.after out
      subst ev
      exact ⟨rv, ⟨V.ref (s1.heap.objs.size + 1), H', I3, rfl, q3⟩⟩
    | next => exact False.elim out
    | brk => exact False.elim out
    | cont => exact False.elim out
def tMeAt (C : Addr) (m : Str) (sp : Sp) (W : L2.St → XK) (ta : TE) (t : TA) : TE := fun σ H Q => ta σ H fun x H1 => ∃ a dx fs, x = .ref a ∧ H1 a = some (.ins C dx fs) ∧ fs.lookup m = none ∧ t σ H1 fun vs H2 => sp (x :: vs) H2 Q (W σ)
theorem pe_meAt {pl : Sem Bool} (ho : PE X o ta) (c : Cls X.K C) (hm : Meth X.K C m f) (Fn : FnOk X.prog X.w X.K X.mg X.base CX k f fd ps sp) (hr : Room k X.A) (hb : Binds X.K fd ps []) (hx : ∀ σ, PassesAt CX X σ (W σ)) (ha : PA X (e :: es) t)
    (hst : starEach (e :: es) X.env = (false, eval e X.env) :: starEach es X.env := by rfl) (hpl : (backTo pos (starEach es X.env)).any (·.1) = false := by rfl)
    (ht : eval (.Call (.Attribute o m apos) (e :: es) [] pos) X.env = (do
      let ov ← eval o X.env
      standAt apos.atName
      let (f, first) ← holding [ov] (getMethod ov m pl)
      callWith pos f first (backTo pos (starEach (e :: es) X.env)) (backToKw pos (keywordEach [] X.env))) := by rfl) :
    PE X (.Call (.Attribute o m apos) (e :: es) [] pos) (tMeAt C m sp W ta t) := by
  refine ⟨fun pins s σ H Q I h => PySem.W.methodCall_KW (pl := pl) (thn (ho.run pins s σ H _ I h) fun u s1 hh => ?_) ht⟩
  obtain ⟨x, H1, I1, rx, a, dx, fs, ex, ea, l, q⟩ := hh
  subst ex
  obtain rfl : u = Value.ref a := rx
  refine getmeth_ok I1 ea c hm l (PySem.W.callWith_K (first := [.ref a]) (h₀ := X.base) I.ok.mod.kin hm.kp (thn (ha.run pos pins s1 σ H1 _ I1 q) fun us s2 hh => ?_) hst hpl)
  obtain ⟨vs, H2, I2, r, q2⟩ := hh
  exact ⟨I2.kIn, run_fnS (us := .ref a :: us) (vs := .ref a :: vs) Fn hr hb (hx σ) I2 (.cons rfl r) q2⟩
end
/-! an own error with one field -/
/-- __init__ of such an error: self.router = router -/
def spXI (C : Addr) : Sp := fun vs H Q _ => ∃ (a : Addr) (y : V), vs = [.ref a, y] ∧ H a = some (exo a C none) ∧ ∀ dx, H dx = none → dx ≠ a → Q .non (upd (upd H dx (exd dx [("router", y)])) a (exo a C (some dx)))
/-- X(e) is made: where the error's dict is -/
theorem mk_err {C : Addr} {te : TE} {σ : L2.St} {H : Hp} {y : V} {W : XK} (h : Ev te σ H y) (k : ∀ d H', H d = none → Ex H H' → H' d = some (.xd [("router", y)]) → W (.ref C) (some d) H') : tMkO C (spXI C) [] (tCons te tNil) σ H W := by
  refine h H (Ex.refl H) _ fun H1 e => ⟨by show 1 ≤ 1000; decide, fun a ha => ?_⟩
  refine ⟨a, y, rfl, upd_same, fun dx hd hne => ⟨rfl, dx, [("router", y)], upd_same, by rw [upd_ne hne, upd_same], ?_, ?_⟩⟩
  · rw [upd_ne hne] at hd
    exact hd
  · have hd1 : H1 dx = none := by rw [upd_ne hne] at hd; exact hd
    refine k dx _ (fresh_back e hd1) (fun b o hb => ?_) upd_same
    have hb1 := e b o hb
    have nb : b ≠ dx := ne_of_none hb1 hd1
    have na : b ≠ a := ne_of_none hb1 ha
    rw [upd_ne nb, del_ne na, upd_ne na, upd_ne nb, upd_ne na]
    exact hb1
/-! parts of tuples -/
section
variable {K : PySem.W.Frag} {σ : L2.St} {H : Hp} {ta tb te : TE}
/-- what stands in a tuple (an old one or a new one) -/
def EvS (te : TE) (σ : L2.St) (H : Hp) (xs : List V) : Prop := ∀ H1, Ex H H1 → ∀ Q : VK, (∀ p H2, Ex H1 H2 → H2 p = some (.tup xs) → Q (.ref p) H2) → te σ H1 Q
theorem es_sl {a : Addr} {xs : List V} {tl th : TO} {lo hi : Option Int} (h : Ev te σ H (.ref a)) (h1 : EvO tl σ H lo) (h2 : EvO th σ H hi) (hs : H a = some (.tup xs)) : EvS (tSl (rSlA K) te tl th) σ H (cutV xs lo hi) := fun H1 e Q q =>
  h H1 e _ fun H2 e2 => h1 H2 (e.trans e2) _ fun H3 e3 => h2 H3 ((e.trans e2).trans e3) _ fun H4 e4 => by
    have hs4 := (((e.trans e2).trans e3).trans e4) _ _ hs
    refine ⟨a, xs, rfl, st_of hs4, fun hw => ?_, fun hw p hp => q p _ (((e2.trans e3).trans e4).trans (Ex.new hp)) upd_same⟩
    have ec : cutV xs lo hi = xs := by
      unfold cutV
      rw [hw.1, hw.2]
      simp
    rw [ec] at q
    exact q a H4 ((e2.trans e3).trans e4) hs4
theorem es_cat {xs ys : List V} (ha : EvS ta σ H xs) (hb : EvS tb σ H ys) (hz : xs.length + ys.length ≤ 100000) : EvS (tOp (rCatA K) ta tb) σ H (xs ++ ys) := fun H1 e Q q =>
  ha H1 e _ fun p H2 e2 hp => hb H2 (e.trans e2) _ fun p' H3 e3 hp' => by
    have hp3 := e3 _ _ hp
    refine ⟨p, p', xs, ys, rfl, rfl, st_of hp3, st_of hp', sz_of hz, fun hx => ?_, fun _ hy => ?_, fun _ _ r hr => q r _ ((e2.trans e3).trans (Ex.new hr)) upd_same⟩
    · rw [hx] at q
      exact q p' H3 (e2.trans e3) hp'
    · rw [hy, List.append_nil] at q
      exact q p H3 (e2.trans e3) hp3
theorem es_tup {t : TA} {xs : List V} (h : EvA t σ H xs) (hz : xs.length ≤ 100000) : EvS (tTup t) σ H xs := fun H1 e Q q => eu_tup h hz H1 e Q fun p H2 _ e2 hp => q p H2 e2 hp
theorem es_var {a : Addr} {xs : List V} (h : Ev te σ H (.ref a)) (hs : H a = some (.tup xs)) : EvS te σ H xs := fun H1 e Q q => h H1 e _ fun H2 e2 => q a H2 e2 ((e.trans e2) _ _ hs)
theorem es_mono {xs : List V} {H' : Hp} (e : Ex H H') (h : EvS te σ H xs) : EvS te σ H' xs := fun H1 e1 Q q => h H1 (e.trans e1) Q q
end
/-! x in t, t a tuple of data -/
section
variable {X : Cx}
def rInU (K : PySem.W.Frag) : R2 := fun x y H Q => ∃ d ds, Dp K H x d ∧ Dp K H y (.tuple ds) ∧ SeqAt.shaped d = true ∧ PyData.canLayAll0 ds = true ∧ Q (.bl (ds.any fun z => PyData.eqv z d)) H
def rNotInU (K : PySem.W.Frag) : R2 := fun x y H Q => ∃ d ds, Dp K H x d ∧ Dp K H y (.tuple ds) ∧ SeqAt.shaped d = true ∧ PyData.canLayAll0 ds = true ∧ Q (.bl (!ds.any fun z => PyData.eqv z d)) H
theorem op_inU (hu : X.A.units + 66 < cLine) : OpR X (compareOp .In) (rInU X.K) := fun pins s σ H x y v u Q I rx ry h => by
  obtain ⟨d, ds, hd, he, sd, se, q⟩ := h
  obtain ⟨as, r1⟩ := Dp.reads I d x v hd rx
  obtain ⟨bs, r2⟩ := Dp.reads I (.tuple ds) y u he ry
  have hdp := SeqAt.depth_of_shaped sd
  exact SeqAt.in_tuple_reads r2 r1 se (SeqAt.canLay_of_shaped sd) (by have := Nat.min_le_right (PyData.depthAll ds) d.depth; omega) ⟨.bl _, H, I, rfl, q⟩
theorem op_notInU (hu : X.A.units + 66 < cLine) : OpR X (compareOp .NotIn) (rNotInU X.K) := fun pins s σ H x y v u Q I rx ry h => by
  obtain ⟨d, ds, hd, he, sd, se, q⟩ := h
  obtain ⟨as, r1⟩ := Dp.reads I d x v hd rx
  obtain ⟨bs, r2⟩ := Dp.reads I (.tuple ds) y u he ry
  have hdp := SeqAt.depth_of_shaped sd
  exact SeqAt.notIn_tuple_reads r2 r1 se (SeqAt.canLay_of_shaped sd) (by have := Nat.min_le_right (PyData.depthAll ds) d.depth; omega) ⟨.bl _, H, I, rfl, q⟩
end
end Wk

set_option Elab.async false
set_option linter.all false
set_option maxRecDepth 100000
set_option maxHeartbeats 4000000
namespace Wk
open PySem PySem.Spec PyProof.Rows L2 Evl SeqAt
/-! == of a sequence and the empty one: by the lengths alone -/
section
variable {X : Cx}
def rEqEL (K : PySem.W.Frag) : R2 := fun x y H Q => ∃ a b xs, x = .ref a ∧ y = .ref b ∧ SqL K H a xs ∧ SqL K H b [] ∧ Q (.bl xs.isEmpty) H
theorem op_eqEL (hu : X.A.units < cLine) : OpR X (compareOp .Eq) (rEqEL X.K) := fun pins s σ H x y v u Q I rx ry h => by
  obtain ⟨a, b, xs, rfl, rfl, ha, hb, q⟩ := h
  cases rx
  cases ry
  obtain ⟨its, r1, p1, _⟩ := I.list ha
  obtain ⟨its2, r2, p2, _⟩ := I.list hb
  cases r2
  cases r1 with
  | nil => exact eq_listAt (e := fun _ => true) p1.isList p2.isList rfl hu (fun j h1 _ => absurd h1 (by simp)) ⟨.bl true, H, I, rfl, q⟩
  | cons r rr => exact eq_list_lengthsAt p1.isList p2.isList (by simp) hu ⟨.bl false, H, I, rfl, q⟩
def rEqEU (K : PySem.W.Frag) : R2 := fun x y H Q => ∃ a b xs, x = .ref a ∧ y = .ref b ∧ SqT K H a xs ∧ SqT K H b [] ∧ Q (.bl xs.isEmpty) H
theorem op_eqEU (hu : X.A.units < cLine) : OpR X (compareOp .Eq) (rEqEU X.K) := fun pins s σ H x y v u Q I rx ry h => by
  obtain ⟨a, b, xs, rfl, rfl, ha, hb, q⟩ := h
  cases rx
  cases ry
  obtain ⟨its, r1, p1, _⟩ := I.tuple ha
  obtain ⟨its2, r2, p2, _⟩ := I.tuple hb
  cases r2
  refine eq_tupleAt (e := fun _ => true) p1 p2 hu (fun j _ h2 => absurd h2 (by simp)) ⟨.bl xs.isEmpty, H, I, ?_, q⟩
  cases r1 <;> rfl
def rNeEU (K : PySem.W.Frag) : R2 := fun x y H Q => ∃ a b xs, x = .ref a ∧ y = .ref b ∧ SqT K H a xs ∧ SqT K H b [] ∧ Q (.bl (!xs.isEmpty)) H
theorem op_neEU (hu : X.A.units < cLine) : OpR X (compareOp .NotEq) (rNeEU X.K) := fun pins s σ H x y v u Q I rx ry h => by
  obtain ⟨a, b, xs, rfl, rfl, ha, hb, q⟩ := h
  cases rx
  cases ry
  obtain ⟨its, r1, p1, _⟩ := I.tuple ha
  obtain ⟨its2, r2, p2, _⟩ := I.tuple hb
  cases r2
  refine RcNeAt.tuples (e := fun _ => true) p1 p2 hu (fun j _ h2 => absurd h2 (by simp)) X.prog X.w _ _ ⟨.bl (!xs.isEmpty), H, I, ?_, q⟩
  cases r1 <;> rfl
end
/-! a dict and a tuple are unlike -/
theorem dictEqTup (l b : Addr) (o : Obj) (hoc : o.cls = .type "dict") (its : Array Value) (n : Nat) (dd : Option Addr) (sl : Array (Option Value)) :
    Meets (Builtin.«dict.__eq__» ⟨[.ref l, .ref b], []⟩) (fun _ R s => s.heap.get? l = some o ∧ s.heap.get? b = some { cls := .type "tuple", dict := dd, data := .seq its n, slots := sl } ∧ R (.ok (.ret .notImplemented)) s) :=
  .of_wp fun prog w A R s h => by
    obtain ⟨hp, g, d, tk, os⟩ := s
    obtain ⟨hl, hb, h⟩ := h
    obtain ⟨oc, od, dt, os2⟩ := o
    simp only at hoc
    subst hoc
    have f1 := F.sub_tuple_dict
    wp_walk using wpAny_loadPart' hl, wpAny_loadPart' hb
    exact ⟨_, rfl, h⟩
theorem tupEqDict (l b : Addr) (o : Obj) (hoc : o.cls = .type "dict") (its : Array Value) (n : Nat) (dd : Option Addr) (sl : Array (Option Value)) :
    Meets (Builtin.«tuple.__eq__» ⟨[.ref b, .ref l], []⟩) (fun _ R s => s.heap.get? b = some { cls := .type "tuple", dict := dd, data := .seq its n, slots := sl } ∧ s.heap.get? l = some o ∧ R (.ok (.ret .notImplemented)) s) :=
  .of_wp fun prog w A R s h => by
    obtain ⟨hp, g, d, tk, os⟩ := s
    obtain ⟨hb, hl, h⟩ := h
    obtain ⟨oc, od, dt, os2⟩ := o
    simp only at hoc
    subst hoc
    have f1 := F.sub_dict_tuple
    wp_walk using wpAny_loadPart' hl, wpAny_loadPart' hb
    exact ⟨_, rfl, h⟩
section
variable {A : Around} {s : Shared}
theorem eqAt_dictTup {l b : Addr} {o : Obj} {its : Array Value} (hl : s.heap.get? l = some o) (hoc : o.cls = .type "dict") (hb : s.heap.IsTuple b its) (hu : A.units < cLine) : EqAt A s (.ref l) (.ref b) false := by
  obtain ⟨⟨c2, dd, dt, sl⟩, ho2, hc2, n, hd2⟩ := hb
  simp only at hc2 hd2
  subst hc2 hd2
  have hne : l ≠ b := fun z => by
    rw [z, ho2] at hl
    cases hl
    exact absurd hoc (by simp)
  refine EqAt.of_refs hne fun prog w E Q h => ?_
  exact rc_eq_decline_or (k := false) ⟨_, hl, hoc⟩ ⟨_, ho2, rfl⟩ (by decide) F.sub_tuple_dict F.slot_dict_eq F.slot_tuple_eq_refl
    (fun _ hq => call_meets F.slot_dict_eq ⟨_, hl, hoc⟩ F.entry_dict_eq (F.args_dict_eq_2 _ _) (dictEqTup l b o hoc its n dd sl) ⟨hl, ho2, hq⟩)
    (fun _ hq => call_meets F.slot_tuple_eq_refl ⟨_, ho2, rfl⟩ F.entry_tuple_eq (F.args_tuple_eq_2 _ _) (tupEqDict l b o hoc its n dd sl) ⟨ho2, hl, hq⟩)
    (fun _ hq => wpAny_isSame_ref_other hne hl ho2 (by rw [hoc]; simp) hq) (.inr hu) h
end
/-- an item of an edited row -/
def Itm (d : PyData) : Prop := d = .dict [] ∨ (d.canLay0 = true ∧ d.depth ≤ 8)
section
variable {X : Cx}
/-- x not in l, l a list of such items, x a tuple: a flag -/
def rNotInX (K : PySem.W.Frag) : R2 := fun x y H Q => ∃ a p ds vs es, x = .ref a ∧ y = .ref p ∧ H p = some (.lst vs) ∧ DqA H vs ds ∧ (∀ d ∈ ds, Itm d) ∧ Dq H (.ref a) (.tuple es) ∧ PyData.canLay0 (.tuple es) = true ∧ ∀ b : Bool, Q (.bl b) H
theorem op_notInX (hu : X.A.units + 66 < cLine) : OpR X (compareOp .NotIn) (rNotInX X.K) := fun pins s σ H x y v u Q I rx ry h => by
  obtain ⟨a, p, ds, vs, es, rfl, rfl, hp, hds, hi, hx, cx, q⟩ := h
  cases rx
  cases ry
  obtain ⟨its, r1, p1, _⟩ := I.list (sq_of hp)
  have hxp := hx
  cases hxp with
  | tup h1 h2 =>
    obtain ⟨as, rx⟩ := Dp.reads I (.tuple es) (.ref a) (.ref a) (Dq.dp (K := X.K) cx hx) rfl
    obtain ⟨its2, r2, p2, _⟩ := I.tuple (st_of h1)
    have key : ∀ y ∈ its, ∃ b, EqAt X.A.in1 s y (.ref a) b := fun y hy => by
      obtain ⟨i, hiy⟩ := List.mem_iff_getElem?.mp hy
      have hil : i < vs.length := by
        have := (List.getElem?_eq_some_iff.mp hiy).1
        rw [r1.length]; exact this
      have hv : vs[i]? = some vs[i] := List.getElem?_eq_getElem hil
      obtain ⟨u2, hu2, ru⟩ := r1.get hv
      rw [hiy] at hu2
      cases hu2
      obtain ⟨d, ed, hd⟩ := hds.get hv
      rcases hi d (List.mem_of_getElem? ed) with z | ⟨z, zd⟩
      · subst z
        generalize hvv : vs[i] = vv at *
        cases hd with
        | dic hdd =>
          cases ru
          obtain ⟨_, _, vs2, _, o, es2, ep, g1, g2, _⟩ := (show ObjOk X.prog X.w H s.heap _ (.dK []) from I.hok _ _ hdd)
          exact ⟨false, eqAt_dictTup g1 g2.1 p2 (by show X.A.in1.units < cLine; simp; omega)⟩
      · obtain ⟨bs, ry⟩ := Dp.reads I d vs[i] y (Dq.dp (K := X.K) z hd) ru
        exact ⟨_, eqAt_reads d (.tuple es) X.A.in1 s y (.ref a) bs as ry rx z cx (by
          have hm := Nat.min_le_left d.depth (PyData.tuple es).depth
          show X.A.in1.units + _ < cLine
          simp
          omega)⟩
    have key2 : ∃ e : Value → Bool, ∀ y, y ∈ its.toArray → EqAt X.A.in1 s y (.ref a) (e y) := by
      refine ⟨fun y => @decide (EqAt X.A.in1 s y (.ref a) true) (Classical.propDecidable _), fun y hy => ?_⟩
      obtain ⟨b, hb⟩ := key y (by simpa using hy)
      by_cases c : EqAt X.A.in1 s y (.ref a) true
      · simp only [c, decide_true]
      · simp only [c, decide_false]
        cases b with
        | false => exact hb
        | true => exact absurd hb c
    obtain ⟨e, he⟩ := key2
    exact notIn_listAt e p1.isList he ⟨.bl _, H, I, rfl, q _⟩
end
end Wk

set_option Elab.async false
set_option linter.all false
set_option maxRecDepth 100000
set_option maxHeartbeats 4000000
namespace Wk
open PySem PySem.Spec PyProof.Rows L2 Evl
/-! how many are unlike -/
theorem nd_le {α : Type} [DecidableEq α] : ∀ (l D : List α), l.Nodup → (∀ x ∈ l, x ∈ D) → l.length ≤ D.length
  | [], _, _, _ => Nat.zero_le _
  | x :: l, D, hn, hs => by
    have hn' := List.nodup_cons.mp hn
    have hx : x ∈ D := hs x List.mem_cons_self
    have ih := nd_le l (D.erase x) hn'.2 fun y hy => (List.mem_erase_of_ne (fun (e : y = x) => hn'.1 (by rw [← e]; exact hy))).2 (hs y (List.mem_cons_of_mem _ hy))
    have e := List.length_erase_of_mem hx
    have hp : 0 < D.length := List.length_pos_of_mem hx
    simp only [List.length_cons]
    omega
theorem dup_less {α : Type} [DecidableEq α] : ∀ (D : List α), ¬ D.Nodup → ∃ D' : List α, (∀ x ∈ D, x ∈ D') ∧ D'.length < D.length
  | [], h => absurd List.nodup_nil h
  | x :: D, h => by
    by_cases hx : x ∈ D
    · exact ⟨D, fun y hy => (List.mem_cons.mp hy).elim (fun e => by rw [e]; exact hx) id, Nat.lt_succ_self _⟩
    · have hD : ¬ D.Nodup := fun z => h (List.nodup_cons.mpr ⟨hx, z⟩)
      obtain ⟨D', h1, h2⟩ := dup_less D hD
      exact ⟨x :: D', fun y hy => (List.mem_cons.mp hy).elim (fun e => by rw [e]; exact List.mem_cons_self) (fun e => List.mem_cons_of_mem _ (h1 y e)), Nat.succ_lt_succ h2⟩
theorem nd_iff {α : Type} [DecidableEq α] {l D : List α} (hn : l.Nodup) (h : ∀ x, x ∈ l ↔ x ∈ D) : l.length = D.length ↔ D.Nodup := by
  constructor
  · intro e
    apply Classical.byContradiction
    intro hD
    obtain ⟨D', h1, h2⟩ := dup_less D hD
    have := nd_le l D' hn fun x hx => h1 x ((h x).mp hx)
    omega
  · intro hD
    have h1 := nd_le l D hn fun x hx => (h x).mp hx
    have h2 := nd_le D l hD fun x hx => (h x).mpr hx
    omega
section
variable {X : Cx}
/-- len(set(t)), t a tuple of ints -/
def tLenSU (K : PySem.W.Frag) (ta : TE) : TE := fun σ H Q => ta σ H fun x H1 => ∃ (l : Addr) (ns : List Int), x = V.ref l ∧ SqT K H1 l (ns.map V.int) ∧ ns.length < 64 ∧ ∀ n : Nat, (n = ns.length ↔ ns.Nodup) → Q (.int n) H1
theorem pe_lenSU {a : Expr} {ta : TE} {p p2 q pos : Pos} (hc : X.calm = true) (hg : Gl X "len") (hm : X.mg "len" = none) (hg2 : Gl X "set") (hm2 : X.mg "set" = none) (ha : PE X a ta)
    (na : starEach [a] X.env = (false, eval a X.env) :: starEach [] X.env := by rfl) : PE X (.Call (.Name "len" p) [.Call (.Name "set" p2) [a] [] q] [] pos) (tLenSU X.K ta) := by
  refine ⟨fun pins s σ H Q I h => ?_⟩
  refine Call_ (ld_blt I hg hm PySem.boot_len ?_)
  refine PyProof.Rows.callWith_builtin1 (PyProof.Rows.args_cons ?_ rfl) rfl rfl
  refine Call_ (ld_blt I hg2 hm2 PyProof.Rows.boot_set ?_)
  refine PyProof.Rows.callWith_type1 (PyProof.Rows.args_cons (thn (ha.run pins s σ H _ I h) fun v s1 hh => PyProof.Rows.args_nil ?_) na) na rfl
  obtain ⟨x, H1, I1, r1, l, ns, rfl, hq, hlt, q1⟩ := hh
  cases r1
  obtain ⟨its, r, pl, hz⟩ := I1.tuple hq
  refine call_set_tupI (w := X.w) ns (I1.ok.hd hc) pl (by simpa using r.ints) (by unfold scanBound; omega) fun h' tk c hS hc2 hk => ?_
  refine PyProof.Rows.args_nil ?_
  obtain ⟨o, es, ep, t, ho, hex, hd, _, hnd, hiff, _, hf, hn, _⟩ := hS
  have I2 : Inv X pins σ H1 { s1 with heap := h', toks := tk } := I1.kept fun b o e => hk b o e
  refine call_len_set ho hex hd hf (by rw [hn] <;> omega) ⟨.int es.size, H1, I2.tok _, ⟨_, rfl⟩, q1 es.size ?_⟩
  have hl : (es.toList.map keyOf).length = es.size := by simp
  rw [← hl]
  exact nd_iff hnd fun k => by
    have := hiff k
    simp only [decide_eq_true_eq] at this
    exact this.symm
end
/-- the set that set() lays -/
abbrev sO (w : World) : Obj := { cls := .type "set", dict := none, data := .set #[] 0 (.fresh 0 0 (!w.params.followText "set-order")) }
section
variable {P : Program} {w : World} {A : Around} {E : Value → Shared → Prop} {s : Shared}
/-- set(t), t a tuple of tuples of ints -/
theorem set_of_tup2 {l : Addr} {its : Array Value} (ks : List (Addr × List Int)) {Q : Value → Shared → Prop} (nh : A.handled = none) (tl : s.heap.IsTuple l its) (eq : its.toList = ks.map fun p => Value.ref p.1)
    (ki : ∀ p ∈ ks, IsT P w s.heap p.2 p.1) (few : ks.length < 64) (un : A.units + 3 < cLine)
    (fin : ∀ (h' : Heap) (tk : Nat) L es ep t, SetTR P w h' s.heap.objs.size L es ep t → Got ks ks.length L → (∀ b o, s.heap.get? b = some o → h'.get? b = some o) → Q (.ref s.heap.objs.size) { s with heap := h', toks := tk }) :
    wpAny (model P w) A (call (.type "set") [.ref l]) Q E s := by
  have size : its.size = ks.length := by have q := congrArg List.length eq; simpa using q
  obtain ⟨c, rest, mro⟩ := F.called_set.mro
  have made := F.called_set.made; have sub := F.called_set.sub
  refine wpAny_call (codeAny_of_tree (show wpAny _ _ (callAny (.type "set") _) _ _ _ from ?_))
  refine wpAny_pure ⟨Code.quiet_builtin _ (by decide +kernel), codeAny_builtin F.entry_type_call (by
    rw [Around.under_plain (weight_type_call_type "set" [.ref l] []) rfl]
    have nt := F.called_set.notType; have cc := F.called_set.canCreate; have tc := F.typeCall_set_1 (.ref l)
    repeat (any_goals (first | assumption | wp_step))
    refine codeAny_mono (code_set_led1 (.ref l) (E := E) (Q₁ := fun ob s1 => ob = .ref s.heap.objs.size ∧ s1 = { s with heap := s.heap.push (sO w) }) ⟨rfl, rfl⟩) fun r s1 hr => ?_
    cases r with
    | error e => exact hr
    | ok fl =>
      cases fl with
      | ret ob =>
        obtain ⟨rfl, rfl⟩ := hr
        have hS : (s.heap.push (sO w)).get? s.heap.objs.size = some (sO w) := Heap.get?_push_size _ rfl
        have hT : Shared.TypeIs { s with heap := s.heap.push (sO w) } (.ref s.heap.objs.size) "set" := ⟨_, hS, rfl⟩
        have li := F.called_set.init.lookup; have bi := F.called_set.init.bind (.ref s.heap.objs.size)
        repeat (any_goals (first | assumption | wp_step))
        refine codeAny_mono (codeAny_call_builtin (R := wants (fun r s2 => r = .none ∧ ∃ h' tk L es ep t, s2 = { s with heap := h', toks := tk } ∧ SetTR P w h' s.heap.objs.size L es ep t ∧ Got ks ks.length L ∧ (∀ b o, s.heap.get? b = some o → h'.get? b = some o)) E)
          F.called_set.init.plain F.entry_set_init (check_set_init_1 hT ?_)) fun r2 s2 hr2 => ?_
        · obtain ⟨⟨oc, od, dt, sl⟩, ol, cl, n, dl⟩ := tl
          simp only at cl dl; subst cl; subst dl
          have ol1 : (s.heap.push (sO w)).get? l = some { cls := .type "tuple", dict := od, data := .seq its n, slots := sl } := Heap.get?_push_of_some _ ol
          have b1 := F.sub_tuple_set; have b2 := F.sub_tuple_frozenset
          have b3 : (Value.type "tuple" == Value.type "dict") = false := by decide
          have tl1 : (s.heap.push (sO w)).IsTuple l its := ⟨_, ol1, rfl, n, rfl⟩
          unfold Builtin.«set.__init__» noKeywords Builtin.Frozenset.updateFrom
          generalize hPI : pyIter = PI
          wp_walk
          subst hPI
          refine wpAny_pyIter_tuple tl1 (wpAny_bind (wpAny_runValue ?_))
          have lt : l < s.heap.objs.size := Heap.lt_size ol
          have nh3 : A.in1.in1.in1.handled = none := by simp [nh]
          have ne1 : l ≠ (s.heap.push (sO w)).objs.size := by rw [Heap.size_push]; exact Nat.ne_of_lt (Nat.lt_succ_of_lt lt)
          have nin : s.heap.objs.size ∉ [(s.heap.push (sO w)).objs.size, l] := by
            rw [Heap.size_push]
            intro z
            rcases List.mem_cons.mp z with z | z
            · exact absurd z (Nat.ne_of_lt (Nat.lt_succ_self _))
            · exact absurd (List.mem_singleton.mp z) (Nat.ne_of_gt lt)
          have val : ∀ (i : Nat) (v : Value), its[i]? = some v → ∃ p, ks[i]? = some p ∧ v = .ref p.1 := fun i v hv => by
            have q : its.toList[i]? = some v := (Array.getElem?_toList ..).trans hv
            rw [eq, List.getElem?_map] at q
            cases hq : ks[i]? with
            | none => rw [hq] at q; cases q
            | some p => rw [hq] at q; exact ⟨p, rfl, (Option.some.inj q).symm⟩
          have out : ∀ b, s.heap.objs.size ≤ b → s.heap.get? b = none := fun b hb => by
            cases q : s.heap.get? b with
            | none => rfl
            | some o => exact absurd (Nat.lt_of_lt_of_le (Heap.lt_size q) hb) (Nat.lt_irrefl _)
          refine set_update_tups ((Walks.tuple nh3 _ l ne1 its).toS) s.heap.objs.size nin ks size few val s.heap ki (out _ (Nat.le_refl _)) (fun b hb => out b (by rw [List.mem_singleton.mp hb, Heap.size_push]; exact Nat.le_succ _)) un (its.size - 0) 0 _ (by omega) (Nat.zero_le _)
            ⟨⟨_, Heap.get?_push_size _ rfl, rfl, rfl⟩, (tl1.push _)⟩ (fun b o e => Heap.get?_push_of_some _ (Heap.get?_push_of_some _ e)) ⟨[], #[], 0, _, setTR_fresh (Heap.get?_push_of_some _ hS), Got.zero ks⟩ ?_
          intro s' L es ep t hm hS' g' kp
          obtain ⟨h', g2, d', tk', os'⟩ := s'
          have eg : g2 = s.gens := hm.gens
          have ed : d' = s.drawn := hm.drawn
          have eo : os' = s.os := hm.os
          subst eg; subst ed; subst eo
          show wpAny _ _ _ _ _ _
          refine wpAny_pure (show wpAny _ _ (ret Value.none) _ _ _ from ?_)
          rw [size] at g'
          exact wpAny_pure ⟨rfl, h', tk', L, es, ep, t, rfl, hS', g', kp⟩
        · cases r2 with
          | error e => exact hr2
          | ok fl2 =>
            cases fl2 with
            | ret r =>
              obtain ⟨rfl, h', tk, L, es, ep, t, rfl, hS', g', k'⟩ := hr2
              repeat (any_goals (first | assumption | wp_step))
              exact fin _ _ _ _ _ _ hS' g' k'
            | _ => exact hr2.elim
      | _ => exact hr.elim)⟩
end
section
variable {X : Cx}
/-- len(set(t)), t a tuple of tuples of ints -/
def tLenSUU (K : PySem.W.Frag) (ta : TE) : TE := fun σ H Q => ta σ H fun x H1 => ∃ (l : Addr) (ks : List (Addr × List Int)), x = V.ref l ∧ SqT K H1 l (ks.map fun p => V.ref p.1) ∧ (∀ p ∈ ks, SqT K H1 p.1 (p.2.map V.int)) ∧ ks.length < 64 ∧
  ∀ n : Nat, (n = ks.length ↔ (ks.map (·.2)).Nodup) → Q (.int n) H1
theorem pe_lenSUU {a : Expr} {ta : TE} {p p2 q pos : Pos} (hc : X.calm = true) (hu : X.A.units + 64 < cLine) (hg : Gl X "len") (hm : X.mg "len" = none) (hg2 : Gl X "set") (hm2 : X.mg "set" = none) (ha : PE X a ta)
    (na : starEach [a] X.env = (false, eval a X.env) :: starEach [] X.env := by rfl) : PE X (.Call (.Name "len" p) [.Call (.Name "set" p2) [a] [] q] [] pos) (tLenSUU X.K ta) := by
  refine ⟨fun pins s σ H Q I h => Call_ (ld_blt I hg hm PySem.boot_len (PyProof.Rows.callWith_builtin1 (PyProof.Rows.args_cons (Call_ (ld_blt I hg2 hm2 PyProof.Rows.boot_set ?_)) rfl) rfl rfl))⟩
  refine PyProof.Rows.callWith_type1 (PyProof.Rows.args_cons (thn (ha.run pins s σ H _ I h) fun v s1 hh => PyProof.Rows.args_nil ?_) na) na rfl
  obtain ⟨x, H1, I1, r1, l, ks, rfl, hq, hk, few, q1⟩ := hh
  cases r1
  obtain ⟨its, r, pl, hz⟩ := I1.tuple hq
  refine set_of_tup2 (P := X.prog) (w := X.w) ks (I1.ok.hd hc) pl (by simpa using refs_of_vals r) (fun p hp => I1.isT (hk p hp)) few (by omega) fun h' tk L es ep t R g k => PyProof.Rows.args_nil ?_
  have I2 : Inv X pins σ H1 { s1 with heap := h', toks := tk } := I1.kept fun b o e => k b o e
  have hes : es.size = L.length := R.size (s := { s1 with heap := h', toks := tk })
  have hf := R.fits (s := { s1 with heap := h', toks := tk })
  obtain ⟨o, ho, hex, hd⟩ := R.ob
  refine call_len_set (s := { s1 with heap := h', toks := tk }) ho hex hd hf (by have := R.few; omega) ⟨.int es.size, H1, I2.tok _, ⟨_, rfl⟩, q1 es.size ?_⟩
  have e1 : (L.map (·.2)).length = es.size := by simp [hes]
  have e2 : (ks.map (·.2)).length = ks.length := by simp
  rw [← e1, ← e2]
  refine nd_iff R.nd fun k => ⟨fun z => ?_, fun z => ?_⟩
  · obtain ⟨p, hp, rfl⟩ := List.mem_map.mp z
    exact List.mem_map.mpr ⟨p, List.mem_of_mem_take (g.sub p hp), rfl⟩
  · obtain ⟨p, hp, rfl⟩ := List.mem_map.mp z
    exact g.all p (by rw [List.take_length]; exact hp)
end
end Wk

set_option Elab.async false
set_option linter.all false
set_option maxRecDepth 100000
set_option maxHeartbeats 2000000
namespace Wk
open PySem PySem.Spec PyProof.Rows L2 Evl
def top (i : Nat) : Stmt := PySem.Challenge.pw_wishreels_k49_patterns_refused.main.body.getD i (.Pass ⟨0, 0, 0, 0⟩)
abbrev FnP (K : PySem.W.Frag) (x : Str) (st : Stmt) (f : Addr) (fd : FuncData) : Prop := FunD K x x (defArgs st) (defBody st) (defScope st) [] [] f fd
/-- names that are the built-in ones -/
structure Bl (mg : Str → Option Value) : Prop where
  isi : mg "isinstance" = none
  len : mg "len" = none
  tuple : mg "tuple" = none
  list : mg "list" = none
  int : mg "int" = none
  bool : mg "bool" = none
  str : mg "str" = none
  all : mg "all" = none
  set : mg "set" = none
  enum : mg "enumerate" = none
  range : mg "range" = none
  abs : mg "abs" = none
  min : mg "min" = none
  repr : mg "repr" = none
/-- a pure promise: a plain value, what stood stays -/
def spP (R : Hp → List V → V → Prop) : Sp := fun vs H Q _ => ∃ z, R H vs z ∧ ∀ H', Ex H H' → Q z H'
theorem spP_v {R : Hp → List V → V → Prop} {vs : List V} {H : Hp} {z : V} (h : ∀ H1, Ex H H1 → R H1 vs z) : SpV (spP R) vs H z := fun H1 e Q q E => ⟨z, h H1 e, fun H2 e2 => q H2 e2⟩
def isI : PyData → Bool
  | .int _ => true
  | _ => false
/-- what a datum is worth as an int -/
def valI : PyData → Int
  | .int i => i
  | _ => 0
theorem isI_eq {d : PyData} (h : isI d = true) : d = .int (valI d) := by
  cases d <;> first | rfl | (simp [isI] at h)
theorem kit_int (d : PyData) : ∃ b, kitB (tyN d) "int" = some b ∧ (b = true → ∃ c, kitB (tyN d) "bool" = some c ∧ (b && !c) = isI d) ∧ (b = false → isI d = false) := by
  cases d with
  | none => exact ⟨false, show kitB "NoneType" "int" = some false by decide +kernel, fun h => (by cases h), fun _ => rfl⟩
  | bool b => exact ⟨true, show kitB "bool" "int" = some true by decide +kernel, fun _ => ⟨true, show kitB "bool" "bool" = some true by decide +kernel, rfl⟩, fun h => (by cases h)⟩
  | int i => exact ⟨true, show kitB "int" "int" = some true by decide +kernel, fun _ => ⟨false, show kitB "int" "bool" = some false by decide +kernel, rfl⟩, fun h => (by cases h)⟩
  | str z => exact ⟨false, show kitB "str" "int" = some false by decide +kernel, fun h => (by cases h), fun _ => rfl⟩
  | list ds => exact ⟨false, show kitB "list" "int" = some false by decide +kernel, fun h => (by cases h), fun _ => rfl⟩
  | tuple ds => exact ⟨false, show kitB "tuple" "int" = some false by decide +kernel, fun h => (by cases h), fun _ => rfl⟩
  | dict ds => exact ⟨false, show kitB "dict" "int" = some false by decide +kernel, fun h => (by cases h), fun _ => rfl⟩
def isTu : PyData → Bool
  | .tuple _ => true
  | _ => false
def itemsT : PyData → List PyData
  | .tuple ds => ds
  | _ => []
theorem kit_tup (d : PyData) : kitB (tyN d) "tuple" = some (isTu d) := by
  cases d with
  | none => exact show kitB "NoneType" "tuple" = some false by decide +kernel
  | bool b => exact show kitB "bool" "tuple" = some false by decide +kernel
  | int i => exact show kitB "int" "tuple" = some false by decide +kernel
  | str z => exact show kitB "str" "tuple" = some false by decide +kernel
  | list ds => exact show kitB "list" "tuple" = some false by decide +kernel
  | tuple ds => exact show kitB "tuple" "tuple" = some true by decide +kernel
  | dict ds => exact show kitB "dict" "tuple" = some false by decide +kernel
def isR (n : Int) (d : PyData) : Bool := isI d && (decide (0 ≤ valI d) && decide (valI d ≤ n - 1))
section
variable {P : Program} {w : World} {K : PySem.W.Frag} {mg : Str → Option Value} {base : Heap} {f : Addr} {fd : FuncData}
/-! is_integer, _law_is_int -/
abbrev spIsInt : Sp := spP fun H vs z => ∃ v d, vs = [v] ∧ Dq H v d ∧ z = .bl (isI d)
abbrev sIsInt : Stmt := top 6
theorem scIsInt : FnScope ["thing"] ["thing"] (defScope sIsInt) := ⟨rfl, rfl, rfl, by decide +kernel, rfl, by decide +kernel, by decide +kernel⟩
theorem ok_isInt (B : Bl mg) (F : FnP K "is_integer" sIsInt f fd) : FnOk P w K mg base CX0 1 f fd ["thing"] spIsInt := by
  refine F.ok scIsInt (fun vs H Q E h => ?_) (fun cdv A outer s H vs Q E hr h => ?_)
  · obtain ⟨z, ⟨v, d, rfl, _⟩, _⟩ := h
    rfl
  · obtain ⟨z, ⟨v, d, rfl, hd, rfl⟩, k⟩ := h
    refine ⟨_, pss_one (ps_ret (pe_and (pe_callB call_isi (by rfl) B.isi boot_isinstance (pa_cons (pv 0) (pa_cons (pe_bltn (v := .ty "int") (by rfl) B.int PyProof.Rows.boot_int rfl) pa_nil)))
      (pe_one (pe_not (pe_callB call_isi (by rfl) B.isi boot_isinstance (pa_cons (pv 0) (pa_cons (pe_bltn (v := .ty "bool") (by rfl) B.bool PyProof.Rows.boot_bool rfl) pa_nil))))))), ?_⟩
    obtain ⟨b, hb, h1, h2⟩ := kit_int d
    have v0 : Ev (tVar 0) (start ["thing"] [v]) H v := ev_var rfl
    cases b with
    | true =>
      obtain ⟨c, hc, e⟩ := h1 rfl
      rw [← e] at k
      exact s_ret (ev_andV (ev_isi v0 hd hb) fun _ => ev_notV (ev_isi v0 hd hc)) k
    | false =>
      rw [h2 rfl] at k
      exact s_ret (ev_andV (b := false) (ev_isi v0 hd hb) fun z => (by cases z)) k

/-! is_between, is_router -/
abbrev spBetween : Sp := spP fun H vs z => ∃ (a b : Int) (v : V) (d : PyData), vs = [.int a, .int b, v] ∧ Dq H v d ∧ z = .bl (isI d && (decide (a ≤ valI d) && decide (valI d ≤ b)))
abbrev sBetween : Stmt := top 7
theorem scBetween : FnScope ["least", "most", "thing"] ["least", "most", "thing"] (defScope sBetween) := ⟨rfl, rfl, rfl, by decide +kernel, rfl, by decide +kernel, by decide +kernel⟩
theorem ok_between (B : Bl mg) (C : Cal P w K mg base "is_integer" ["thing"] 1 spIsInt) (F : FnP K "is_between" sBetween f fd) : FnOk P w K mg base CX0 2 f fd ["least", "most", "thing"] spBetween := by
  refine F.ok scBetween (fun vs H Q E h => ?_) (fun cdv A outer s H vs Q E hr h => ?_)
  · obtain ⟨z, ⟨a, b, v, d, rfl, _⟩, _⟩ := h
    rfl
  · obtain ⟨z, ⟨a, b, v, d, rfl, hd, rfl⟩, k⟩ := h
    refine ⟨_, pss_one (ps_ret (pe_and (pe_cal C hr (by rfl) (pa_cons (pv 2) pa_nil)) (pe_one (pe_chain op_le op_le (pv 0) (pv 2) (pv 1))))), ?_⟩
    have v0 : Ev (tVar 0) (start ["least", "most", "thing"] [.int a, .int b, v]) H (.int a) := ev_var rfl
    have v1 : Ev (tVar 1) (start ["least", "most", "thing"] [.int a, .int b, v]) H (.int b) := ev_var rfl
    have v2 : Ev (tVar 2) (start ["least", "most", "thing"] [.int a, .int b, v]) H v := ev_var rfl
    refine s_ret (ev_andV (a := isI d) (ev_call (ea_cons v2 ea_nil) (spP_v fun H1 e => ⟨v, d, rfl, hd.mono e, rfl⟩)) fun hi => ?_) k
    rw [isI_eq hi] at hd
    cases hd
    exact ev_chain v0 v2 v1 rv_I0 rv_I0
abbrev spRouter : Sp := spP fun H vs z => ∃ (n : Int) (v : V) (d : PyData), vs = [.int n, v] ∧ Dq H v d ∧ z = .bl (isR n d)
abbrev sRouter : Stmt := top 8
theorem scRouter : FnScope ["size", "thing"] ["size", "thing"] (defScope sRouter) := ⟨rfl, rfl, rfl, by decide +kernel, rfl, by decide +kernel, by decide +kernel⟩
theorem ok_router (C : Cal P w K mg base "is_between" ["least", "most", "thing"] 2 spBetween) (F : FnP K "is_router" sRouter f fd) : FnOk P w K mg base CX0 3 f fd ["size", "thing"] spRouter := by
  refine F.ok scRouter (fun vs H Q E h => ?_) (fun cdv A outer s H vs Q E hr h => ?_)
  · obtain ⟨z, ⟨n, v, d, rfl, _⟩, _⟩ := h
    rfl
  · obtain ⟨z, ⟨n, v, d, rfl, hd, rfl⟩, k⟩ := h
    refine ⟨_, pss_one (ps_ret (pe_cal C hr (by rfl) (pa_cons pe_int (pa_cons (pe_op op_sub (pv 0) pe_int) (pa_cons (pv 1) pa_nil))))), ?_⟩
    exact s_ret (ev_call (ea_cons ev_c (ea_cons (ev_op (ev_var rfl) ev_c rv_I0) (ea_cons (ev_var rfl) ea_nil))) (spP_v fun H1 e => ⟨0, n - 1, v, d, rfl, hd.mono e, rfl⟩)) k
end
end Wk

set_option Elab.async false
set_option linter.all false
set_option maxRecDepth 100000
set_option maxHeartbeats 2000000
namespace Wk
open PySem PySem.Spec PyProof.Rows L2 Evl
theorem cut_to (xs : List V) (i : Nat) (h : i ≤ xs.length) : cutV xs none (some (i : Int)) = xs.take i := by
  unfold cutV
  rw [HT.sIx_none, HT.sIx_nat, Nat.min_eq_left h]
  simp
theorem flat_ints (ns : List Int) : (ns.map V.int).all flatV = true := by
  rw [List.all_map, List.all_eq_true]
  intro x _
  rfl
theorem cut_from (xs : List V) (i : Nat) (h : i ≤ xs.length) : cutV xs (some (i : Int)) none = xs.drop i := by
  unfold cutV
  rw [HT.sIx_nat, HT.sIx_none, Nat.min_eq_left h]
  exact List.take_of_length_le (by simp)
theorem seqIx {k n : Nat} (h : k < n) : seqIndex? (k : Int) n = some k := by
  have q := ixN_seq (n := n) (i := (k : Int)) (j := k) (by
    unfold ixN
    rw [if_pos (by omega), if_pos (by omega)]
    simp)
  exact q.1
theorem ix_listK {X : Cx} {K : PySem.W.Frag} (hK : X.K = K) : IxR X (rIxL K) := by
  subst hK
  exact ix_list
theorem ixNat {n : Nat} {x : Int} (h0 : 0 ≤ x) (h1 : x < n) : ixN n x = some x.toNat := by
  unfold ixN
  rw [if_pos h0, if_pos h1]
theorem at_ints {os : List Int} {j : Nat} (h : j < os.length) : atI (os.map V.int) (j : Int) = some (.int os[j]) := atI_nat (by rw [List.getElem?_map, List.getElem?_eq_getElem h]; rfl)
theorem g_name {i : Nat} {x : V} {σ : L2.St} {H : Hp} {k : L2.St → Hp → Prop} (h : k (σ.set i (some x)) H) : gName i x σ H k := h
theorem asg_lst1 {te : TE} {g : TG} {D : Ends} {σ : L2.St} {H : Hp} (h : te σ H fun x H1 => 1 ≤ sizeLine ∧ ∀ b, H1 b = none → g (.ref b) σ (upd H1 b (.lst [x])) D.nx) : tAsg (tLst (tCons te tNil)) g D σ H := h
theorem cb1 {r : List V → Hp → VK → Prop} {ta : TE} {σ : L2.St} {H : Hp} {Q : VK} (h : ta σ H fun x H1 => r [x] H1 Q) : tCB r (tCons ta tNil) σ H Q := h
theorem q_c {i : Nat} {v : V} {tz : TS} {D : Ends} {σ : L2.St} {H : Hp} (h : tz D (σ.set i (some v)) H) : tSeq (tAsg (tC v) (gName i)) tz D σ H := h
theorem call_tupleK {X : Cx} {K : PySem.W.Frag} (hK : X.K = K) : CallR X (.type "tuple") (fun xs H Q => ∃ p ys, xs = [.ref p] ∧ ((SqL K H p ys ∧ ∀ l, H l = none → Q (.ref l) (upd H l (.tup ys))) ∨ (SqT K H p ys ∧ Q (.ref p) H))) := by
  subst hK
  exact call_tuple_of
theorem ret_cb {r : List V → Hp → VK → Prop} {ta : TE} {D : Ends} {σ : L2.St} {H : Hp} (h : ta σ H fun x H1 => r [x] H1 D.rt) : tRet (tCB r (tCons ta tNil)) D σ H := h
theorem ret_op {r : R2} {ta tb : TE} {D : Ends} {σ : L2.St} {H : Hp} (h : ta σ H fun x H1 => tb σ H1 fun y H2 => r x y H2 D.rt) : tRet (tOp r ta tb) D σ H := h
theorem call_listK2 {X : Cx} {K : PySem.W.Frag} (hK : X.K = K) : CallR X (.type "list") (fun xs H Q => ∃ p ys, xs = [.ref p] ∧ (SqL K H p ys ∨ SqT K H p ys) ∧ ∀ l, H l = none → Q (.ref l) (upd H l (.lst ys))) := by
  subst hK
  exact call_list_of
theorem take_snoc {α : Type} {l : List α} {i : Nat} {x : α} (h : l[i]? = some x) : l.take (i + 1) = l.take i ++ [x] := by
  rw [List.take_add_one, h]
  rfl
theorem ev_inS {K : PySem.W.Frag} {σ : L2.St} {H : Hp} {ta tb : TE} {x : V} {xs : List V} (ha : Ev ta σ H x) (hb : EvS tb σ H xs) (hx : flatV x = true) (hf : xs.all flatV = true) : Ev (tOp (rIn K false) ta tb) σ H (.bl (inV x xs)) := fun H1 e Q q =>
  ha H1 e _ fun H2 e2 => hb H2 (e.trans e2) _ fun p H3 e3 hp => ⟨p, xs, rfl, .inr (st_of hp), hx, hf, q H3 (e2.trans e3)⟩
theorem modP (a b : Int) (h : 0 < b) : 0 ≤ a % b ∧ a % b < b := ⟨Int.emod_nonneg _ (by omega), Int.emod_lt_of_pos _ h⟩
theorem q_asgW {te : TE} {tz : TS} {D : Ends} {σ : L2.St} {H : Hp} {i : Nat} (h : te σ H fun x H1 => tz D (σ.set i (some x)) H1) : tSeq (tAsg te (gName i)) tz D σ H := h
end Wk

set_option Elab.async false
set_option linter.all false
set_option maxRecDepth 100000
set_option maxHeartbeats 2000000
namespace Wk
/-! what fits a pattern -/
inductive It : Type
  | any : It
  | one : It
  | at_ (n : Nat) : It
deriving DecidableEq
def mt : List It → List Nat → Bool
  | [], rs => rs.isEmpty
  | .any :: p, rs => (List.range (rs.length + 1)).any fun k => mt p (rs.drop k)
  | .one :: p, rs => match rs with
    | [] => false
    | _ :: rs => mt p rs
  | .at_ n :: p, rs => match rs with
    | [] => false
    | r :: rs => decide (r = n) && mt p rs
theorem mt_anyI {p : List It} {rs : List Nat} : mt (.any :: p) rs = true ↔ ∃ k, k ≤ rs.length ∧ mt p (rs.drop k) = true := by
  show (List.range (rs.length + 1)).any (fun k => mt p (rs.drop k)) = true ↔ _
  rw [List.any_eq_true]
  constructor
  · rintro ⟨k, hk, h⟩
    exact ⟨k, by have := List.mem_range.mp hk; omega, h⟩
  · rintro ⟨k, hk, h⟩
    exact ⟨k, List.mem_range.mpr (by omega), h⟩
theorem mtc_append {q : List It} : ∀ {p : List It} {rs : List Nat}, mt (p ++ q) rs = true ↔ ∃ k, k ≤ rs.length ∧ mt p (rs.take k) = true ∧ mt q (rs.drop k) = true := by
  intro p
  induction p with
  | nil =>
    intro rs
    constructor
    · intro h
      exact ⟨0, Nat.zero_le _, rfl, h⟩
    · rintro ⟨k, hk, h1, h2⟩
      have e : rs.take k = [] := by
        have h3 : (rs.take k).isEmpty = true := h1
        exact List.isEmpty_iff.mp h3
      have hl := congrArg List.length e
      rw [List.length_take, Nat.min_eq_left hk] at hl
      have : k = 0 := hl
      subst this
      exact h2
  | cons x p ih =>
    intro rs
    cases x with
    | any =>
      rw [List.cons_append, mt_anyI]
      constructor
      · rintro ⟨j, hj, h⟩
        obtain ⟨k, hk, h1, h2⟩ := ih.mp h
        rw [List.length_drop] at hk
        refine ⟨j + k, by omega, mt_anyI.mpr ⟨j, by rw [List.length_take]; omega, ?_⟩, ?_⟩
        · rw [List.drop_take, show j + k - j = k by omega]
          exact h1
        · rw [← List.drop_drop]
          exact h2
      · rintro ⟨m, hm, h1, h2⟩
        obtain ⟨j, hj, h3⟩ := mt_anyI.mp h1
        rw [List.length_take] at hj
        refine ⟨j, by omega, ih.mpr ⟨m - j, by rw [List.length_drop]; omega, ?_, ?_⟩⟩
        · rw [List.drop_take] at h3
          exact h3
        · rw [List.drop_drop, show j + (m - j) = m by omega]
          exact h2
    | one =>
      cases rs with
      | nil =>
        constructor
        · intro h
          cases h
        · rintro ⟨k, hk, h1, _⟩
          rw [List.take_nil] at h1
          cases h1
      | cons r rs =>
        show mt (p ++ q) rs = true ↔ _
        rw [ih]
        constructor
        · rintro ⟨k, hk, h1, h2⟩
          exact ⟨k + 1, by simp; omega, h1, h2⟩
        · rintro ⟨k, hk, h1, h2⟩
          cases k with
          | zero => cases h1
          | succ k => exact ⟨k, by simpa using hk, h1, h2⟩
    | at_ n =>
      cases rs with
      | nil =>
        constructor
        · intro h
          cases h
        · rintro ⟨k, hk, h1, _⟩
          rw [List.take_nil] at h1
          cases h1
      | cons r rs =>
        show (decide (r = n) && mt (p ++ q) rs) = true ↔ _
        rw [Bool.and_eq_true, ih]
        constructor
        · rintro ⟨h0, k, hk, h1, h2⟩
          exact ⟨k + 1, by simp; omega, Bool.and_eq_true_iff.mpr ⟨h0, h1⟩, h2⟩
        · rintro ⟨k, hk, h1, h2⟩
          cases k with
          | zero => cases h1
          | succ k =>
            obtain ⟨h0, h1⟩ := Bool.and_eq_true_iff.mp h1
            exact ⟨h0, k, by simpa using hk, h1, h2⟩
theorem mt_all (rs : List Nat) : mt [.any] rs = true := mt_anyI.mpr ⟨rs.length, Nat.le_refl _, by rw [List.drop_length]; rfl⟩
theorem beq_of {a b : Bool} (h : a = true ↔ b = true) : a = b := by
  cases a <;> cases b <;> simp_all
/-! a router more -/
theorem mt_snoc_any (p : List It) (rs : List Nat) (r : Nat) : mt (p ++ [.any]) (rs ++ [r]) = (mt (p ++ [.any]) rs || mt p (rs ++ [r])) := by
  refine beq_of ?_
  rw [Bool.or_eq_true, mtc_append, mtc_append]
  constructor
  · rintro ⟨k, hk, h1, _⟩
    rw [List.length_append, List.length_singleton] at hk
    by_cases c : k ≤ rs.length
    · rw [List.take_append_of_le_length c] at h1
      exact .inl ⟨k, c, h1, mt_all _⟩
    · rw [List.take_of_length_le (by simp; omega)] at h1
      exact .inr h1
  · rintro (⟨k, hk, h1, _⟩ | h1)
    · exact ⟨k, by simp; omega, by rw [List.take_append_of_le_length hk]; exact h1, mt_all _⟩
    · exact ⟨(rs ++ [r]).length, Nat.le_refl _, by rw [List.take_length]; exact h1, mt_all _⟩
theorem mt_one1 (rs : List Nat) : mt [.one] rs = decide (rs.length = 1) := by
  match rs with
  | [] => rfl
  | [r] => rfl
  | r :: s :: rs => simp [mt]
theorem mt_at1 (n : Nat) (rs : List Nat) : mt [.at_ n] rs = decide (rs = [n]) := by
  match rs with
  | [] => rfl
  | [r] => simp [mt]
  | r :: s :: rs => simp [mt]
theorem mt_snoc_one (p : List It) (rs : List Nat) (r : Nat) : mt (p ++ [.one]) (rs ++ [r]) = mt p rs := by
  refine beq_of ?_
  rw [mtc_append]
  constructor
  · rintro ⟨k, hk, h1, h2⟩
    rw [mt_one1, decide_eq_true_eq, List.length_drop] at h2
    have e : k = rs.length := by simp at h2 hk; omega
    subst e
    simpa using h1
  · intro h
    exact ⟨rs.length, by simp, by simpa using h, by rw [mt_one1]; simp⟩
theorem mt_snoc_at (p : List It) (rs : List Nat) (n r : Nat) : mt (p ++ [.at_ n]) (rs ++ [r]) = (decide (r = n) && mt p rs) := by
  refine beq_of ?_
  rw [mtc_append, Bool.and_eq_true, decide_eq_true_eq]
  constructor
  · rintro ⟨k, hk, h1, h2⟩
    rw [mt_at1, decide_eq_true_eq] at h2
    have hl := congrArg List.length h2
    rw [List.length_drop] at hl
    have e : k = rs.length := by simp at hl hk; omega
    subst e
    rw [List.drop_left] at h2
    refine ⟨by simpa using h2, by simpa using h1⟩
  · rintro ⟨rfl, h⟩
    exact ⟨rs.length, by simp, by simpa using h, by rw [mt_at1]; simp⟩
theorem mt_nil_any (p : List It) : mt (p ++ [.any]) [] = mt p [] := by
  refine beq_of ?_
  rw [mtc_append]
  constructor
  · rintro ⟨k, _, h1, _⟩
    rw [List.take_nil] at h1
    exact h1
  · intro h
    exact ⟨0, Nat.le_refl _, h, mt_all _⟩
theorem mt_nil_one (p : List It) : mt (p ++ [.one]) [] = false := by
  cases h : mt (p ++ [.one]) [] with
  | false => rfl
  | true =>
    obtain ⟨k, _, _, h2⟩ := mtc_append.mp h
    rw [List.drop_nil] at h2
    cases h2
theorem mt_nil_at (p : List It) (n : Nat) : mt (p ++ [.at_ n]) [] = false := by
  cases h : mt (p ++ [.at_ n]) [] with
  | false => rfl
  | true =>
    obtain ⟨k, _, _, h2⟩ := mtc_append.mp h
    rw [List.drop_nil] at h2
    cases h2
theorem mt_cat {p q : List It} {rs ss : List Nat} (h1 : mt p rs = true) (h2 : mt q ss = true) : mt (p ++ q) (rs ++ ss) = true :=
  mtc_append.mpr ⟨rs.length, by simp, by simpa using h1, by simpa using h2⟩
theorem mt_wider {p q : List It} {rs : List Nat} (h : mt (p ++ q) rs = true) : mt (p ++ .any :: q) rs = true := by
  obtain ⟨k, hk, h1, h2⟩ := mtc_append.mp h
  exact mtc_append.mpr ⟨k, hk, h1, mt_anyI.mpr ⟨0, Nat.zero_le _, h2⟩⟩
/-! ways to stand, as bits -/
/-- the least set with S that goes on over what needs no router -/
structure Clo (sk : Nat → Bool) (S R : Nat) : Prop where
  sub : ∀ j, S.testBit j = true → R.testBit j = true
  cl : ∀ j, R.testBit j = true → sk j = true → R.testBit (j + 1) = true
  mn : ∀ T : Nat → Prop, (∀ j, S.testBit j = true → T j) → (∀ j, T j → sk j = true → T (j + 1)) → ∀ j, R.testBit j = true → T j
def isAny (its : List It) (j : Nat) : Bool := decide (its[j]? = some .any)
def takesIt (its : List It) (r j : Nat) : Bool := decide (its[j]? = some .one) || decide (its[j]? = some (.at_ r))
def keepIt (its : List It) (j : Nat) : Bool := decide (1 ≤ j) && isAny its (j - 1)
/-- the way to stand behind these routers -/
def Stand (its : List It) (rs : List Nat) (S : Nat) : Prop := ∀ j, S.testBit j = (decide (j ≤ its.length) && mt (its.take j) rs)
theorem take_succ {its : List It} {j : Nat} {x : It} (h : its[j]? = some x) : its.take (j + 1) = its.take j ++ [x] := by
  rw [List.take_add_one, h]
  rfl
theorem at_lt {its : List It} {j : Nat} (h : j < its.length) : ∃ x, its[j]? = some x := ⟨its[j], List.getElem?_eq_getElem h⟩
theorem stand_first {its : List It} {R : Nat} (h : Clo (isAny its) 1 R) : Stand its [] R := by
  intro j
  have one : ∀ i, Nat.testBit 1 i = decide (i = 0) := fun i => by
    have := Nat.testBit_one_eq_true_iff_self_eq_zero (i := i)
    exact beq_of (by rw [this, decide_eq_true_eq])
  refine beq_of ⟨fun hj => ?_, fun hj => ?_⟩
  · refine h.mn (fun j => (decide (j ≤ its.length) && mt (its.take j) []) = true) (fun i hi => ?_) (fun i hi hs => ?_) j hj
    · rw [one, decide_eq_true_eq] at hi
      subst hi
      simp [mt]
    · unfold isAny at hs
      have e := of_decide_eq_true hs
      have hl := (List.getElem?_eq_some_iff.mp e).1
      obtain ⟨_, h2⟩ := Bool.and_eq_true_iff.mp hi
      rw [take_succ e, mt_nil_any, h2, decide_eq_true (show i + 1 ≤ its.length by omega)]
      rfl
  · obtain ⟨h1', h2⟩ := Bool.and_eq_true_iff.mp hj
    have h1 := of_decide_eq_true h1'
    clear hj h1'
    induction j with
    | zero => exact h.sub 0 (by rw [one]; rfl)
    | succ j ih =>
      obtain ⟨x, hx⟩ := at_lt (its := its) (j := j) (by omega)
      rw [take_succ hx] at h2
      cases x with
      | any =>
        rw [mt_nil_any] at h2
        exact h.cl j (ih h2 (by omega)) (by unfold isAny; rw [hx]; rfl)
      | one => rw [mt_nil_one] at h2; cases h2
      | at_ n => rw [mt_nil_at] at h2; cases h2
theorem stand_next {its : List It} {rs : List Nat} {r S B R : Nat} (hS : Stand its rs S) (hB : ∀ j, B.testBit j = ((decide (1 ≤ j) && (S.testBit (j - 1) && takesIt its r (j - 1))) || (S.testBit j && keepIt its j))) (h : Clo (isAny its) B R) : Stand its (rs ++ [r]) R := by
  intro j
  refine beq_of ⟨fun hj => ?_, fun hj => ?_⟩
  · refine h.mn (fun j => (decide (j ≤ its.length) && mt (its.take j) (rs ++ [r])) = true) (fun i hi => ?_) (fun i hi hs => ?_) j hj
    · rw [hB, Bool.or_eq_true] at hi
      rcases hi with hi | hi
      · obtain ⟨h1, hi⟩ := Bool.and_eq_true_iff.mp hi
        obtain ⟨h2, h3⟩ := Bool.and_eq_true_iff.mp hi
        have h1 := of_decide_eq_true h1
        obtain ⟨k, rfl⟩ : ∃ k, i = k + 1 := ⟨i - 1, by omega⟩
        rw [show k + 1 - 1 = k by omega] at h2 h3
        rw [hS] at h2
        obtain ⟨_, h4⟩ := Bool.and_eq_true_iff.mp h2
        unfold takesIt at h3
        rw [Bool.or_eq_true, decide_eq_true_eq, decide_eq_true_eq] at h3
        rcases h3 with e | e
        · have hl := (List.getElem?_eq_some_iff.mp e).1
          rw [take_succ e, mt_snoc_one, h4, decide_eq_true (show k + 1 ≤ its.length by omega)]
          rfl
        · have hl := (List.getElem?_eq_some_iff.mp e).1
          rw [take_succ e, mt_snoc_at, h4, decide_eq_true (show k + 1 ≤ its.length by omega)]
          simp
      · obtain ⟨h2, h3⟩ := Bool.and_eq_true_iff.mp hi
        unfold keepIt isAny at h3
        obtain ⟨h1, h3⟩ := Bool.and_eq_true_iff.mp h3
        have h1 := of_decide_eq_true h1
        have e := of_decide_eq_true h3
        obtain ⟨k, rfl⟩ : ∃ k, i = k + 1 := ⟨i - 1, by omega⟩
        rw [show k + 1 - 1 = k by omega] at e
        have hl := (List.getElem?_eq_some_iff.mp e).1
        rw [hS] at h2
        obtain ⟨_, h4⟩ := Bool.and_eq_true_iff.mp h2
        rw [take_succ e] at h4 ⊢
        rw [mt_snoc_any, h4, decide_eq_true (show k + 1 ≤ its.length by omega)]
        rfl
    · unfold isAny at hs
      have e := of_decide_eq_true hs
      have hl := (List.getElem?_eq_some_iff.mp e).1
      obtain ⟨_, h2⟩ := Bool.and_eq_true_iff.mp hi
      rw [take_succ e, mt_snoc_any, h2, decide_eq_true (show i + 1 ≤ its.length by omega)]
      simp
  · obtain ⟨h1', h2⟩ := Bool.and_eq_true_iff.mp hj
    have h1 := of_decide_eq_true h1'
    clear hj h1'
    induction j with
    | zero =>
      exfalso
      have : mt (its.take 0) (rs ++ [r]) = (rs ++ [r]).isEmpty := rfl
      rw [this] at h2
      simp at h2
    | succ j ih =>
      obtain ⟨x, hx⟩ := at_lt (its := its) (j := j) (by omega)
      have ht := take_succ hx
      rw [ht] at h2
      have hd1 : decide (j ≤ its.length) = true := decide_eq_true (by omega)
      have hd2 : decide (j + 1 ≤ its.length) = true := decide_eq_true (by omega)
      cases x with
      | any =>
        rw [mt_snoc_any, Bool.or_eq_true] at h2
        have ha : isAny its j = true := by unfold isAny; rw [hx]; rfl
        rcases h2 with h2 | h2
        · refine h.sub (j + 1) ?_
          rw [hB, hS (j + 1), ht, h2, hd2]
          unfold keepIt
          rw [show j + 1 - 1 = j by omega, ha]
          simp
        · exact h.cl j (ih h2 (by omega)) ha
      | one =>
        rw [mt_snoc_one] at h2
        refine h.sub (j + 1) ?_
        rw [hB, show j + 1 - 1 = j by omega, hS j, h2, hd1]
        have : takesIt its r j = true := by unfold takesIt; rw [hx]; rfl
        rw [this]
        simp
      | at_ n =>
        rw [mt_snoc_at] at h2
        obtain ⟨e', h3⟩ := Bool.and_eq_true_iff.mp h2
        have e := of_decide_eq_true e'
        clear h2 e'
        subst e
        refine h.sub (j + 1) ?_
        rw [hB, show j + 1 - 1 = j by omega, hS j, h3, hd1]
        have : takesIt its r j = true := by unfold takesIt; rw [hx]; simp
        rw [this]
        simp
end Wk

set_option Elab.async false
set_option linter.all false
set_option maxRecDepth 100000
set_option maxHeartbeats 2000000
namespace Wk
open PySem PySem.Spec PyProof.Rows L2 Evl
/-! the pool: the list at p of the list at q that stays, and of four numbers; G is what stays -/
structure Pm (G H : Hp) (p q : Addr) : Prop where
  ex : Ex G H
  gp : G p = none
  gq : ∃ cs : List Int, G q = some (.lst (cs.map V.int)) ∧ cs.length ≤ 63
  at_ : ∃ (a b c d : Int), H p = some (.lst [.ref q, .int a, .int b, .int c, .int d]) ∧ 0 ≤ a ∧ 0 ≤ b ∧ 0 ≤ c ∧ 0 ≤ d
theorem Pm.np {G H : Hp} {p q a : Addr} (h : Pm G H p q) (ha : H a = none) : a ≠ p := fun z => by
  obtain ⟨a', b, c, d, h2, _⟩ := h.at_
  rw [z, h2] at ha
  cases ha
theorem Pm.ext {G H H' : Hp} {p q : Addr} (h : Pm G H p q) (e : Ex H H') : Pm G H' p q := by
  obtain ⟨a, b, c, d, h2, r⟩ := h.at_
  exact ⟨h.ex.trans e, h.gp, h.gq, a, b, c, d, e _ _ h2, r⟩
theorem Pm.new {G H : Hp} {p q a : Addr} {o : HO} (h : Pm G H p q) (ha : H a = none) : Pm (upd G a o) (upd H a o) p q := by
  obtain ⟨a', b, c, d, h2, r⟩ := h.at_
  obtain ⟨cs, h0, h1⟩ := h.gq
  have np := h.np ha
  have ga := fresh_back h.ex ha
  refine ⟨fun b u hb => ?_, by rw [upd_ne (Ne.symm np)]; exact h.gp, ⟨cs, (Ex.new ga) _ _ h0, h1⟩, a', b, c, d, by rw [upd_ne (Ne.symm np)]; exact h2, r⟩
  by_cases c : b = a
  · rw [c, upd_same] at hb ⊢
    exact hb
  · rw [upd_ne c] at hb ⊢
    exact h.ex _ _ hb
theorem Pm.mut {G H : Hp} {p q a : Addr} {o : HO} (h : Pm G H p q) (ga : G a = none) (np : a ≠ p) : Pm G (upd H a o) p q := by
  obtain ⟨a', b, c, d, h2, r⟩ := h.at_
  exact ⟨Ex.mut h.ex ga, h.gp, h.gq, a', b, c, d, by rw [upd_ne (Ne.symm np)]; exact h2, r⟩
theorem Pm.hold {G H : Hp} {p q a : Addr} {o : HO} (h : Pm G H p q) (ha : H a = some o) (np : a ≠ p) (ga : G a = none) : Pm (upd G a o) H p q := by
  obtain ⟨a', b, c, d, h2, r⟩ := h.at_
  obtain ⟨cs, h0, h1⟩ := h.gq
  refine ⟨fun b u hb => ?_, by rw [upd_ne (Ne.symm np)]; exact h.gp, ⟨cs, (Ex.new ga) _ _ h0, h1⟩, a', b, c, d, h2, r⟩
  by_cases c : b = a
  · rw [c, upd_same] at hb
    cases hb
    rw [c]
    exact ha
  · rw [upd_ne c] at hb
    exact h.ex _ _ hb
def Of1 (p : Addr) (H H' : Hp) : Prop := ∀ b o, b ≠ p → H b = some o → H' b = some o
open Classical in
noncomputable def Hd1 (H : Hp) (p : Addr) : Hp := fun b => if b = p then none else H b
theorem hd1_at {H : Hp} {p b : Addr} (hp : b ≠ p) : Hd1 H p b = H b := by
  unfold Hd1
  rw [if_neg hp]
theorem Pm.sub {G H : Hp} {p q : Addr} (h : Pm G H p q) : Ex G (Hd1 H p) := fun b o hb => by
  have hp : b ≠ p := fun z => by rw [z, h.gp] at hb; cases hb
  rw [hd1_at hp]
  exact h.ex _ _ hb
theorem Pm.hd {G H : Hp} {p q : Addr} (h : Pm G H p q) : Pm (Hd1 H p) H p q := by
  obtain ⟨cs, h0, h1⟩ := h.gq
  refine ⟨fun b o hb => ?_, by unfold Hd1; rw [if_pos rfl], ⟨cs, h.sub _ _ h0, h1⟩, h.at_⟩
  unfold Hd1 at hb
  split at hb
  · cases hb
  · exact hb
theorem Pm.off {H H' : Hp} {p q : Addr} (h : Pm (Hd1 H p) H' p q) : Of1 p H H' := fun b o hp hb => h.ex b o (by rw [hd1_at hp]; exact hb)
theorem Pm.back {G H H' : Hp} {p q : Addr} (h0 : Pm G H p q) (h : Pm (Hd1 H p) H' p q) : Pm G H' p q := ⟨h0.sub.trans h.ex, h0.gp, h0.gq, h.at_⟩
section
variable {P : Program} {w : World} {K : PySem.W.Frag} {mg : Str → Option Value} {base : Heap} {f : Addr} {fd : FuncData}
/-! _law_pool -/
def spPool (K : PySem.W.Frag) : Sp := fun vs H Q _ => ∃ (a : Addr) (ns : List Int), vs = [.ref a] ∧ SqL K H a (ns.map V.int) ∧ ns.length ≤ 63 ∧ ∀ G H' p q, Ex H G → Pm G H' p q → Q (.ref p) H'
abbrev sPool : Stmt := top 18
abbrev nPool : List Str := ["_law_script", "_law_seed", "_law_value"]
theorem scPool : FnScope nPool ["_law_script"] (defScope sPool) := ⟨rfl, rfl, rfl, by decide +kernel, rfl, by decide +kernel, by decide +kernel⟩
theorem cut_all {ns : List Int} (h : ns.length ≤ 63) : cutV (ns.map V.int) none (some 63) = ns.map V.int := by
  unfold cutV
  rw [HT.sIx_none, show ((63 : Int)) = ((63 : Nat) : Int) from rfl, HT.sIx_nat, List.length_map, Nat.min_eq_right h]
  simp
  exact List.take_of_length_le (by simp)
theorem ok_pool (B : Bl mg) (F : FnP K "_law_pool" sPool f fd) : FnOk P w K mg base CX0 1 f fd ["_law_script"] (spPool K) := by
  refine F.ok scPool (fun vs H Q E h => ?_) (fun cdv A outer s H vs Q E hr h => ?_)
  · obtain ⟨a, ns, rfl, _⟩ := h
    rfl
  · obtain ⟨a, ns, rfl, hs, hl, k⟩ := h
    refine ⟨_, pss_cons (ps_set (i := 1) scPool.nd rfl (Or.inl rfl) pe_int)
      (pss_cons (ps_for (passes_of rfl) rfl (pi_list (pe_slice sl_list (pv 0) po_none (po_some pe_int))) (pg_name (i := 2) scPool.nd rfl (Or.inl rfl))
        (pss_one (ps_set (i := 1) scPool.nd rfl (Or.inl rfl) (pe_op op_mod (pe_callTy call_int1 (by rfl) B.int PyProof.Rows.boot_int (pa_cons (pe_op op_add (pe_op op_add (pe_op op_mul (pv 1) pe_int) (pv 2)) pe_int) pa_nil)) pe_int))))
      (pss_one (ps_ret (pe_lst (pa_cons (pe_callTy (call_listK2 (K := K) rfl) (by rfl) B.list PyProof.Rows.boot_list (pa_cons (pe_slice sl_list (pv 0) po_none (po_some pe_int)) pa_nil)) (pa_cons pe_int (pa_cons pe_int (pa_cons (pv 1) (pa_cons pe_int pa_nil))))))))), ?_⟩
    refine q_c ?_
    have hsl : ∀ {H1 : Hp} {o1 o2 : Option V}, Ex H H1 → EvL (tSl (rSlL K) (tVar 0) tNoPart (tPart (tC (.int 63)))) [some (.ref a), o1, o2] H1 (ns.map V.int) := fun {H1 o1 o2} e => by
      have q := el_sl (K := K) (te := tVar 0) (σ := [some (.ref a), o1, o2]) (H := H1) (ev_var rfl) eo_none (eo_some (i := 63) ev_c) (ex_l e hs)
      rw [cut_all hl] at q
      exact q
    refine q_forNL (K := K) (hsl (H1 := H) (o1 := some (.int 43)) (o2 := none) (Ex.refl _)) (fun l i σ' H' => ∃ (s0 : Int) (o2 : Option V), σ' = [some (.ref a), some (.int s0), o2] ∧ 0 ≤ s0 ∧ Ex H H' ∧ H' l = some (.lst (ns.map V.int))) (fun l H1 hl0 e hl1 => ⟨43, none, rfl, by decide, e, hl1⟩) (fun l i σ' H' _ p => ?_) ?_ ?_
    · obtain ⟨_, _, _, _, _, h5⟩ := p
      exact sq_of h5
    · rintro l i x σ' H' hx ⟨s0, o2, rfl, h0, e, hl1⟩
      rw [List.getElem?_map] at hx
      cases hn : ns[i]? with
      | none => rw [hn] at hx; cases hx
      | some n =>
        rw [hn] at hx
        have ex : x = .int n := (Option.some.inj hx).symm
        subst ex
        refine g_name ?_
        have m := modP (s0 * 61 + n + 29) 2147483629 (by decide)
        refine ⟨.int s0, rfl, s0, 61, rfl, rfl, .inr ⟨by decide, by decide⟩, .int n, rfl, s0 * 61, n, rfl, rfl, _, 29, rfl, rfl, .inl ⟨_, rfl, _, 2147483629, rfl, rfl, (show (0 : Int) < 2147483629 by decide), ?_⟩⟩
        exact ⟨_, _, rfl, m.1, e, hl1⟩
    · rintro l σ' H' ⟨s0, o2, rfl, h0, e, hl1⟩
      refine hsl e H' (Ex.refl _) _ fun l2 H2 hl20 e2 hl2 => ?_
      refine ⟨l2, _, rfl, .inl (sq_of hl2), fun q hq => ?_⟩
      refine ⟨.int s0, rfl, by show 5 ≤ sizeLine; decide, fun p hp => ?_⟩
      have eq := Ex.new (o := .lst (ns.map V.int)) hq
      have npq : p ≠ q := fun z => by rw [z, upd_same] at hp; cases hp
      have hqq : (upd H2 q (.lst (ns.map V.int))) q = some (.lst (ns.map V.int)) := upd_same
      have e3 := (e.trans e2).trans eq
      generalize upd H2 q (.lst (ns.map V.int)) = H3 at *
      exact k H3 _ p q e3 ⟨Ex.new hp, hp, ⟨ns, hqq, hl⟩, 0, 0, s0, 0, upd_same, by decide, by decide, h0, by decide⟩
theorem log_z {z : Int} (h1 : 0 < z) (h2 : z ≤ 10 ^ 21) : z.natAbs.log2 < 9000 := by
  have hn : z.natAbs ≠ 0 := by omega
  have h3 : z.natAbs < 2 ^ 70 := by omega
  exact Nat.lt_trans ((Nat.log2_lt hn).mpr h3) (by decide)
/-! _law_draw -/
def spDraw : Sp := fun vs H Q _ => ∃ (G : Hp) (p q : Addr) (z : Int), vs = [.ref p, .int z] ∧ Pm G H p q ∧ 0 < z ∧ z ≤ 10 ^ 21 ∧ ∀ H' (i : Int), Pm G H' p q → 0 ≤ i → i < z → Q (.int i) H'
abbrev sDraw : Stmt := top 19
abbrev nDraw : List Str := ["_law_pool_here", "_law_many", "_law_value", "_law_digit", "_law_mixed"]
theorem scDraw : FnScope nDraw ["_law_pool_here", "_law_many"] (defScope sDraw) := ⟨rfl, rfl, rfl, by decide +kernel, rfl, by decide +kernel, by decide +kernel⟩
theorem ok_draw (B : Bl mg) (F : FnP K "_law_draw" sDraw f fd) : FnOk P w K mg base CX0 1 f fd ["_law_pool_here", "_law_many"] spDraw := by
  refine F.ok scDraw (fun vs H Q E h => ?_) (fun cdv A outer s H vs Q E hr h => ?_)
  · obtain ⟨G, p, q, z, rfl, _⟩ := h
    rfl
  · obtain ⟨G, p, q, z, rfl, hP, hz, hz2, k⟩ := h
    refine ⟨_, pss_cut (ps_if (PW.pt (pw_and (pt_cmpR op_eq (pe_ix ix_list (pv 0) pe_int (fun _ _ => rfl)) pe_int (nomark _)) (pw_and1 (pt_cmpR op_lt (pe_ix ix_list (pv 0) pe_int (fun _ _ => rfl)) (pe_callB call_len_seq (by rfl) B.len PySem.boot_len (pa_cons (pe_ix ix_list (pv 0) pe_int (fun _ _ => rfl)) pa_nil)) (nomark _)))))
        (pss_cons (ps_set (i := 2) scDraw.nd rfl (Or.inl rfl) (pe_ix ix_list (pe_ix ix_list (pv 0) pe_int (fun _ _ => rfl)) (pe_ix ix_list (pv 0) pe_int (fun _ _ => rfl)) (fun _ _ => rfl)))
        (pss_cons (ps_asg (pe_op op_add (pe_ix ix_list (pv 0) pe_int (fun _ _ => rfl)) pe_int) (pg_sub (pv 0) pe_int set_list))
        (pss_one (ps_if (pt_cmpR op_ge (pv 2) (pe_op op_pow pe_int pe_int) (nomark _))
          (pss_one (ps_asg (pv 2) (pg_sub (pv 0) pe_int set_list)))
          (pss_one (ps_asg (pe_op op_mod (pe_callTy call_int1 (by rfl) B.int PyProof.Rows.boot_int (pa_cons (pe_op op_add (pe_op op_add (pe_op op_mul (pe_ix ix_list (pv 0) pe_int (fun _ _ => rfl)) pe_int) (pv 2)) pe_int) pa_nil)) pe_int) (pg_sub (pv 0) pe_int set_list))))))) pss_nil)
      (pss_cons (ps_if (pt_cmpR op_gt (pe_ix ix_list (pv 0) pe_int (fun _ _ => rfl)) pe_int (nomark _))
          (pss_cons (ps_set (i := 3) scDraw.nd rfl (Or.inl rfl) (pe_op op_mod (pe_callTy call_int1 (by rfl) B.int PyProof.Rows.boot_int (pa_cons (pe_ix ix_list (pv 0) pe_int (fun _ _ => rfl)) pa_nil)) (pv 1)))
          (pss_cons (ps_asg (pe_op op_fdivW (pe_ix ix_list (pv 0) pe_int (fun _ _ => rfl)) (pv 1)) (pg_sub (pv 0) pe_int set_list))
          (pss_one (ps_ret (pv 3))))) pss_nil)
      (pss_cons (ps_asg (pe_op op_add (pe_ix ix_list (pv 0) pe_int (fun _ _ => rfl)) pe_int) (pg_sub (pv 0) pe_int set_list))
      (pss_cons (ps_set (i := 4) scDraw.nd rfl (Or.inl rfl) (pe_op op_mod (pe_callTy call_int1 (by rfl) B.int PyProof.Rows.boot_int (pa_cons (pe_op op_add (pe_op op_add (pe_op op_mul (pe_ix ix_list (pv 0) pe_int (fun _ _ => rfl)) pe_int) (pe_op op_mul (pe_ix ix_list (pv 0) pe_int (fun _ _ => rfl)) pe_int)) pe_int) pa_nil)) pe_int))
      (pss_cons (ps_set (i := 4) scDraw.nd rfl (Or.inl rfl) (pe_op op_mod (pe_callTy call_int1 (by rfl) B.int PyProof.Rows.boot_int (pa_cons (pe_op op_mul (pv 4) (pe_op op_add (pe_op op_fdiv (pv 4) pe_int) pe_int)) pa_nil)) pe_int))
      (pss_cons (ps_set (i := 4) scDraw.nd rfl (Or.inl rfl) (pe_op op_mod (pe_callTy call_int1 (by rfl) B.int PyProof.Rows.boot_int (pa_cons (pe_op op_mul (pv 4) (pe_op op_add (pe_op op_fdiv (pv 4) pe_int) pe_int)) pa_nil)) pe_int))
      (pss_one (ps_ret (pe_op op_mod (pe_callTy call_int1 (by rfl) B.int PyProof.Rows.boot_int (pa_cons (pe_op op_fdiv (pv 4) pe_int) pa_nil)) (pv 1))))))))), ?_⟩
    obtain ⟨cs, gq, hcs⟩ := hP.gq
    have at0 : ∀ {a b c d : Int}, atI [V.ref q, .int a, .int b, .int c, .int d] 0 = some (.ref q) := rfl
    refine q_cut (M := fun σ' H' => ∃ o2, σ' = [some (.ref p), some (.int z), o2, none, none] ∧ Pm G H' p q) ?_ ?_
    · obtain ⟨a, b, c, d, hp, ha, hb, hc, hd⟩ := hP.at_
      have hq := hP.ex _ _ gq
      have ix : ∀ {H1 : Hp} {σ : L2.St} {i : Int} {v : V}, Ex H H1 → Ev (tVar 0) σ H1 (.ref p) → atI [V.ref q, .int a, .int b, .int c, .int d] i = some v → Ev (tOp (rIxL K) (tVar 0) (tC (.int i))) σ H1 v := fun e h0 hi => ev_op h0 ev_c (rv_ixL (sq_of (e _ _ hp)) hi)
      refine s_when (b := decide (V.int b = V.int 0) && decide (a < (cs.length : Int))) (et_and (et_test (ev_op (ix (Ex.refl _) (ev_var rfl) rfl) ev_c (rv_eq rfl))) fun _ => et_test (by
          have z := ev_len (K := K) (ta := tOp (rIxL K) (tVar 0) (tC (.int 0))) (σ := start nDraw [.ref p, .int z]) (H := H) (ix (Ex.refl _) (ev_var rfl) rfl) (sq_of hq)
          rw [List.length_map] at z
          exact ev_op (r := rI0 fun i j => .bl (decide (i < j))) (ix (Ex.refl _) (ev_var rfl) rfl) z rv_I0)) (fun hb0 H1 e1 => ?_) (fun _ H1 e1 => ⟨none, rfl, hP.ext e1⟩)
      obtain ⟨hb1, hb2⟩ := Bool.and_eq_true_iff.mp hb0
      have hlt := of_decide_eq_true hb2
      have hP1 := hP.ext e1
      have hp1 := e1 _ _ hp
      have hq1 := e1 _ _ hq
      obtain ⟨j, rfl⟩ : ∃ j : Nat, a = (j : Int) := ⟨a.toNat, by omega⟩
      have hjl : j < cs.length := by omega
      have hcj : (cs.map V.int)[j]? = some (.int cs[j]) := by rw [List.getElem?_map, List.getElem?_eq_getElem hjl]; rfl
      generalize cs[j] = v at *
      refine ⟨.ref p, rfl, p, _, 0, .ref q, rfl, rfl, sq_of hp1, rfl, .ref p, rfl, p, _, 1, .int (j : Int), rfl, rfl, sq_of hp1, rfl, q, _, (j : Int), .int v, rfl, rfl, sq_of hq1, atI_nat hcj, ?_⟩
      refine g_name ?_
      dsimp only
      refine ⟨.ref p, rfl, p, _, 1, .int (j : Int), rfl, rfl, sq_of hp1, rfl, (j : Int), 1, rfl, rfl, .ref p, rfl, p, _, 1, 1, rfl, rfl, hp1, rfl, ?_⟩
      have hpa : (upd H1 p (.lst ([V.ref q, .int (j : Int), .int b, .int c, .int d].set 1 (.int ((j : Int) + 1))))) p = some (.lst [.ref q, .int ((j : Int) + 1), .int b, .int c, .int d]) := upd_same
      have hPa : Ex G (upd H1 p (.lst ([V.ref q, .int (j : Int), .int b, .int c, .int d].set 1 (.int ((j : Int) + 1))))) := Ex.mut hP1.ex hP.gp
      generalize upd H1 p (.lst ([V.ref q, .int (j : Int), .int b, .int c, .int d].set 1 (.int ((j : Int) + 1)))) = H2 at *
      dsimp only
      refine s_if (b := decide ((10 : Int) ^ (18 : Int).toNat ≤ v)) (et_test fun H3 e3 Q3 q3 => ⟨.int v, rfl, 10, 18, rfl, rfl, ⟨by decide, by decide, by decide⟩, v, _, rfl, rfl, q3 H3 (Ex.refl _)⟩) (fun hv H3 e3 => ?_) (fun _ H3 e3 => ?_)
      · have hv' := of_decide_eq_true hv
        refine ⟨.int v, rfl, .ref p, rfl, p, _, 2, 2, rfl, rfl, e3 _ _ hpa, rfl, ?_⟩
        refine ⟨_, rfl, Ex.mut (hPa.trans e3) hP.gp, hP.gp, hP.gq, _, _, _, _, upd_same, by omega, ?_, hc, hd⟩
        have : (0 : Int) ≤ 10 ^ (18 : Int).toNat := by decide
        omega
      · have m := modP (c * 43 + v + 5009) 2147483629 (by decide)
        refine ⟨.ref p, rfl, p, _, 3, .int c, rfl, rfl, sq_of (e3 _ _ hpa), rfl, c, 43, rfl, rfl, .inr ⟨by decide, by decide⟩, .int v, rfl, c * 43, v, rfl, rfl, _, 5009, rfl, rfl, .inl ⟨_, rfl, _, 2147483629, rfl, rfl, (show (0 : Int) < 2147483629 by decide), ?_⟩⟩
        refine ⟨.ref p, rfl, p, _, 3, 3, rfl, rfl, e3 _ _ hpa, rfl, ?_⟩
        exact ⟨_, rfl, Ex.mut (hPa.trans e3) hP.gp, hP.gp, hP.gq, _, _, _, _, upd_same, by omega, hb, m.1, hd⟩
    · rintro σ' H1 ⟨o2, rfl, hP1⟩
      obtain ⟨a, b, c, d, hp, ha, hb, hc, hd⟩ := hP1.at_
      refine q_when (b := decide (0 < b)) (et_test (ev_op (r := rI0 fun i j => .bl (decide (j < i))) (x := .int b) (y := .int 0) (z := .bl (decide (0 < b))) (ev_op (ev_var rfl) ev_c (rv_ixL (K := K) (i := 2) (sq_of hp) rfl)) ev_c rv_I0)) (fun hb0 H2 e2 => ?_) (fun hb0 H2 e2 => ?_)
      · have hp2 := e2 _ _ hp
        have m := modP b z hz
        refine ⟨.ref p, rfl, p, _, 2, .int b, rfl, rfl, sq_of hp2, rfl, .inl ⟨b, rfl, .int z, rfl, b, z, rfl, rfl, hz, ?_⟩⟩
        refine g_name ?_
        dsimp only
        refine ⟨.ref p, rfl, p, _, 2, .int b, rfl, rfl, sq_of hp2, rfl, .int z, rfl, b, z, rfl, rfl, ⟨hz, log_z hz hz2⟩, .ref p, rfl, p, _, 2, 2, rfl, rfl, hp2, rfl, ?_⟩
        refine ⟨_, rfl, k _ _ ⟨Ex.mut (hP1.ex.trans e2) hP.gp, hP.gp, hP.gq, _, _, _, _, upd_same, ha, ?_, hc, hd⟩ m.1 m.2⟩
        exact Int.ediv_nonneg hb (by omega)
      · have hp2 := e2 _ _ hp
        have hP2 := hP1.ext e2
        refine ⟨.ref p, rfl, p, _, 4, .int d, rfl, rfl, sq_of hp2, rfl, d, 1, rfl, rfl, .ref p, rfl, p, _, 4, 4, rfl, rfl, hp2, rfl, ?_⟩
        have hpa : (upd H2 p (.lst ([V.ref q, .int a, .int b, .int c, .int d].set 4 (.int (d + 1))))) p = some (.lst [.ref q, .int a, .int b, .int c, .int (d + 1)]) := upd_same
        have hPa : Ex G (upd H2 p (.lst ([V.ref q, .int a, .int b, .int c, .int d].set 4 (.int (d + 1))))) := Ex.mut hP2.ex hP.gp
        generalize upd H2 p (.lst ([V.ref q, .int a, .int b, .int c, .int d].set 4 (.int (d + 1)))) = H3 at *
        have hPm : Pm G H3 p q := ⟨hPa, hP.gp, hP.gq, _, _, _, _, hpa, ha, hb, hc, by omega⟩
        have m1 := modP (c * 48271 + (d + 1) * 110503 + 6151) 2147483647 (by decide)
        refine ⟨.ref p, rfl, p, _, 3, .int c, rfl, rfl, sq_of hpa, rfl, c, 48271, rfl, rfl, .inr ⟨by decide, by decide⟩, .ref p, rfl, p, _, 4, .int (d + 1), rfl, rfl, sq_of hpa, rfl, d + 1, 110503, rfl, rfl, .inr ⟨by decide, by decide⟩, _, _, rfl, rfl, _, 6151, rfl, rfl, .inl ⟨_, rfl, _, 2147483647, rfl, rfl, (show (0 : Int) < 2147483647 by decide), ?_⟩⟩
        change tSeq _ _ _ [some (.ref p), some (.int z), o2, none, some (.int ((c * 48271 + (d + 1) * 110503 + 6151) % 2147483647))] H3
        generalize (c * 48271 + (d + 1) * 110503 + 6151) % 2147483647 = y1 at m1 ⊢
        refine ⟨.int y1, rfl, .int y1, rfl, y1, 1031, rfl, rfl, ⟨by decide, by decide⟩, _, 40014, rfl, rfl, y1, _, rfl, rfl, .inl ⟨by omega, by omega⟩, .inl ⟨_, rfl, _, 2147483647, rfl, rfl, (show (0 : Int) < 2147483647 by decide), ?_⟩⟩
        have m2 := modP (y1 * (y1 / 1031 + 40014)) 2147483647 (by decide)
        change tSeq _ _ _ [some (.ref p), some (.int z), o2, none, some (.int ((y1 * (y1 / 1031 + 40014)) % 2147483647))] H3
        generalize (y1 * (y1 / 1031 + 40014)) % 2147483647 = y2 at m2 ⊢
        refine ⟨.int y2, rfl, .int y2, rfl, y2, 2039, rfl, rfl, ⟨by decide, by decide⟩, _, 69621, rfl, rfl, y2, _, rfl, rfl, .inl ⟨by omega, by omega⟩, .inl ⟨_, rfl, _, 2147483399, rfl, rfl, (show (0 : Int) < 2147483399 by decide), ?_⟩⟩
        have m3 := modP (((y2 * (y2 / 2039 + 69621)) % 2147483399) / 32) z hz
        exact ⟨.int ((y2 * (y2 / 2039 + 69621)) % 2147483399), rfl, _, 32, rfl, rfl, ⟨by decide, by decide⟩, .inl ⟨_, rfl, .int z, rfl, _, z, rfl, rfl, hz, k _ _ hPm m3.1 m3.2⟩⟩
end
end Wk

set_option Elab.async false
set_option linter.all false
set_option maxRecDepth 100000
set_option maxHeartbeats 2000000
namespace Wk
open PySem PySem.Spec PyProof.Rows L2 Evl
def itV : It → V
  | .any => .str "any"
  | .one => .str "one"
  | .at_ n => .int (n : Int)
def ItOk (its : List It) : Prop := ∀ n, It.at_ n ∈ its → n < 8
def rsV (rs : List Nat) : List V := rs.map fun (r : Nat) => V.int (r : Int)
def RsOk (rs : List Nat) : Prop := ∀ r ∈ rs, r < 8
theorem itOk_app {p q : List It} (h1 : ItOk p) (h2 : ItOk q) : ItOk (p ++ q) := fun n hn => (List.mem_append.mp hn).elim (h1 n) (h2 n)
theorem rsOk_app {p q : List Nat} (h1 : RsOk p) (h2 : RsOk q) : RsOk (p ++ q) := fun n hn => (List.mem_append.mp hn).elim (h1 n) (h2 n)
theorem rsV_app (p q : List Nat) : rsV (p ++ q) = rsV p ++ rsV q := List.map_append
theorem rsV_len (rs : List Nat) : (rsV rs).length = rs.length := List.length_map _
theorem ret_S {te : TE} {D : Ends} {σ : L2.St} {H : Hp} {xs : List V} (h : EvS te σ H xs) (k : ∀ p H1, Ex H H1 → H1 p = some (.tup xs) → D.rt (.ref p) H1) : tRet te D σ H := h H (Ex.refl H) _ fun p H1 e hp => k p H1 e hp
theorem keepM {G H : Hp} {p q t : Addr} {xs : List V} (hP : Pm G H p q) (ht : H t = some (.tup xs)) : ∃ G', Ex G G' ∧ Pm G' H p q ∧ G' t = some (.tup xs) := by
  obtain ⟨a, b, c, d, h1, _⟩ := hP.at_
  have np : t ≠ p := fun z => by rw [z, h1] at ht; cases ht
  cases hg : G t with
  | some o =>
    have e := hP.ex _ _ hg
    rw [ht] at e
    cases e
    exact ⟨G, Ex.refl _, hP, hg⟩
  | none => exact ⟨upd G t (.tup xs), Ex.new hg, hP.hold ht np hg, upd_same⟩
theorem itV_any (x : It) : decide (itV x = V.str "any") = decide (x = .any) := by
  cases x with
  | any => rfl
  | one => decide +kernel
  | at_ n => rfl
theorem itV_one (x : It) : decide (itV x = V.str "one") = decide (x = .one) := by
  cases x with
  | any => decide +kernel
  | one => rfl
  | at_ n => rfl
theorem scal_it (x : It) (z : Str) : scal (itV x) (.str z) = true := by cases x <;> rfl
theorem cut_fromG (xs : List V) (i : Nat) : cutV xs (some (i : Int)) none = xs.drop i := by
  by_cases h : i ≤ xs.length
  · exact cut_from xs i h
  · unfold cutV
    rw [HT.sIx_nat, HT.sIx_none, Nat.min_eq_right (by omega)]
    rw [List.drop_of_length_le (Nat.le_refl _), List.drop_of_length_le (by omega), List.take_nil]
theorem rsV_take (rs : List Nat) (i : Nat) : (rsV rs).take i = rsV (rs.take i) := by unfold rsV; rw [List.map_take]
theorem rsV_drop (rs : List Nat) (i : Nat) : (rsV rs).drop i = rsV (rs.drop i) := by unfold rsV; rw [List.map_drop]
theorem rsOk_take {rs : List Nat} (h : RsOk rs) (i : Nat) : RsOk (rs.take i) := fun r hr => h r (List.mem_of_mem_take hr)
theorem rsOk_drop {rs : List Nat} (h : RsOk rs) (i : Nat) : RsOk (rs.drop i) := fun r hr => h r (List.mem_of_mem_drop hr)
theorem k_bb : kitB "bool" "bool" = some true := by decide +kernel
theorem tc1' {te : TE} {σ : L2.St} {H : Hp} {R : List V → Hp → Prop} (h : te σ H fun x H1 => R [x] H1) : tCons te tNil σ H R := h
end Wk

set_option Elab.async false
set_option linter.all false
set_option maxRecDepth 100000
set_option maxHeartbeats 2000000
namespace Wk
open PySem PySem.Spec PyProof.Rows L2 Evl
/-! rules: x[i] of a list by itself, |= -/
theorem pget_list {X : Cx} : PGet X (rIxL X.K) := by
  intro pins s σ H o i ov iv Q I ro ri h
  obtain ⟨p, xs, k, z, rfl, rfl, hq, he, q⟩ := h
  cases ro
  obtain ⟨t, rfl⟩ := ri
  obtain ⟨its, r, pl, hz⟩ := I.list hq
  obtain ⟨j, h1, h2, h3, h4, h5⟩ := atI_get he
  obtain ⟨w, ew, rw'⟩ := r.get h2
  have hl := r.length
  have hn := line63
  have fin : EP X pins σ Q w s := ⟨z, H, I, rw', q⟩
  by_cases h0 : 0 ≤ k
  · have hj : k.toNat = j := by
      rw [seqIndex_of h0 h5] at h1
      exact Option.some.inj h1
    exact wpAny_getItem_list pl.isList h0 (by omega) (by rw [hj]; simpa using ew) fin
  · have hj : (k + (its.toArray.size : Int)).toNat = j := by
      rw [seqIndex_neg (by omega) h4] at h1
      rw [List.size_toArray, ← hl]
      exact Option.some.inj h1
    exact wpAny_getItem_list_neg pl.isList (by omega) (by rw [List.size_toArray] <;> omega) (by omega) (by rw [hj]; simpa using ew) fin
theorem ip_or {X : Cx} : PIp X .BitOr (ipI Builtin.bitOr) := by
  intro pins s σ H x y v u Q I r1 r2 h
  obtain ⟨i, j, e1, e2, q⟩ := h
  subst e1; subst e2
  obtain ⟨t, rfl⟩ := r1
  obtain ⟨t', rfl⟩ := r2
  exact ior_int ⟨.int _, H, I.tok _, ⟨_, rfl⟩, q⟩
theorem in_or {X : Cx} : InOp X .BitOr (ipI Builtin.bitOr) := by
  intro pins s σ H x y v u Q I r1 r2 h
  obtain ⟨i, j, e1, e2, q⟩ := h
  subst e1; subst e2
  obtain ⟨t, rfl⟩ := r1
  obtain ⟨t', rfl⟩ := r2
  exact ior_int ⟨.int _, H, I.tok _, ⟨_, rfl⟩, q⟩
theorem or_nn (a b : Nat) : Builtin.bitOr (a : Int) (b : Int) = ((a ||| b : Nat) : Int) := by
  have z := bitOr_nn (x := (a : Int)) (y := (b : Int)) (by omega) (by omega)
  rw [Int.toNat_natCast, Int.toNat_natCast] at z
  exact z
theorem and_nn (a b : Nat) : Builtin.bitAnd (a : Int) (b : Int) = ((a &&& b : Nat) : Int) := by
  show (match decide (0 ≤ (a : Int)), decide (0 ≤ (b : Int)) with
  | true, true => (((a : Int).toNat &&& (b : Int).toNat : Nat) : Int)
  | true, false => (a : Int) - (((a : Int).toNat &&& (Builtin.bitNot (b : Int)).toNat : Nat) : Int)
  | false, true => (b : Int) - (((b : Int).toNat &&& (Builtin.bitNot (a : Int)).toNat : Nat) : Int)
  | false, false => Builtin.bitNot (((Builtin.bitNot (a : Int)).toNat ||| (Builtin.bitNot (b : Int)).toNat : Nat) : Int)) = _
  rw [decide_eq_true (show 0 ≤ (a : Int) by omega), decide_eq_true (show 0 ≤ (b : Int) by omega)]
  show (((a : Int).toNat &&& (b : Int).toNat : Nat) : Int) = _
  rw [Int.toNat_natCast, Int.toNat_natCast]
theorem shl_nn (a : Nat) : (a : Int) * 2 ^ (1 : Int).toNat = ((a * 2 : Nat) : Int) := by
  show (a : Int) * 2 ^ 1 = _
  omega
theorem tb_mul2 (a j : Nat) : (a * 2).testBit j = (decide (1 ≤ j) && a.testBit (j - 1)) := by
  have z := Nat.testBit_mul_two_pow a j 1
  rw [Nat.pow_one] at z
  exact z
theorem len_putF (f : Str) (v : V) : ∀ fs : List (Str × V), (putF f v fs).length ≤ fs.length + 1
  | [] => by simp [putF]
  | (g, x) :: r => by
    unfold putF
    split
    · simp
    · have := len_putF f v r
      simp
      omega
/-! what items are -/
def itD : It → PyData
  | .any => .str "any"
  | .one => .str "one"
  | .at_ n => .int (n : Int)
theorem dq_it (G : Hp) (x : It) : Dq G (itV x) (itD x) := by
  cases x with
  | any => exact .str _
  | one => exact .str _
  | at_ n => exact .int _
theorem dq_its (G : Hp) : ∀ its : List It, DqA G (its.map itV) (its.map itD)
  | [] => .nil
  | x :: its => .cons (dq_it G x) (dq_its G its)
theorem dq_rs (G : Hp) : ∀ rs : List Nat, DqA G (rsV rs) (rs.map fun (r : Nat) => PyData.int (r : Int))
  | [] => .nil
  | r :: rs => .cons (.int _) (dq_rs G rs)
def isS : It → Bool
  | .at_ _ => false
  | _ => true
theorem kit_s (x : It) : kitB (tyN (itD x)) "str" = some (isS x) := by
  cases x with
  | any => exact show kitB "str" "str" = some true by decide +kernel
  | one => exact show kitB "str" "str" = some true by decide +kernel
  | at_ n => exact show kitB "int" "str" = some false by decide +kernel
end Wk

set_option Elab.async false
set_option linter.all false
set_option maxRecDepth 100000
set_option maxHeartbeats 2000000
namespace Wk
open PySem PySem.Spec PyProof.Rows L2 Evl
abbrev FnM (K : PySem.W.Frag) (x q : Str) (st : Stmt) (f : Addr) (fd : FuncData) : Prop := FunD K x q (defArgs st) (defBody st) (defScope st) [] [] f fd
/-- what the text tells of the class at CS -/
structure SX (K : PySem.W.Frag) (CS : Addr) : Prop where
  cl : Cls K CS
  nT : NoAttr K CS "takes"
  nS : NoAttr K CS "skips"
  nK : NoAttr K CS "keeps"
  nG : NoAttr K CS "goals"
  nF : NoAttr K CS "first"
/-- the fields of a sieve -/
structure Fl (fs : List (Str × V)) (ta ga : Addr) (sk kp : Nat) : Prop where
  tk : fs.lookup ("takes" : Str) = some (.ref ta)
  sk : fs.lookup ("skips" : Str) = some (.int (sk : Int))
  kp : fs.lookup ("keeps" : Str) = some (.int (kp : Int))
  gl : fs.lookup ("goals" : Str) = some (.ref ga)
  n1 : fs.lookup ("_put_in" : Str) = none
  n2 : fs.lookup ("_skipped" : Str) = none
  n3 : fs.lookup ("read" : Str) = none
  n4 : fs.lookup ("read_all" : Str) = none
  n5 : fs.lookup ("fitting" : Str) = none
  few : fs.length ≤ 50
/-- the same of a sieve that is read only -/
structure Fl0 (fs : List (Str × V)) (ta ga : Addr) (sk kp : Nat) : Prop where
  tk : fs.lookup ("takes" : Str) = some (.ref ta)
  sk : fs.lookup ("skips" : Str) = some (.int (sk : Int))
  kp : fs.lookup ("keeps" : Str) = some (.int (kp : Int))
  gl : fs.lookup ("goals" : Str) = some (.ref ga)
  n2 : fs.lookup ("_skipped" : Str) = none
  n3 : fs.lookup ("read" : Str) = none
  n4 : fs.lookup ("read_all" : Str) = none
  n5 : fs.lookup ("fitting" : Str) = none
structure Sv0 (CS : Addr) (H : Hp) (p ta ga : Addr) (ts : List Nat) (sk kp : Nat) (gs : List Nat) : Prop where
  ob : ∃ dx fs, H p = some (.ins CS dx fs) ∧ Fl0 fs ta ga sk kp
  tk : H ta = some (.lst (rsV ts))
  gl : H ga = some (.lst (rsV gs))
theorem lk_putF {f g : Str} {v : V} {fs : List (Str × V)} (h : ¬ g = f) : (putF f v fs).lookup g = fs.lookup g := by rw [lookup_putF, if_neg h]
theorem lk_putS {f : Str} {v : V} {fs : List (Str × V)} : (putF f v fs).lookup f = some v := by rw [lookup_putF, if_pos rfl]
structure Sv (CS : Addr) (H : Hp) (p ta ga : Addr) (ts : List Nat) (sk kp : Nat) (gs : List Nat) : Prop where
  ob : ∃ dx fs, H p = some (.ins CS dx fs) ∧ Fl fs ta ga sk kp
  tk : H ta = some (.lst (rsV ts))
  gl : H ga = some (.lst (rsV gs))
  ne : ta ≠ ga
def nx (sk c : Nat) : Nat := c ||| (c &&& sk) * 2
theorem nx_bit (sk c j : Nat) : (nx sk c).testBit j = (c.testBit j || (decide (1 ≤ j) && (c.testBit (j - 1) && sk.testBit (j - 1)))) := by
  unfold nx
  rw [Nat.testBit_or, tb_mul2, Nat.testBit_and]
theorem nx_lt {sk c : Nat} (h1 : c < 1024) (h2 : sk < 512) : nx sk c < 1024 := by
  have a : (c &&& sk) ≤ sk := Nat.and_le_right
  exact Nat.or_lt_two_pow (n := 10) h1 (by omega)
theorem nx_le (sk c : Nat) : c ≤ nx sk c := Nat.left_le_or
section
variable {P : Program} {w : World} {K : PySem.W.Frag} {mg : Str → Option Value} {base : Heap} {f : Addr} {fd : FuncData} {CS : Addr}
/-! _skipped -/
def spSkip (CS : Addr) : Sp := fun vs H Q _ => ∃ (p dx : Addr) (fs : List (Str × V)) (sk S : Nat), vs = [.ref p, .int (S : Int)] ∧ H p = some (.ins CS dx fs) ∧ fs.lookup ("skips" : Str) = some (.int (sk : Int)) ∧ S < 1024 ∧ sk < 512 ∧
  ∀ H' (R : Nat), Ex H H' → R < 1024 → Clo (fun j => sk.testBit j) S R → Q (.int (R : Int)) H'
abbrev nSkip : List Str := ["self", "stand", "more"]
abbrev sSkip : Stmt := inClass (top 12) 2
theorem scSkip : FnScope nSkip ["self", "stand"] (defScope sSkip) := ⟨rfl, rfl, rfl, by decide +kernel, rfl, by decide +kernel, by decide +kernel⟩
theorem ok_skip (X : SX K CS) (F : FnM K "_skipped" "Sieve._skipped" sSkip f fd) : FnOk P w K mg base CX0 1 f fd ["self", "stand"] (spSkip CS) := by
  refine F.ok scSkip (fun vs H Q E h => ?_) (fun cdv A outer s H vs Q E hr h => ?_)
  · obtain ⟨p, dx, fs, sk, S, rfl, _⟩ := h
    rfl
  · obtain ⟨p, dx, fs, sk, S, rfl, hp, hsk, hS, hs2, k⟩ := h
    refine ⟨_, pss_cons (ps_set (i := 2) scSkip.nd rfl (Or.inl rfl) (pe_op op_or (pv 1) (pe_op op_shl (pe_op op_and (pv 1) (pe_fld (pv 0) rfl)) pe_int)))
      (pss_cons (ps_while (passes_of rfl) (pt_cmpR op_ne (pv 2) (pv 1) (nomark _))
        (pss_cons (ps_set (i := 1) scSkip.nd rfl (Or.inl rfl) (pv 2))
        (pss_one (ps_set (i := 2) scSkip.nd rfl (Or.inl rfl) (pe_op op_or (pv 1) (pe_op op_shl (pe_op op_and (pv 1) (pe_fld (pv 0) rfl)) pe_int))))))
      (pss_one (ps_ret (pv 1)))), ?_⟩
    have step : ∀ {H1 : Hp} {c : Nat} {o : Option V}, Ex H H1 → c < 1024 → Ev (tOp (rI0 fun i j => .int (Builtin.bitOr i j)) (tVar 1) (tOp (rI CPow fun i j => .int (i * 2 ^ j.toNat)) (tOp (rI0 fun i j => .int (Builtin.bitAnd i j)) (tVar 1) (tFld K (tVar 0) "skips")) (tC (.int 1)))) [some (.ref p), some (.int (c : Int)), o] H1 (.int (nx sk c : Nat)) := fun {H1 c o} e hc => by
      have a : (c &&& sk) ≤ sk := Nat.and_le_right
      have fS : Ev (tFld K (tVar 0) "skips") [some (.ref p), some (.int (c : Int)), o] H1 (.int (sk : Int)) := fun H2 e2 Q2 q => ⟨.ref p, rfl, p, CS, dx, _, _, rfl, (e.trans e2) _ _ hp, X.cl, X.nS, hsk, q H2 (Ex.refl H2)⟩
      have z1 := ev_op (r := rI0 fun i j => .int (Builtin.bitAnd i j)) (ta := tVar 1) (x := .int (c : Int)) (y := .int (sk : Int)) (ev_var rfl) fS rv_I0
      rw [and_nn] at z1
      have z2 := ev_op (r := rI CPow fun i j => .int (i * 2 ^ j.toNat)) (y := .int 1) z1 ev_c (rv_I ⟨by decide, by decide, by rw [Int.natAbs_natCast]; exact Nat.lt_of_le_of_lt a (Nat.lt_trans hs2 (by decide))⟩)
      rw [shl_nn] at z2
      have z3 := ev_op (r := rI0 fun i j => .int (Builtin.bitOr i j)) (ta := tVar 1) (x := .int (c : Int)) (ev_var rfl) z2 rv_I0
      rw [or_nn] at z3
      exact z3
    refine q_asg (step (o := none) (Ex.refl H) hS) fun H1 e1 => ?_
    change tSeq _ _ _ [some (.ref p), some (.int (S : Int)), some (.int ((nx sk S : Nat) : Int))] H1
    refine q_while (fun m σ' H' => ∃ c : Nat, σ' = [some (.ref p), some (.int (c : Int)), some (.int ((nx sk c : Nat) : Int))] ∧ m = 1024 - c ∧ Ex H H' ∧ c < 1024 ∧ (∀ j, S.testBit j = true → c.testBit j = true) ∧
      (∀ T : Nat → Prop, (∀ j, S.testBit j = true → T j) → (∀ j, T j → sk.testBit j = true → T (j + 1)) → ∀ j, c.testBit j = true → T j)) (1024 - S) ⟨S, rfl, rfl, e1, hS, fun _ h => h, fun T h1 _ => h1⟩ ?_
    rintro m σ' H2 ⟨c, rfl, rfl, e2, hc, hsub, hmn⟩
    refine ⟨!decide (V.int ((nx sk c : Nat) : Int) = V.int (c : Int)), et_test (ev_op (ev_var rfl) (ev_var rfl) (rv_ne rfl)), fun hb H3 e3 => ?_, fun hb H3 e3 => ?_⟩
    · have hne : nx sk c ≠ c := fun z => by rw [z] at hb; simp at hb
      have hle := nx_le sk c
      have hlt := nx_lt hc hs2
      refine ⟨fun σ2 H2' => ∃ m', m' < 1024 - c ∧ ∃ c : Nat, σ2 = [some (.ref p), some (.int (c : Int)), some (.int ((nx sk c : Nat) : Int))] ∧ m' = 1024 - c ∧ Ex H H2' ∧ c < 1024 ∧ (∀ j, S.testBit j = true → c.testBit j = true) ∧
        (∀ T : Nat → Prop, (∀ j, S.testBit j = true → T j) → (∀ j, T j → sk.testBit j = true → T (j + 1)) → ∀ j, c.testBit j = true → T j), fun σ2 H2' h => h, ?_⟩
      refine q_asg (v := .int ((nx sk c : Nat) : Int)) (ev_var rfl) fun H4 e4 => ?_
      have e24 := (e2.trans e3).trans e4
      refine s_asg (step (c := nx sk c) (o := some (.int ((nx sk c : Nat) : Int))) e24 hlt) fun H5 e5 => ?_
      refine ⟨1024 - nx sk c, by omega, nx sk c, rfl, rfl, e24.trans e5, hlt, fun j hj => by rw [nx_bit, hsub j hj]; rfl, fun T h1 h2 j hj => ?_⟩
      rw [nx_bit, Bool.or_eq_true] at hj
      rcases hj with hj | hj
      · exact hmn T h1 h2 j hj
      · obtain ⟨a1, hj⟩ := Bool.and_eq_true_iff.mp hj
        obtain ⟨a2, a3⟩ := Bool.and_eq_true_iff.mp hj
        have a1 := of_decide_eq_true a1
        have z := h2 (j - 1) (hmn T h1 h2 (j - 1) a2) a3
        rw [show j - 1 + 1 = j by omega] at z
        exact z
    · have heq : nx sk c = c := by
        have z : V.int ((nx sk c : Nat) : Int) = V.int (c : Int) := by simpa using hb
        injection z with z
        omega
      refine ⟨.int (c : Int), rfl, k H3 c (e2.trans e3) hc ⟨hsub, fun j hj hs => ?_, hmn⟩⟩
      have z := nx_bit sk c (j + 1)
      have hs' : sk.testBit j = true := hs
      rw [heq, show j + 1 - 1 = j by omega, hj, hs'] at z
      rw [z]
      simp
/-! read -/
def spRead (CS : Addr) : Sp := fun vs H Q _ => ∃ (p ta ga : Addr) (ts : List Nat) (sk kp S r : Nat) (gs : List Nat), vs = [.ref p, .int (S : Int), .int (r : Int)] ∧ Sv0 CS H p ta ga ts sk kp gs ∧ r < ts.length ∧ S < 1024 ∧ ts.getD r 0 < 512 ∧ kp < 1024 ∧ sk < 512 ∧
  ∀ H' (R : Nat), Ex H H' → R < 1024 → Clo (fun j => sk.testBit j) ((S &&& ts.getD r 0) * 2 ||| (S &&& kp)) R → Q (.int (R : Int)) H'
abbrev nRead : List Str := ["self", "stand", "router"]
abbrev sRead : Stmt := inClass (top 12) 3
theorem scRead : FnScope nRead nRead (defScope sRead) := ⟨rfl, rfl, rfl, by decide +kernel, rfl, by decide +kernel, by decide +kernel⟩
structure Msk (P : Program) (w : World) (K : PySem.W.Frag) (mg : Str → Option Value) (base : Heap) (CS : Addr) (m : Str) (ps : List Str) (n : Nat) (sp : Sp) : Prop where
  ex : ∃ (fM : Addr) (fd : FuncData), Meth K CS m fM ∧ FnOk P w K mg base CX0 n fM fd ps sp ∧ Binds K fd ps []
theorem ok_read (X : SX K CS) (M : Msk P w K mg base CS "_skipped" ["self", "stand"] 1 (spSkip CS)) (F : FnM K "read" "Sieve.read" sRead f fd) : FnOk P w K mg base CX0 2 f fd nRead (spRead CS) := by
  obtain ⟨fM, fdM, me, FM, bM⟩ := M.ex
  refine F.ok scRead (fun vs H Q E h => ?_) (fun cdv A outer s H vs Q E hr h => ?_)
  · obtain ⟨p, ta, ga, ts, sk, kp, S, r, gs, rfl, _⟩ := h
    rfl
  · obtain ⟨p, ta, ga, ts, sk, kp, S, r, gs, rfl, hv, hrl, hS, ht, hk, hs, k⟩ := h
    obtain ⟨dx, fs, hp, fl⟩ := hv.ob
    refine ⟨_, pss_one (ps_ret (pe_meth (pv 0) X.cl me FM hr bM .nil pass0 (pa_cons (pe_op op_or (pe_op op_shl (pe_op op_and (pv 1) (pe_ix ix_list (pe_fld (pv 0) rfl) (pv 2) (fun _ _ => rfl))) pe_int) (pe_op op_and (pv 1) (pe_fld (pv 0) rfl))) pa_nil))), ?_⟩
    have a : (S &&& ts.getD r 0) ≤ ts.getD r 0 := Nat.and_le_right
    have b : (S &&& kp) ≤ kp := Nat.and_le_right
    have hg : ts[r]? = some (ts.getD r 0) := by rw [List.getD_eq_getElem?_getD, List.getElem?_eq_getElem hrl]; rfl
    have v1 : ∀ {H1 : Hp}, Ev (tVar 1) (start nRead [.ref p, .int (S : Int), .int (r : Int)]) H1 (.int (S : Int)) := ev_var rfl
    have fT : Ev (tFld K (tVar 0) "takes") (start nRead [.ref p, .int (S : Int), .int (r : Int)]) H (.ref ta) := fun H2 e2 Q2 q => ⟨.ref p, rfl, p, CS, dx, _, _, rfl, e2 _ _ hp, X.cl, X.nT, fl.tk, q H2 (Ex.refl H2)⟩
    have fK : Ev (tFld K (tVar 0) "keeps") (start nRead [.ref p, .int (S : Int), .int (r : Int)]) H (.int (kp : Int)) := fun H2 e2 Q2 q => ⟨.ref p, rfl, p, CS, dx, _, _, rfl, e2 _ _ hp, X.cl, X.nK, fl.kp, q H2 (Ex.refl H2)⟩
    have z0 := ev_op (r := rIxL K) (tb := tVar 2) (y := .int (r : Int)) (z := .int ((ts.getD r 0 : Nat) : Int)) fT (ev_var rfl) (rv_ixL (sq_of hv.tk) (atI_nat (by unfold rsV; rw [List.getElem?_map, hg]; rfl)))
    have z1 := ev_op (r := rI0 fun i j => .int (Builtin.bitAnd i j)) v1 z0 rv_I0
    rw [and_nn] at z1
    have z2 := ev_op (r := rI CPow fun i j => .int (i * 2 ^ j.toNat)) (y := .int 1) z1 ev_c (rv_I ⟨by decide, by decide, by rw [Int.natAbs_natCast]; exact Nat.lt_of_le_of_lt a (Nat.lt_trans ht (by decide))⟩)
    rw [shl_nn] at z2
    have z3 := ev_op (r := rI0 fun i j => .int (Builtin.bitAnd i j)) v1 fK rv_I0
    rw [and_nn] at z3
    have z4 := ev_op (r := rI0 fun i j => .int (Builtin.bitOr i j)) z2 z3 rv_I0
    rw [or_nn] at z4
    refine ⟨.ref p, rfl, p, dx, fs, rfl, hp, fl.n2, z4 H (Ex.refl H) _ fun H1 e1 => ?_⟩
    exact ⟨p, dx, fs, sk, _, rfl, e1 _ _ hp, fl.sk, Nat.or_lt_two_pow (n := 10) (by omega) (by omega), hs, fun H2 R e2 hR hC => k H2 R (e1.trans e2) hR hC⟩
end
end Wk

set_option Elab.async false
set_option linter.all false
set_option maxRecDepth 100000
set_option maxHeartbeats 4000000
namespace Wk
open PySem PySem.Spec PyProof.Rows L2 Evl
theorem ps_never {X : Cx} {st : Stmt} : PS X st (fun _ _ _ => False) := ⟨fun _ _ _ _ _ _ h => h.elim⟩
theorem len_putM {f : Str} {v : V} : ∀ {fs : List (Str × V)} {x : V}, fs.lookup f = some x → (putF f v fs).length = fs.length
  | [], _, h => by cases h
  | (g, y) :: r, x, h => by
    unfold putF
    split
    · rfl
    · rename_i hg
      have h2 : r.lookup f = some x := by
        rw [List.lookup_cons] at h
        have : (f == g) = false := by simpa using fun z => hg z.symm
        rw [this] at h
        exact h
      show (putF f v r).length + 1 = r.length + 1
      rw [len_putM h2]
def skU (x : It) (b sk : Nat) : Nat := if x = .any then sk ||| b else sk
def kpU (x : It) (b kp : Nat) : Nat := if x = .any then kp ||| b * 2 else kp
def hitB (x : It) (r : Nat) : Bool := decide (x = .one) || decide (x = .at_ r)
theorem Sv.p1 {CS : Addr} {H : Hp} {p ta ga : Addr} {ts : List Nat} {sk kp : Nat} {gs : List Nat} (h : Sv CS H p ta ga ts sk kp gs) : ta ≠ p ∧ ga ≠ p := by
  obtain ⟨dx, fs, hp, _⟩ := h.ob
  refine ⟨fun z => ?_, fun z => ?_⟩
  · have := h.tk
    rw [z, hp] at this
    cases this
  · have := h.gl
    rw [z, hp] at this
    cases this
theorem Sv.up {CS : Addr} {H H' : Hp} {p ta ga : Addr} {ts : List Nat} {sk kp : Nat} {gs : List Nat} (h : Sv CS H p ta ga ts sk kp gs) (e : Ex H H') : Sv CS H' p ta ga ts sk kp gs := by
  obtain ⟨dx, fs, hp, fl⟩ := h.ob
  exact ⟨⟨dx, fs, e _ _ hp, fl⟩, e _ _ h.tk, e _ _ h.gl, h.ne⟩
theorem Sv.sk {CS : Addr} {H : Hp} {p ta ga : Addr} {ts : List Nat} {sk kp : Nat} {gs : List Nat} (h : Sv CS H p ta ga ts sk kp gs) {dx : Addr} {fs : List (Str × V)} (hp : H p = some (.ins CS dx fs)) (fl : Fl fs ta ga sk kp) (n : Nat) :
    Sv CS (upd H p (.ins CS dx (putF "skips" (.int (n : Int)) fs))) p ta ga ts n kp gs := by
  obtain ⟨a, b⟩ := h.p1
  refine ⟨⟨dx, _, upd_same, ?_⟩, by rw [upd_ne a]; exact h.tk, by rw [upd_ne b]; exact h.gl, h.ne⟩
  exact ⟨by rw [lk_putF (by decide +kernel)]; exact fl.tk, lk_putS, by rw [lk_putF (by decide +kernel)]; exact fl.kp, by rw [lk_putF (by decide +kernel)]; exact fl.gl, by rw [lk_putF (by decide +kernel)]; exact fl.n1, by rw [lk_putF (by decide +kernel)]; exact fl.n2, by rw [lk_putF (by decide +kernel)]; exact fl.n3, by rw [lk_putF (by decide +kernel)]; exact fl.n4, by rw [lk_putF (by decide +kernel)]; exact fl.n5, by rw [len_putM fl.sk]; exact fl.few⟩
theorem Sv.kp {CS : Addr} {H : Hp} {p ta ga : Addr} {ts : List Nat} {sk kp : Nat} {gs : List Nat} (h : Sv CS H p ta ga ts sk kp gs) {dx : Addr} {fs : List (Str × V)} (hp : H p = some (.ins CS dx fs)) (fl : Fl fs ta ga sk kp) (n : Nat) :
    Sv CS (upd H p (.ins CS dx (putF "keeps" (.int (n : Int)) fs))) p ta ga ts sk n gs := by
  obtain ⟨a, b⟩ := h.p1
  refine ⟨⟨dx, _, upd_same, ?_⟩, by rw [upd_ne a]; exact h.tk, by rw [upd_ne b]; exact h.gl, h.ne⟩
  exact ⟨by rw [lk_putF (by decide +kernel)]; exact fl.tk, by rw [lk_putF (by decide +kernel)]; exact fl.sk, lk_putS, by rw [lk_putF (by decide +kernel)]; exact fl.gl, by rw [lk_putF (by decide +kernel)]; exact fl.n1, by rw [lk_putF (by decide +kernel)]; exact fl.n2, by rw [lk_putF (by decide +kernel)]; exact fl.n3, by rw [lk_putF (by decide +kernel)]; exact fl.n4, by rw [lk_putF (by decide +kernel)]; exact fl.n5, by rw [len_putM fl.kp]; exact fl.few⟩
theorem Sv.st {CS : Addr} {H : Hp} {p ta ga : Addr} {ts : List Nat} {sk kp : Nat} {gs : List Nat} (h : Sv CS H p ta ga ts sk kp gs) (ts' : List Nat) : Sv CS (upd H ta (.lst (rsV ts'))) p ta ga ts' sk kp gs := by
  obtain ⟨a, b⟩ := h.p1
  obtain ⟨dx, fs, hp, fl⟩ := h.ob
  exact ⟨⟨dx, fs, by rw [upd_ne (Ne.symm a)]; exact hp, fl⟩, upd_same, by rw [upd_ne (Ne.symm h.ne)]; exact h.gl, h.ne⟩
theorem Sv.sg {CS : Addr} {H : Hp} {p ta ga : Addr} {ts : List Nat} {sk kp : Nat} {gs : List Nat} (h : Sv CS H p ta ga ts sk kp gs) (gs' : List Nat) : Sv CS (upd H ga (.lst (rsV gs'))) p ta ga ts sk kp gs' := by
  obtain ⟨a, b⟩ := h.p1
  obtain ⟨dx, fs, hp, fl⟩ := h.ob
  exact ⟨⟨dx, fs, by rw [upd_ne (Ne.symm b)]; exact hp, fl⟩, by rw [upd_ne h.ne]; exact h.tk, upd_same, h.ne⟩
theorem Sv0.up {CS : Addr} {H H' : Hp} {p ta ga : Addr} {ts : List Nat} {sk kp : Nat} {gs : List Nat} (h : Sv0 CS H p ta ga ts sk kp gs) (e : Ex H H') : Sv0 CS H' p ta ga ts sk kp gs := by
  obtain ⟨dx, fs, hp, fl⟩ := h.ob
  exact ⟨⟨dx, fs, e _ _ hp, fl⟩, e _ _ h.tk, e _ _ h.gl⟩
theorem itV_at (x : It) (r : Nat) : decide (itV x = V.int (r : Int)) = decide (x = .at_ r) := by
  cases x with
  | any => rfl
  | one => rfl
  | at_ n =>
    rw [decide_eq_decide]
    constructor
    · intro h
      have h' : V.int (n : Int) = V.int (r : Int) := h
      injection h' with h'
      rw [show n = r by omega]
    · intro h
      injection h with h
      rw [h]
      rfl
theorem scal_ir (x : It) (r : Int) : scal (itV x) (.int r) = true := by cases x <;> rfl
section
variable {P : Program} {w : World} {K : PySem.W.Frag} {mg : Str → Option Value} {base : Heap} {f : Addr} {fd : FuncData} {CS : Addr}
/-! _put_in -/
def spPut (CS : Addr) : Sp := fun vs H Q _ => ∃ (G : Hp) (p ta ga : Addr) (ts : List Nat) (sk kp b : Nat) (gs : List Nat) (x : It), vs = [.ref p, .int (b : Int), itV x] ∧ Ex G H ∧ G p = none ∧ G ta = none ∧ Sv CS H p ta ga ts sk kp gs ∧ ts.length = 8 ∧ b < 2 ^ 63 ∧
  ∀ H' ts', Ex G H' → Sv CS H' p ta ga ts' (skU x b sk) (kpU x b kp) gs → ts'.length = 8 → (∀ r, r < 8 → ts'.getD r 0 = if hitB x r = true then ts.getD r 0 ||| b else ts.getD r 0) → Q .non H'
abbrev nPut : List Str := ["self", "bit", "item", "router"]
abbrev sPut : Stmt := inClass (top 12) 1
theorem scPut : FnScope nPut ["self", "bit", "item"] (defScope sPut) := ⟨rfl, rfl, rfl, by decide +kernel, rfl, by decide +kernel, by decide +kernel⟩
theorem ok_put (X : SX K CS) (B : Bl mg) {t8 : Tok} (m8 : mg "MOST_ROUTERS" = some (.int 8 t8)) (F : FnM K "_put_in" "Sieve._put_in" sPut f fd) : FnOk P w K mg base CX0 1 f fd ["self", "bit", "item"] (spPut CS) := by
  refine F.ok scPut (fun vs H Q E h => ?_) (fun cdv A outer s H vs Q E hr h => ?_)
  · obtain ⟨G, p, ta, ga, ts, sk, kp, b, gs, x, rfl, _⟩ := h
    rfl
  · obtain ⟨G, p, ta, ga, ts, sk, kp, b, gs, x, rfl, eG, gp, gt, hv, ht8, hb, k⟩ := h
    refine ⟨_, pss_cut (ps_if (pt_cmpR op_eq (pv 2) pe_str (nomark _))
        (pss_cons (ps_fldaug (pv 0) (pv 1) in_or) (pss_one (ps_fldaug (pv 0) (pe_op op_shl (pv 1) pe_int) in_or))) pss_nil)
      (pss_one (ps_for (passes_of rfl) rfl (pi_range1 (by rfl) B.range (pa_cons (pe_glob (v := .int 8) (by rfl) m8 ⟨_, rfl⟩) pa_nil)) (pg_name (i := 3) scPut.nd rfl (Or.inl rfl))
        (pss_one (ps_if (PW.pt (pw_or (pt_cmpR op_eq (pv 2) pe_str (nomark _)) (pw_or1 (pt_cmpR op_eq (pv 2) (pv 3) (nomark _)))))
          (pss_one (ps_augS (pe_fld (pv 0) rfl) (pv 3) pget_list (pv 1) ip_or set_list)) pss_nil)))), ?_⟩
    refine q_cut (M := fun σ' H' => σ' = [some (.ref p), some (.int (b : Int)), some (itV x), none] ∧ Ex G H' ∧ Sv CS H' p ta ga ts (skU x b sk) (kpU x b kp) gs) ?_ ?_
    · refine s_when (b := decide (x = .any)) (by
        rw [← itV_any]
        exact et_test (ev_op (r := rEq) (x := itV x) (y := .str "any") (ev_var rfl) ev_c (rv_eq (scal_it _ _)))) (fun hx H1 e1 => ?_) (fun hx H1 e1 => ?_)
      · have hx := of_decide_eq_true hx
        have hv1 := hv.up e1
        obtain ⟨dx, fs, hp, fl⟩ := hv1.ob
        refine ⟨.ref p, rfl, p, CS, dx, fs, _, rfl, hp, X.cl, X.nS, fl.sk, .int (b : Int), rfl, (sk : Int), (b : Int), rfl, rfl, dx, fs, hp, Nat.lt_of_le_of_lt fl.few (by decide), ?_⟩
        rw [or_nn]
        have hv2 := hv1.sk hp fl (sk ||| b)
        have eG2 : Ex G (upd H1 p (.ins CS dx (putF "skips" (.int ((sk ||| b : Nat) : Int)) fs))) := Ex.mut (eG.trans e1) gp
        generalize upd H1 p (.ins CS dx (putF "skips" (.int ((sk ||| b : Nat) : Int)) fs)) = H2 at *
        obtain ⟨dx2, fs2, hp2, fl2⟩ := hv2.ob
        refine ⟨.ref p, rfl, p, CS, dx2, fs2, _, rfl, hp2, X.cl, X.nK, fl2.kp, .int (b : Int), rfl, (b : Int), 1, rfl, rfl, ⟨by decide, by decide, by rw [Int.natAbs_natCast]; exact Nat.lt_trans hb (by decide)⟩, (kp : Int), _, rfl, rfl, dx2, fs2, hp2, Nat.lt_of_le_of_lt fl2.few (by decide), ?_⟩
        rw [shl_nn, or_nn]
        have hv3 := hv2.kp hp2 fl2 (kp ||| b * 2)
        refine ⟨rfl, Ex.mut eG2 gp, ?_⟩
        unfold skU kpU
        rw [if_pos hx, if_pos hx]
        exact hv3
      · have hx : x ≠ .any := by simpa using hx
        refine ⟨rfl, eG.trans e1, ?_⟩
        unfold skU kpU
        rw [if_neg hx, if_neg hx]
        exact hv.up e1
    · rintro σ' H1 ⟨rfl, eG1, hv1⟩
      refine s_forR1 (ea_cons ev_c ea_nil) (n := 8) (by omega) (fun i σ' H' => ∃ (ts' : List Nat) (o3 : Option V), σ' = [some (.ref p), some (.int (b : Int)), some (itV x), o3] ∧ Ex G H' ∧ Sv CS H' p ta ga ts' (skU x b sk) (kpU x b kp) gs ∧ ts'.length = 8 ∧ ∀ r, r < 8 → ts'.getD r 0 = if (decide (r < i) && hitB x r) = true then ts.getD r 0 ||| b else ts.getD r 0)
        (fun H2 e2 => ⟨ts, none, rfl, eG1.trans e2, hv1.up e2, ht8, fun r hr => by simp⟩) ?_ ?_
      · rintro i σ' H2 hi ⟨ts', o3, rfl, eG2, hv2, hl2, hts⟩
        have hi8 : i < 8 := by omega
        change tIfS _ _ _ _ [some (.ref p), some (.int (b : Int)), some (itV x), some (.int (i : Int))] H2
        refine s_when (b := hitB x i) (by
          unfold hitB
          rw [← itV_one, ← itV_at]
          exact et_or (et_test (ev_op (r := rEq) (x := itV x) (y := .str "one") (ev_var rfl) ev_c (rv_eq (scal_it _ _)))) fun _ => et_test (ev_op (r := rEq) (x := itV x) (y := .int (i : Int)) (ev_var rfl) (ev_var rfl) (rv_eq (scal_ir _ _)))) (fun hx H3 e3 => ?_) (fun hx H3 e3 => ?_)
        · have hv3 := hv2.up e3
          obtain ⟨dx, fs, hp, fl⟩ := hv3.ob
          have hg : ts'[i]? = some (ts'.getD i 0) := by rw [List.getD_eq_getElem?_getD, List.getElem?_eq_getElem (by omega)]; rfl
          refine ⟨.ref p, rfl, p, CS, dx, fs, _, rfl, hp, X.cl, X.nT, fl.tk, .int (i : Int), rfl, ta, _, (i : Int), .int ((ts'.getD i 0 : Nat) : Int), rfl, rfl, sq_of hv3.tk, atI_nat (by unfold rsV; rw [List.getElem?_map, hg]; rfl), .int (b : Int), rfl, _, _, rfl, rfl, ta, _, (i : Int), i, rfl, rfl, hv3.tk, ixN_nat (by rw [rsV_len]; omega), ?_⟩
          rw [or_nn]
          have es : (rsV ts').set i (.int ((ts'.getD i 0 ||| b : Nat) : Int)) = rsV (ts'.set i (ts'.getD i 0 ||| b)) := by unfold rsV; rw [List.map_set]
          rw [es]
          refine ⟨ts'.set i (ts'.getD i 0 ||| b), _, rfl, Ex.mut (eG2.trans e3) gt, hv3.st _, by rw [List.length_set]; exact hl2, fun r hr => ?_⟩
          rw [List.getD_eq_getElem?_getD]
          by_cases c : i = r
          · subst c
            rw [List.getElem?_set_self (by omega)]
            have z := hts i hr
            rw [show (decide (i < i)) = false by simp, Bool.false_and] at z
            rw [show (decide (i < i + 1)) = true by simp, hx]
            show ts'.getD i 0 ||| b = _
            rw [z]
            rfl
          · rw [List.getElem?_set_ne c, ← List.getD_eq_getElem?_getD, hts r hr]
            have : decide (r < i + 1) = decide (r < i) := by
              rw [decide_eq_decide]
              omega
            rw [this]
        · refine ⟨ts', _, rfl, eG2.trans e3, hv2.up e3, hl2, fun r hr => ?_⟩
          rw [hts r hr]
          by_cases c : r = i
          · subst c
            rw [hx, Bool.and_false, Bool.and_false]
          · have : decide (r < i + 1) = decide (r < i) := by
              rw [decide_eq_decide]
              omega
            rw [this]
      · rintro σ' H2 ⟨ts', o3, rfl, eG2, hv2, hl2, hts⟩
        refine k H2 ts' eG2 hv2 hl2 fun r hr => ?_
        rw [hts r hr, show (8 : Int).toNat = 8 from rfl, decide_eq_true hr, Bool.true_and]
/-- a whole sieve of one pattern -/
structure SvF (CS : Addr) (its : List It) (H : Hp) (p : Addr) : Prop where
  ex : ∃ (ta ga dx : Addr) (ts : List Nat) (sk kp ft : Nat) (fs : List (Str × V)), H p = some (.ins CS dx fs) ∧ Fl0 fs ta ga sk kp ∧ fs.lookup ("first" : Str) = some (.int (ft : Int)) ∧ Sv0 CS H p ta ga ts sk kp [2 ^ its.length] ∧ ts.length = 8 ∧
    (∀ r, r < 8 → ts.getD r 0 < 512 ∧ ∀ j, (ts.getD r 0).testBit j = takesIt its r j) ∧ sk < 512 ∧ (∀ j, sk.testBit j = isAny its j) ∧ kp < 1024 ∧ (∀ j, kp.testBit j = keepIt its j) ∧ ft < 1024 ∧ Stand its [] ft
theorem SvF.up {its : List It} {H H' : Hp} {p : Addr} (h : SvF CS its H p) (e : Ex H H') : SvF CS its H' p := by
  obtain ⟨ta, ga, dx, ts, sk, kp, ft, fs, h1, h2, h3, h4, h5⟩ := h.ex
  exact ⟨ta, ga, dx, ts, sk, kp, ft, fs, e _ _ h1, h2, h3, h4.up e, h5⟩
/-! read_all -/
def spRAll (CS : Addr) : Sp := fun vs H Q _ => ∃ (p u : Addr) (its : List It) (rs : List Nat), vs = [.ref p, .ref u] ∧ SvF CS its H p ∧ H u = some (.tup (rsV rs)) ∧ RsOk rs ∧ ∀ H' (S : Nat), Ex H H' → S < 1024 → Stand its rs S → Q (.int (S : Int)) H'
abbrev nRAll : List Str := ["self", "routers", "stand", "router"]
abbrev sRAll : Stmt := inClass (top 12) 4
theorem scRAll : FnScope nRAll ["self", "routers"] (defScope sRAll) := ⟨rfl, rfl, rfl, by decide +kernel, rfl, by decide +kernel, by decide +kernel⟩
theorem ok_rall (X : SX K CS) (M : Msk P w K mg base CS "read" nRead 2 (spRead CS)) (F : FnM K "read_all" "Sieve.read_all" sRAll f fd) : FnOk P w K mg base CX0 3 f fd ["self", "routers"] (spRAll CS) := by
  obtain ⟨fM, fdM, me, FM, bM⟩ := M.ex
  refine F.ok scRAll (fun vs H Q E h => ?_) (fun cdv A outer s H vs Q E hr h => ?_)
  · obtain ⟨p, u, its, rs, rfl, _⟩ := h
    rfl
  · obtain ⟨p, u, its, rs, rfl, hs, hu, hok, k⟩ := h
    obtain ⟨ta, ga, dx, ts, sk, kp, ft, fs, hp, fl, hf, hv, ht8, htk, hsk, hsb, hkp, hkb, hft, hst⟩ := hs.ex
    refine ⟨_, pss_cons (ps_set (i := 2) scRAll.nd rfl (Or.inl rfl) (pe_fld (pv 0) rfl))
      (pss_cons (ps_for (passes_of rfl) rfl (pi_tup (pv 1)) (pg_name (i := 3) scRAll.nd rfl (Or.inl rfl))
        (pss_one (ps_set (i := 2) scRAll.nd rfl (Or.inl rfl) (pe_meth (pv 0) X.cl me FM hr bM .nil pass0 (pa_cons (pv 2) (pa_cons (pv 3) pa_nil))))))
      (pss_one (ps_ret (pv 2)))), ?_⟩
    refine q_asg (v := .int (ft : Int)) (fun H2 e2 Q2 q => ⟨.ref p, rfl, p, CS, dx, _, _, rfl, e2 _ _ hp, X.cl, X.nF, hf, q H2 (Ex.refl H2)⟩) fun H1 e1 => ?_
    have rl := rsV_len rs
    refine ⟨.ref u, rfl, u, rfl, ⟨_, st_of (e1 _ _ hu)⟩, for_tup (xs := rsV rs) (fun i σ' H' => ∃ (S : Nat) (o3 : Option V), σ' = [some (.ref p), some (.ref u), some (.int (S : Int)), o3] ∧ Ex H H' ∧ S < 1024 ∧ Stand its (rs.take i) S)
      ⟨ft, none, rfl, e1, hft, hst⟩ (fun i σ' H' _ h => ?_) ?_ ?_⟩
    · obtain ⟨_, _, _, h1, _⟩ := h
      exact st_of (h1 _ _ hu)
    · rintro i x σ' H2 hx ⟨S, o3, rfl, e2, hS, hSt⟩
      unfold rsV at hx
      rw [List.getElem?_map] at hx
      cases hi : rs[i]? with
      | none => rw [hi] at hx; cases hx
      | some r =>
        rw [hi] at hx
        have ex := (Option.some.inj hx).symm
        subst ex
        have hr8 := hok r (List.mem_of_getElem? hi)
        refine g_name ?_
        refine ⟨.ref p, rfl, p, dx, fs, rfl, e2 _ _ hp, fl.n3, .int (S : Int), rfl, .int (r : Int), rfl, ?_⟩
        refine ⟨p, ta, ga, ts, sk, kp, S, r, [2 ^ its.length], rfl, hv.up e2, by omega, hS, (htk r hr8).1, hkp, hsk, fun H3 R e3 hR hC => ?_⟩
        refine g_name ?_
        refine ⟨R, _, rfl, e2.trans e3, hR, ?_⟩
        rw [show rs.take (i + 1) = rs.take i ++ [r] by rw [List.take_add_one, hi]; rfl]
        refine stand_next hSt (fun j => ?_) (by rw [show isAny its = fun j => sk.testBit j from funext fun j => (hsb j).symm]; exact hC)
        rw [Nat.testBit_or, tb_mul2, Nat.testBit_and, Nat.testBit_and, (htk r hr8).2, hkb]
    · rintro σ' H2 ⟨S, o3, rfl, e2, hS, hSt⟩
      rw [rl, List.take_length] at hSt
      exact ⟨.int (S : Int), rfl, k H2 S e2 hS hSt⟩
end
end Wk

set_option Elab.async false
set_option linter.all false
set_option maxRecDepth 100000
set_option maxHeartbeats 4000000
namespace Wk
open PySem PySem.Spec PyProof.Rows L2 Evl
theorem g_two {i j : Nat} {x y : V} {σ : L2.St} {H : Hp} {k : L2.St → Hp → Prop} (h : k ((σ.set i (some x)).set j (some y)) H) : gCons (gName i) (gCons (gName j) gNil) [x, y] σ H k := ⟨_, _, rfl, ⟨_, _, rfl, ⟨rfl, h⟩⟩⟩
section
variable {K : PySem.W.Frag} {σ : L2.St} {H : Hp} {te tl : TE} {t : TT} {g : TG} {tu tz : TS} {D : Ends}
/-- [e for i, x in enumerate(l) if t] -/
theorem el_lcEnL {a : Addr} {xs : List V} {i j : Nat} {vs : List Nat} (f : Nat → Bool) (v : Nat → V) (h : Ev tl σ H (.ref a)) (hx : SqL K H a xs) (hz : xs.length ≤ 40000) (hw : ∀ x y, wipe (((wipe σ vs).set i (some x)).set j (some y)) vs = wipe σ vs)
    (ht : ∀ (k : Nat) (x : V) H1, Ex H H1 → xs[k]? = some x → EvT t (((wipe σ vs).set i (some (.int (k : Nat)))).set j (some x)) H1 (f k))
    (he : ∀ (k : Nat) (x : V) H1, Ex H H1 → xs[k]? = some x → f k = true → Ev te (((wipe σ vs).set i (some (.int (k : Nat)))).set j (some x)) H1 (v k)) :
    EvL (tLc (iEnum K (tCons tl tNil)) (gTup K 2 (gCons (gName i) (gCons (gName j) gNil))) t te vs) σ H (given xs.length f v) := fun H0 e Q q => h H0 e _ fun H1 e1 => ⟨a, xs, rfl, ex_l (e.trans e1) hx, fun Dl hD =>
  lc_it (walk_enum (K := K) (a := a) (xs := xs)) (Cw H1 f v Dl) ⟨hD, Ex.new hD, upd_same⟩ (fun i H' _ p => ex_l ((e.trans e1).trans p.2.1) hx)
    (fun k z H' H2 hk p y => by
      obtain ⟨T, u, y, rfl, hT, rfl, hu, hy⟩ := y
      cases hu
      have eT : Ex H' (upd H' T (.tup [.int (k : Nat), y])) := Ex.new hT
      refine ⟨T, _, rfl, st_of upd_same, rfl, g_two ⟨hw _ _, ?_⟩⟩
      exact cw_turn ⟨p.1, p.2.1.trans eT, eT _ _ p.2.2⟩ (by omega) (ht k y H1 (e.trans e1) hy) (fun hf => he k y H1 (e.trans e1) hy hf))
    (fun H' p => q Dl H' (fresh_back e1 p.1) (e1.trans p.2.1) p.2.2)⟩
/-- for i, x in enumerate(l) -/
theorem q_forEnL {a : Addr} {xs : List V} (h : Ev tl σ H (.ref a)) (hx : SqL K H a xs) (Pv : Nat → L2.St → Hp → Prop) (h0 : ∀ H1, Ex H H1 → Pv 0 σ H1) (hl : ∀ i σ' H', i ≤ xs.length → Pv i σ' H' → SqL K H' a xs)
    (hs : ∀ i y T σ' H', xs[i]? = some y → Pv i σ' H' → H' T = none → g (.ref T) σ' (upd H' T (.tup [.int (i : Nat), y])) fun σ2 H2 => tu { D with nx := Pv (i + 1), ct := Pv (i + 1), bk := tz D } σ2 H2) (hd : ∀ σ' H', Pv xs.length σ' H' → tz D σ' H') : tSeq (tFor (iEnum K (tCons tl tNil)) g tu) tz D σ H :=
  h H (Ex.refl H) _ fun H1 e => ⟨a, xs, rfl, ex_l e hx, for_it (walk_enum (K := K) (a := a) (xs := xs)) Pv (h0 H1 e) hl (fun i x σ' H2 H3 hi p y => by
    obtain ⟨T, u, y, rfl, hT, rfl, hu, hy⟩ := y
    cases hu
    exact hs i y T σ' H2 hy p hT) hd⟩
end
/-- what the first items make of the sieve -/
structure Bt (its : List It) (ts : List Nat) (sk kp : Nat) : Prop where
  l8 : ts.length = 8
  tk : ∀ r, r < 8 → ts.getD r 0 < 256 ∧ ∀ j, (ts.getD r 0).testBit j = takesIt its r j
  s2 : sk < 256
  sb : ∀ j, sk.testBit j = isAny its j
  k2 : kp < 512
  kb : ∀ j, kp.testBit j = keepIt its j
theorem takes_nil (r j : Nat) : takesIt [] r j = false := rfl
theorem any_nil (j : Nat) : isAny [] j = false := rfl
theorem keep_nil (j : Nat) : keepIt [] j = false := by
  unfold keepIt
  rw [any_nil, Bool.and_false]
theorem bt_nil : Bt [] (List.replicate 8 0) 0 0 := by
  refine ⟨rfl, fun r hr => ?_, by decide, fun j => by rw [Nat.zero_testBit]; rfl, by decide, fun j => by rw [Nat.zero_testBit, keep_nil]⟩
  have e : (List.replicate 8 0).getD r 0 = 0 := by
    rw [List.getD_eq_getElem?_getD, List.getElem?_replicate]
    split <;> rfl
  rw [e]
  exact ⟨by decide, fun j => by rw [Nat.zero_testBit]; rfl⟩
theorem any_step {its : List It} {k : Nat} {x : It} (h : its[k]? = some x) (j : Nat) : isAny (its.take (k + 1)) j = (isAny (its.take k) j || (decide (k = j) && decide (x = .any))) := by
  unfold isAny
  rw [List.getElem?_take, List.getElem?_take]
  by_cases c : j < k
  · rw [if_pos (by omega), if_pos c, decide_eq_false (show ¬ k = j by omega), Bool.false_and, Bool.or_false]
  · by_cases d : j = k
    · subst d
      rw [if_pos (by omega), if_neg c, h]
      simp
    · rw [if_neg (by omega), if_neg c, decide_eq_false (show ¬ k = j by omega)]
      simp
theorem takes_step {its : List It} {k : Nat} {x : It} (h : its[k]? = some x) (r j : Nat) : takesIt (its.take (k + 1)) r j = (takesIt (its.take k) r j || (decide (k = j) && hitB x r)) := by
  unfold takesIt hitB
  rw [List.getElem?_take, List.getElem?_take]
  by_cases c : j < k
  · rw [if_pos (by omega), if_pos c, decide_eq_false (show ¬ k = j by omega), Bool.false_and, Bool.or_false]
  · by_cases d : j = k
    · subst d
      rw [if_pos (by omega), if_neg c, h]
      simp
    · rw [if_neg (by omega), if_neg c, decide_eq_false (show ¬ k = j by omega)]
      simp
theorem bt_step {its : List It} {k : Nat} {x : It} {ts ts' : List Nat} {sk kp : Nat} (h : its[k]? = some x) (hk : k < 8) (b : Bt (its.take k) ts sk kp) (hl : ts'.length = 8) (ht : ∀ r, r < 8 → ts'.getD r 0 = if hitB x r = true then ts.getD r 0 ||| 2 ^ k else ts.getD r 0) :
    Bt (its.take (k + 1)) ts' (skU x (2 ^ k) sk) (kpU x (2 ^ k) kp) := by
  have p8 : 2 ^ k < 2 ^ 8 := Nat.pow_lt_pow_right (by decide) hk
  refine ⟨hl, fun r hr => ?_, ?_, fun j => ?_, ?_, fun j => ?_⟩
  · obtain ⟨h1, h2⟩ := b.tk r hr
    rw [ht r hr]
    cases hh : hitB x r with
    | true =>
      rw [if_pos rfl]
      refine ⟨Nat.or_lt_two_pow (n := 8) h1 p8, fun j => ?_⟩
      rw [Nat.testBit_or, h2, Nat.testBit_two_pow, takes_step h, hh, Bool.and_true]
    | false =>
      rw [if_neg (by decide)]
      refine ⟨h1, fun j => ?_⟩
      rw [h2, takes_step h, hh, Bool.and_false, Bool.or_false]
  · unfold skU
    split
    · exact Nat.or_lt_two_pow (n := 8) b.s2 p8
    · exact b.s2
  · unfold skU
    rw [any_step h]
    by_cases c : x = .any
    · rw [if_pos c, Nat.testBit_or, b.sb, Nat.testBit_two_pow, decide_eq_true c, Bool.and_true]
    · rw [if_neg c, b.sb, decide_eq_false c, Bool.and_false, Bool.or_false]
  · unfold kpU
    split
    · exact Nat.or_lt_two_pow (n := 9) b.k2 (by omega)
    · exact b.k2
  · unfold kpU keepIt
    rw [any_step h]
    by_cases c : x = .any
    · rw [if_pos c, Nat.testBit_or, b.kb, tb_mul2, Nat.testBit_two_pow, decide_eq_true c, Bool.and_true]
      unfold keepIt
      cases decide (1 ≤ j) <;> simp
    · rw [if_neg c, b.kb, decide_eq_false c, Bool.and_false, Bool.or_false]
      rfl
section
variable {P : Program} {w : World} {K : PySem.W.Frag} {mg : Str → Option Value} {base : Heap} {f : Addr} {fd : FuncData} {CS : Addr}
/-! fitting -/
def spFitting (CS : Addr) : Sp := fun vs H Q _ => ∃ (p : Addr) (its : List It) (S : Nat), vs = [.ref p, .int (S : Int)] ∧ SvF CS its H p ∧ ∀ H' l, Ex H H' → H' l = some (.lst (if S.testBit its.length = true then [.int 0] else [])) → Q (.ref l) H'
abbrev nFitting : List Str := ["self", "stand", "index", "goal"]
abbrev sFitting : Stmt := inClass (top 12) 5
theorem scFitting : FnScope nFitting ["self", "stand"] (defScope sFitting) := ⟨rfl, rfl, rfl, by decide +kernel, rfl, by decide +kernel, by decide +kernel⟩
theorem and_bit (S n : Nat) : (S &&& 2 ^ n ≠ 0) ↔ S.testBit n = true := by
  constructor
  · intro h
    cases hb : S.testBit n with
    | true => rfl
    | false =>
      refine absurd (Nat.eq_of_testBit_eq fun j => ?_) h
      rw [Nat.testBit_and, Nat.testBit_two_pow, Nat.zero_testBit]
      by_cases c : n = j
      · subst c
        rw [hb, Bool.false_and]
      · rw [decide_eq_false c, Bool.and_false]
  · intro h z
    have := congrArg (fun a => Nat.testBit a n) z
    simp only [Nat.testBit_and, Nat.testBit_two_pow, Nat.zero_testBit] at this
    rw [h] at this
    simp at this
theorem ok_fitting (X : SX K CS) (B : Bl mg) (F : FnM K "fitting" "Sieve.fitting" sFitting f fd) : FnOk P w K mg base CX0 1 f fd ["self", "stand"] (spFitting CS) := by
  refine F.ok scFitting (fun vs H Q E h => ?_) (fun cdv A outer s H vs Q E hr h => ?_)
  · obtain ⟨p, its, S, rfl, _⟩ := h
    rfl
  · obtain ⟨p, its, S, rfl, hs, k⟩ := h
    obtain ⟨ta, ga, dx, ts, sk, kp, ft, fs, hp, fl, hf, hv, _⟩ := hs.ex
    refine ⟨_, pss_one (ps_ret (pe_lc (own := [("index", 2), ("goal", 3)]) (g := gTup K 2 (gCons (gName 2) (gCons (gName 3) gNil))) (tt := tTest (tOp rNe (tOp (rI0 fun i j => .int (Builtin.bitAnd i j)) (tVar 1) (tVar 3)) (tC (.int 0)))) (te := tVar 2) rfl scFitting.nd (pi_enum (by rfl) B.enum (pa_cons (pe_fld (pv 0) rfl) pa_nil)) (blkOk_by (N := nFitting) (sc := defScope sFitting) (by decide +kernel))
      (fun _ _ _ _ _ => pg_tup rfl (pgs_cons (pg_name (i := 2) scFitting.nd rfl (Or.inl rfl)) (pgs_cons (pg_name (i := 3) scFitting.nd rfl (Or.inl rfl)) pgs_nil)))
      (fun _ _ _ _ _ => pts_one (pt_cmpR op_ne (pe_op op_and (pv 1) (pv 3)) pe_int (nomark _))) (fun _ _ _ _ _ => pv 2))), ?_⟩
    have fG : Ev (tFld K (tVar 0) "goals") (start nFitting [.ref p, .int (S : Int)]) H (.ref ga) := fun H2 e2 Q2 q => ⟨.ref p, rfl, p, CS, dx, _, _, rfl, e2 _ _ hp, X.cl, X.nG, fl.gl, q H2 (Ex.refl H2)⟩
    have z := el_lcEnL (K := K) (i := 2) (j := 3) (vs := [2, 3]) (t := tTest (tOp rNe (tOp (rI0 fun i j => .int (Builtin.bitAnd i j)) (tVar 1) (tVar 3)) (tC (.int 0)))) (te := tVar 2) (fun _ => S.testBit its.length) (fun k => .int (k : Nat)) fG (sq_of hv.gl) (by rw [rsV_len]; show 1 ≤ 40000; decide) (fun x y => rfl)
      (fun i x H1 e1 hx => by
        have hi : i = 0 := by
          have := (List.getElem?_eq_some_iff.mp hx).1
          rw [rsV_len] at this
          simpa using this
        subst hi
        have ex : x = .int ((2 ^ its.length : Nat) : Int) := (Option.some.inj hx).symm
        subst ex
        have z1 := ev_op (H := H1) (σ := ((wipe (start nFitting [.ref p, .int (S : Int)]) [2, 3]).set 2 (some (.int ((0 : Nat) : Int)))).set 3 (some (.int ((2 ^ its.length : Nat) : Int)))) (r := rI0 fun i j => .int (Builtin.bitAnd i j)) (ta := tVar 1) (tb := tVar 3) (x := .int (S : Int)) (y := .int ((2 ^ its.length : Nat) : Int)) (ev_var rfl) (ev_var rfl) rv_I0
        rw [and_nn] at z1
        refine et_test (ev_is (ev_op (r := rNe) (y := .int 0) z1 ev_c (rv_ne rfl)) ?_)
        congr 1
        refine beq_of ?_
        rw [← and_bit, Bool.not_eq_true', decide_eq_false_iff_not]
        constructor
        · intro h z
          exact h (by rw [z]; rfl)
        · intro h z
          injection z with z
          omega)
      (fun i x H1 e1 hx _ => ev_var rfl)
    refine z H (Ex.refl H) _ fun l H1 hl0 e1 hl => k H1 l e1 ?_
    rw [hl, rsV_len]
    show some (HO.lst (given 1 _ _)) = _
    cases hb : S.testBit its.length with
    | true => rw [if_pos rfl]; simp [given, hb]
    | false => rw [if_neg (by decide)]; simp [given, hb]
end
end Wk

set_option Elab.async false
set_option linter.all false
set_option maxRecDepth 100000
set_option maxHeartbeats 4000000
namespace Wk
open PySem PySem.Spec PyProof.Rows L2 Evl
section
variable {P : Program} {w : World} {K : PySem.W.Frag} {mg : Str → Option Value} {base : Heap} {f : Addr} {fd : FuncData} {CS : Addr}
/-! Sieve.__init__ -/
def spInit (CS : Addr) : Sp := fun vs H Q _ => ∃ (G : Hp) (p l t dx : Addr) (its : List It), vs = [.ref p, .ref l] ∧ H p = some (.ins CS dx []) ∧ Ex G H ∧ G p = none ∧ G l = some (.lst [.ref t]) ∧ G t = some (.tup (its.map itV)) ∧ ItOk its ∧ its.length ≤ 8 ∧
  ∀ H', Ex G H' → SvF CS its H' p → Q .non H'
abbrev nInit : List Str := ["self", "patterns", "index", "pattern", "place", "item"]
abbrev sInit : Stmt := inClass (top 12) 0
theorem scInit : FnScope nInit ["self", "patterns"] (defScope sInit) := ⟨rfl, rfl, rfl, by decide +kernel, rfl, by decide +kernel, by decide +kernel⟩
theorem pow_nn (i : Nat) : (1 : Int) * 2 ^ ((9 * 0 + (i : Int))).toNat = ((2 ^ i : Nat) : Int) := by
  have e : (9 * 0 + (i : Int)).toNat = i := by omega
  rw [e, Int.one_mul]
  exact PySem.W.kbt_cast i
/-- e.f = v, where the object is new -/
theorem q_fld {ta tv : TE} {f' : Str} {tz : TS} {D : Ends} {σ : L2.St} {H : Hp} {p dx : Addr} {fs : List (Str × V)} {v : V} (c : Cls K CS) (n : NoAttr K CS f') (hv : Ev tv σ H v) (ha : ∀ H1, Ex H H1 → Ev ta σ H1 (.ref p)) (hp : H p = some (.ins CS dx fs)) (hl : fs.length < 1000)
    (k : ∀ H1, Ex H H1 → tz D σ (upd H1 p (.ins CS dx (putF f' v fs)))) : tSeq (sFld K ta tv f') tz D σ H := hv H (Ex.refl H) _ fun H1 e1 => ha H1 e1 H1 (Ex.refl H1) _ fun H2 e2 => ⟨p, CS, dx, fs, rfl, (e1.trans e2) _ _ hp, c, n, hl, k H2 (e1.trans e2)⟩
theorem ok_init (X : SX K CS) (B : Bl mg) (hsum : mg "sum" = none) {t8 t9 : Tok} (m8 : mg "MOST_ROUTERS" = some (.int 8 t8)) (m9 : mg "SPAN" = some (.int 9 t9)) (M1 : Msk P w K mg base CS "_put_in" ["self", "bit", "item"] 1 (spPut CS)) (M2 : Msk P w K mg base CS "_skipped" ["self", "stand"] 1 (spSkip CS))
    (F : FnM K "__init__" "Sieve.__init__" sInit f fd) : FnOk P w K mg base CX0 2 f fd ["self", "patterns"] (spInit CS) := by
  obtain ⟨f1, fd1, me1, F1, b1⟩ := M1.ex
  obtain ⟨f2, fd2, me2, F2, b2⟩ := M2.ex
  refine F.ok scInit (fun vs H Q E h => ?_) (fun cdv A outer s H vs Q E hr h => ?_)
  · obtain ⟨G, p, l, t, dx, its, rfl, _⟩ := h
    rfl
  · obtain ⟨G, p, l, t, dx, its, rfl, hp, eG, gp, gl, gt, hok, hl8, k⟩ := h
    refine ⟨_, pss_cons (ps_fld (pv 0) (pe_op op_rep (pe_lst (pa_cons pe_int pa_nil)) (pe_glob (v := .int 8) (by rfl) m8 ⟨_, rfl⟩)) rfl)
      (pss_cons (ps_fld (pv 0) pe_int rfl)
      (pss_cons (ps_fld (pv 0) pe_int rfl)
      (pss_cons (ps_fld (pv 0) (pe_lst pa_nil) rfl)
      (pss_cons (ps_for (passes_of rfl) rfl (pi_enum (by rfl) B.enum (pa_cons (pv 1) pa_nil)) (pg_tup rfl (pgs_cons (pg_name (i := 2) scInit.nd rfl (.inl rfl)) (pgs_cons (pg_name (i := 3) scInit.nd rfl (.inl rfl)) pgs_nil)))
        (pss_cons (ps_for (passes_of rfl) rfl (pi_enumT (by rfl) B.enum (pa_cons (pv 3) pa_nil)) (pg_tup rfl (pgs_cons (pg_name (i := 4) scInit.nd rfl (.inl rfl)) (pgs_cons (pg_name (i := 5) scInit.nd rfl (.inl rfl)) pgs_nil)))
          (pss_one (ps_expr (pe_meth (pv 0) X.cl me1 F1 hr b1 .nil pass0 (pa_cons (pe_op op_shl pe_int (pe_op op_add (pe_op op_mul (pe_glob (v := .int 9) (by rfl) m9 ⟨_, rfl⟩) (pv 2)) (pv 4))) (pa_cons (pv 5) pa_nil))))))
        (pss_one (ps_expr (pe_bm PySem.F.plainAttrs_list PySem.F.slot_list_append PySem.F.type_list_append mt_append (pe_fld (pv 0) rfl) (pa_cons (pe_op op_shl pe_int (pe_op op_add (pe_op op_mul (pe_glob (v := .int 9) (by rfl) m9 ⟨_, rfl⟩) (pv 2)) (pe_callB call_len_seq (by rfl) B.len PySem.boot_len (pa_cons (pv 3) pa_nil)))) pa_nil))))))
      (pss_one (ps_fld (pv 0) (pe_meth (pv 0) X.cl me2 F2 hr b2 .nil pass0 (pa_cons (pe_callB (cr_sum rfl) (by rfl) hsum boot_sum (pa_cons
          (pe_lc (own := [("index", 2)]) (g := gName 2) (tt := tYes) (te := tOp (rI CPow fun i j => .int (i * 2 ^ j.toNat)) (tC (.int 1)) (tOp (rI CMul fun i j => .int (i * j)) (tC (.int 9)) (tVar 2))) rfl scInit.nd (pi_range1 (by rfl) B.range (pa_cons (pe_callB call_len_seq (by rfl) B.len PySem.boot_len (pa_cons (pv 1) pa_nil)) pa_nil)) (blkOk_by (N := nInit) (sc := defScope sInit) (by decide +kernel))
            (fun _ _ _ _ _ => pg_name (i := 2) scInit.nd rfl (Or.inl rfl)) (fun _ _ _ _ _ => pts_nil) (fun _ _ _ _ _ => pe_op op_shl pe_int (pe_op op_mul (pe_glob (v := .int 9) (by rfl) m9 ⟨_, rfl⟩) (pv 2)))) pa_nil)) pa_nil)) rfl)))))), ?_⟩
    have v0 : ∀ {H1 : Hp} {o2 o3 o4 o5 : Option V}, Ev (tVar 0) [some (.ref p), some (.ref l), o2, o3, o4, o5] H1 (.ref p) := ev_var rfl
    -- takes
    refine ⟨by show 1 ≤ sizeLine; decide, fun l0 hl0 => ⟨l0, 8, _, rfl, rfl, upd_same, by decide, by decide, by show 1 * 8 ≤ sizeLine; decide, fun ta hta => ?_⟩⟩
    have el0 := Ex.new (o := .lst [V.int 0]) hl0
    have gta := fresh_back (eG.trans el0) hta
    have eta := Ex.new (o := .lst (List.replicate (8 : Int).toNat [V.int 0]).flatten) hta
    have hp1 := (el0.trans eta) _ _ hp
    have hta1 : (upd (upd H l0 (.lst [V.int 0])) ta (.lst (List.replicate (8 : Int).toNat [V.int 0]).flatten)) ta = some (.lst (rsV (List.replicate 8 0))) := upd_same
    have eG1 := eG.trans (el0.trans eta)
    generalize upd (upd H l0 (.lst [V.int 0])) ta (.lst (List.replicate (8 : Int).toNat [V.int 0]).flatten) = H1 at *
    have pta : ta ≠ p := fun z => by rw [z, hp1] at hta1; cases hta1
    refine ⟨.ref p, rfl, p, CS, dx, [], rfl, hp1, X.cl, X.nT, by decide, ?_⟩
    have eG2 : Ex G (upd H1 p (.ins CS dx (putF "takes" (.ref ta) []))) := Ex.mut eG1 gp
    have hta2 : (upd H1 p (.ins CS dx (putF "takes" (.ref ta) []))) ta = some (.lst (rsV (List.replicate 8 0))) := by rw [upd_ne pta]; exact hta1
    have hp2 : (upd H1 p (.ins CS dx (putF "takes" (.ref ta) []))) p = some (.ins CS dx (putF "takes" (.ref ta) [])) := upd_same
    generalize upd H1 p (.ins CS dx (putF "takes" (.ref ta) [])) = H2 at *
    dsimp only
    refine q_fld (CS := CS) (v := .int 0) X.cl X.nS ev_c (fun _ _ => v0) hp2 (Nat.lt_of_le_of_lt (len_putF _ _ _) (by decide)) fun H3 e3 => ?_
    have eG3 : Ex G (upd H3 p (.ins CS dx (putF "skips" (.int 0) (putF "takes" (.ref ta) [])))) := Ex.mut (eG2.trans e3) gp
    have hta3 : (upd H3 p (.ins CS dx (putF "skips" (.int 0) (putF "takes" (.ref ta) [])))) ta = some (.lst (rsV (List.replicate 8 0))) := by rw [upd_ne pta]; exact e3 _ _ hta2
    have hp3 : (upd H3 p (.ins CS dx (putF "skips" (.int 0) (putF "takes" (.ref ta) [])))) p = some (.ins CS dx (putF "skips" (.int 0) (putF "takes" (.ref ta) []))) := upd_same
    generalize upd H3 p (.ins CS dx (putF "skips" (.int 0) (putF "takes" (.ref ta) []))) = H4 at *
    have l2 : (putF "skips" (V.int 0) (putF "takes" (.ref ta) [])).length ≤ 2 := Nat.le_trans (len_putF _ _ _) (Nat.succ_le_succ (len_putF _ _ _))
    refine q_fld (CS := CS) (v := .int 0) X.cl X.nK ev_c (fun _ _ => v0) hp3 (Nat.lt_of_le_of_lt l2 (by decide)) fun H5 e5 => ?_
    have eG5 : Ex G (upd H5 p (.ins CS dx (putF "keeps" (.int 0) (putF "skips" (.int 0) (putF "takes" (.ref ta) []))))) := Ex.mut (eG3.trans e5) gp
    have hta5 : (upd H5 p (.ins CS dx (putF "keeps" (.int 0) (putF "skips" (.int 0) (putF "takes" (.ref ta) []))))) ta = some (.lst (rsV (List.replicate 8 0))) := by rw [upd_ne pta]; exact e5 _ _ hta3
    have hp5 : (upd H5 p (.ins CS dx (putF "keeps" (.int 0) (putF "skips" (.int 0) (putF "takes" (.ref ta) []))))) p = some (.ins CS dx (putF "keeps" (.int 0) (putF "skips" (.int 0) (putF "takes" (.ref ta) [])))) := upd_same
    generalize upd H5 p (.ins CS dx (putF "keeps" (.int 0) (putF "skips" (.int 0) (putF "takes" (.ref ta) [])))) = H6 at *
    have l3 : (putF "keeps" (V.int 0) (putF "skips" (V.int 0) (putF "takes" (.ref ta) []))).length ≤ 3 := Nat.le_trans (len_putF _ _ _) (Nat.succ_le_succ l2)
    refine ⟨by show 0 ≤ sizeLine; decide, fun ga hga => ?_⟩
    have ega := Ex.new (o := .lst ([] : List V)) hga
    have gga := fresh_back eG5 hga
    have hp7 := ega _ _ hp5
    have hta7 := ega _ _ hta5
    have hga7 : (upd H6 ga (.lst ([] : List V))) ga = some (.lst (rsV [])) := upd_same
    have ntg : ta ≠ ga := ne_of_none hta5 hga
    have npg : ga ≠ p := fun z => by rw [z, hp5] at hga; cases hga
    have eG7 := eG5.trans ega
    generalize upd H6 ga (.lst ([] : List V)) = H7 at *
    refine ⟨.ref p, rfl, p, CS, dx, _, rfl, hp7, X.cl, X.nG, Nat.lt_of_le_of_lt l3 (by decide), ?_⟩
    have fl : Fl (putF "goals" (.ref ga) (putF "keeps" (.int 0) (putF "skips" (.int 0) (putF "takes" (.ref ta) [])))) ta ga 0 0 := by
      refine ⟨?_, ?_, ?_, lk_putS, ?_, ?_, ?_, ?_, ?_, Nat.le_trans (len_putF _ _ _) (Nat.le_trans (Nat.succ_le_succ l3) (by decide))⟩
      · rw [lk_putF (by decide +kernel), lk_putF (by decide +kernel), lk_putF (by decide +kernel)]
        exact lk_putS
      · rw [lk_putF (by decide +kernel), lk_putF (by decide +kernel)]
        exact lk_putS
      · rw [lk_putF (by decide +kernel)]
        exact lk_putS
      all_goals
        rw [lk_putF (by decide +kernel), lk_putF (by decide +kernel), lk_putF (by decide +kernel), lk_putF (by decide +kernel)]
        rfl
    have eG8 : Ex G (upd H7 p (.ins CS dx (putF "goals" (.ref ga) (putF "keeps" (.int 0) (putF "skips" (.int 0) (putF "takes" (.ref ta) [])))))) := Ex.mut eG7 gp
    have hv8 : Sv CS (upd H7 p (.ins CS dx (putF "goals" (.ref ga) (putF "keeps" (.int 0) (putF "skips" (.int 0) (putF "takes" (.ref ta) [])))))) p ta ga (List.replicate 8 0) 0 0 [] := ⟨⟨dx, _, upd_same, fl⟩, by rw [upd_ne pta]; exact hta7, by rw [upd_ne npg]; exact hga7, ntg⟩
    generalize upd H7 p (.ins CS dx (putF "goals" (.ref ga) (putF "keeps" (.int 0) (putF "skips" (.int 0) (putF "takes" (.ref ta) []))))) = H8 at *
    dsimp only
    clear hp hp1 hp2 hp3 hp5 hp7 fl hta1 hta2 hta3 hta5 hta7 hga7 l2 l3
    have tl : (its.map itV).length = its.length := List.length_map _
    refine q_forEnL (K := K) (xs := [.ref t]) (ev_var (i := 1) rfl) (sq_of (eG8 _ _ gl)) (fun i σ' H' => ∃ (o2 o3 o4 o5 : Option V) (ts : List Nat) (sk kp : Nat), σ' = [some (.ref p), some (.ref l), o2, o3, o4, o5] ∧ Ex G H' ∧ Sv CS H' p ta ga ts sk kp (if i = 0 then [] else [2 ^ its.length]) ∧ Bt (if i = 0 then [] else its) ts sk kp)
      (fun H9 e9 => ⟨none, none, none, none, _, _, _, rfl, eG8.trans e9, by rw [if_pos rfl]; exact hv8.up e9, by rw [if_pos rfl]; exact bt_nil⟩) (fun i σ' H' _ h => ?_) ?_ ?_
    · obtain ⟨_, _, _, _, _, _, _, _, h1, _⟩ := h
      exact sq_of (h1 _ _ gl)
    · rintro i y T σ' H9 hy ⟨o2, o3, o4, o5, ts, sk, kp, rfl, e9, hv9, hb9⟩ hT
      have hi : i = 0 := by
        have := (List.getElem?_eq_some_iff.mp hy).1
        simpa using this
      subst hi
      have ey : y = .ref t := (Option.some.inj hy).symm
      subst ey
      rw [if_pos rfl] at hv9 hb9
      rw [show (if 0 + 1 = 0 then ([] : List Nat) else [2 ^ its.length]) = [2 ^ its.length] from rfl, show (if 0 + 1 = 0 then ([] : List It) else its) = its from rfl]
      have eT := Ex.new (o := .tup [.int ((0 : Nat) : Int), V.ref t]) hT
      refine ⟨T, _, rfl, st_of upd_same, rfl, g_two ?_⟩
      have hv10 := hv9.up eT
      have e10 := e9.trans eT
      generalize upd H9 T (.tup [.int ((0 : Nat) : Int), V.ref t]) = H10 at *
      dsimp only
      change tSeq _ _ _ [some (.ref p), some (.ref l), some (.int ((0 : Nat) : Int)), some (.ref t), o4, o5] H10
      refine q_forEn (K := K) (ev_var (i := 3) rfl) (st_of (e10 _ _ gt)) (fun j σ' H' => ∃ (o4 o5 : Option V) (ts : List Nat) (sk kp : Nat), σ' = [some (.ref p), some (.ref l), some (.int ((0 : Nat) : Int)), some (.ref t), o4, o5] ∧ Ex G H' ∧ Sv CS H' p ta ga ts sk kp [] ∧ Bt (its.take j) ts sk kp)
        (fun H11 e11 => ⟨o4, o5, ts, sk, kp, rfl, e10.trans e11, hv10.up e11, hb9⟩) (fun j σ' H' _ h => ?_) ?_ ?_
      · obtain ⟨_, _, _, _, _, _, h1, _⟩ := h
        exact st_of (h1 _ _ gt)
      · rintro j y T2 σ' H11 hy ⟨o4, o5, ts, sk, kp, rfl, e11, hv11, hb11⟩ hT2
        rw [List.getElem?_map] at hy
        cases hj : its[j]? with
        | none => rw [hj] at hy; cases hy
        | some x =>
          rw [hj] at hy
          have ey : y = itV x := (Option.some.inj hy).symm
          subst ey
          have hjl := (List.getElem?_eq_some_iff.mp hj).1
          have eT2 := Ex.new (o := .tup [.int (j : Nat), itV x]) hT2
          refine ⟨T2, _, rfl, st_of upd_same, rfl, g_two ?_⟩
          have hv12 := hv11.up eT2
          have e12 := e11.trans eT2
          generalize upd H11 T2 (.tup [.int (j : Nat), itV x]) = H12 at *
          dsimp only
          obtain ⟨dx', fs', hp', fl'⟩ := hv12.ob
          refine ⟨.ref p, rfl, p, dx', fs', rfl, hp', fl'.n1, ?_⟩
          refine ⟨.int ((0 : Nat) : Int), rfl, 9, ((0 : Nat) : Int), rfl, rfl, .inl ⟨by decide, by decide⟩, .int (j : Nat), rfl, 9 * ((0 : Nat) : Int), (j : Int), rfl, rfl, 1, _, rfl, rfl, ⟨by omega, by omega, by decide⟩, ?_⟩
          have ep : V.int (1 * 2 ^ ((9 * ((0 : Nat) : Int) + (j : Int))).toNat) = V.int ((2 ^ j : Nat) : Int) := congrArg V.int (pow_nn j)
          refine ⟨itV x, rfl, G, p, ta, ga, ts, sk, kp, 2 ^ j, [], x, (by
            show [V.ref p, V.int (1 * 2 ^ ((9 * ((0 : Nat) : Int) + (j : Int))).toNat), itV x] = _
            rw [ep]), e12, gp, gta, hv12, hb11.l8, Nat.lt_of_lt_of_le (Nat.pow_lt_pow_right (by decide) (show j < 8 by omega)) (by decide), fun H13 ts' e13 hv13 hl13 ht13 => ?_⟩
          exact ⟨_, _, ts', _, _, rfl, e13, hv13, bt_step hj (by omega) hb11 hl13 ht13⟩
      · rintro σ' H11 ⟨o4, o5, ts, sk, kp, rfl, e11, hv11, hb11⟩
        rw [tl, List.take_length] at hb11
        obtain ⟨dx', fs', hp', fl'⟩ := hv11.ob
        refine ⟨.ref p, rfl, p, CS, dx', fs', _, rfl, hp', X.cl, X.nG, fl'.gl, .inl ⟨rfl, _, sq_of hv11.gl⟩, ?_⟩
        refine ⟨.int ((0 : Nat) : Int), rfl, 9, ((0 : Nat) : Int), rfl, rfl, .inl ⟨by decide, by decide⟩, .ref t, rfl, t, _, rfl, .inr (st_of (e11 _ _ gt)), 9 * ((0 : Nat) : Int), ((its.map itV).length : Int), rfl, rfl, 1, _, rfl, rfl, ⟨by omega, by omega, by decide⟩, ?_⟩
        have ep : V.int (1 * 2 ^ ((9 * ((0 : Nat) : Int) + ((its.map itV).length : Int))).toNat) = V.int ((2 ^ its.length : Nat) : Int) := by rw [tl]; exact congrArg V.int (pow_nn its.length)
        refine ⟨ga, _, _, rfl, rfl, hv11.gl, by rw [rsV_len]; decide, ?_⟩
        have z := hv11.sg [2 ^ its.length]
        have er : rsV [2 ^ its.length] = rsV [] ++ [V.int (1 * 2 ^ ((9 * ((0 : Nat) : Int) + ((its.map itV).length : Int))).toNat)] := by rw [ep]; rfl
        rw [er] at z
        exact ⟨_, _, _, _, ts, sk, kp, rfl, Ex.mut e11 gga, z, hb11⟩
    · rintro σ' H9 ⟨o2, o3, o4, o5, ts, sk, kp, rfl, e9, hv9, hb9⟩
      rw [show ([V.ref t] : List V).length = 1 from rfl] at hv9 hb9
      rw [if_neg (by decide)] at hv9 hb9
      obtain ⟨dx', fs', hp', fl'⟩ := hv9.ob
      have hsum1 : EvL (tLc (iRng1 (tCons (tCB (rLenS K) (tCons (tVar 1) tNil)) tNil)) (gName 2) tYes (tOp (rI CPow fun i j => .int (i * 2 ^ j.toNat)) (tC (.int 1)) (tOp (rI CMul fun i j => .int (i * j)) (tC (.int 9)) (tVar 2))) [2]) [some (.ref p), some (.ref l), o2, o3, o4, o5] H9 [.int 1] := by
        have q := el_lcR1 (j := 2) (vs := [2]) (t := tYes) (te := tOp (rI CPow fun i j => .int (i * 2 ^ j.toNat)) (tC (.int 1)) (tOp (rI CMul fun i j => .int (i * j)) (tC (.int 9)) (tVar 2))) (σ := [some (.ref p), some (.ref l), o2, o3, o4, o5]) (H := H9) (n := (([V.ref t] : List V).length : Int)) (fun _ => true) (fun k => .int 1)
          (ea_cons (ev_len (K := K) (ta := tVar 1) (ev_var rfl) (sq_of (e9 _ _ gl))) ea_nil) (by show (0 : Int) ≤ 1 ∧ (1 : Int) ≤ 40000; decide) (fun x => rfl) (fun _ _ _ _ => et_yes) (fun i H2 e2 hi _ => by
            have hi : i = 0 := by
              have : (i : Int) < 1 := hi
              omega
            subst hi
            have z1 := ev_op (H := H2) (σ := (wipe [some (.ref p), some (.ref l), o2, o3, o4, o5] [2]).set 2 (some (.int ((0 : Nat) : Int)))) (r := rI CMul fun i j => .int (i * j)) (ta := tC (.int 9)) (tb := tVar 2) (x := .int 9) (y := .int ((0 : Nat) : Int)) ev_c (ev_var rfl) (rv_I (.inl ⟨by decide, by decide⟩))
            exact ev_op (r := rI CPow fun i j => .int (i * 2 ^ j.toNat)) (ta := tC (.int 1)) (x := .int 1) ev_c z1 (rv_I ⟨by decide, by decide, by decide⟩))
        exact q
      refine ⟨.ref p, rfl, p, dx', fs', rfl, hp', fl'.n2, tc1' (cb1 (hsum1 H9 (Ex.refl _) _ fun l1 H10 hl0 e10 hl1 => ?_))⟩
      refine ⟨l1, [1], rfl, sq_of hl1, ?_⟩
      refine ⟨p, dx', fs', sk, 1, rfl, e10 _ _ hp', fl'.sk, by decide, Nat.lt_trans hb9.s2 (by decide), fun H11 R e11 hR hC => ?_⟩
      have hv11 := hv9.up (e10.trans e11)
      have hp11 := (e10.trans e11) _ _ hp'
      refine ⟨.ref p, rfl, p, CS, dx', fs', rfl, hp11, X.cl, X.nF, Nat.lt_of_le_of_lt fl'.few (by decide), ?_⟩
      obtain ⟨a1, a2⟩ := hv11.p1
      have flF : Fl0 (putF "first" (.int (R : Int)) fs') ta ga sk kp := ⟨by rw [lk_putF (by decide +kernel)]; exact fl'.tk, by rw [lk_putF (by decide +kernel)]; exact fl'.sk, by rw [lk_putF (by decide +kernel)]; exact fl'.kp, by rw [lk_putF (by decide +kernel)]; exact fl'.gl, by rw [lk_putF (by decide +kernel)]; exact fl'.n2, by rw [lk_putF (by decide +kernel)]; exact fl'.n3, by rw [lk_putF (by decide +kernel)]; exact fl'.n4, by rw [lk_putF (by decide +kernel)]; exact fl'.n5⟩
      refine k _ (Ex.mut (e9.trans (e10.trans e11)) gp) ⟨ta, ga, dx', ts, sk, kp, R, _, upd_same, flF, lk_putS, ⟨⟨dx', _, upd_same, flF⟩, by rw [upd_ne a1]; exact hv11.tk, by rw [upd_ne a2]; exact hv11.gl⟩, hb9.l8, fun r hr => ⟨Nat.lt_trans (hb9.tk r hr).1 (by decide), (hb9.tk r hr).2⟩, Nat.lt_trans hb9.s2 (by decide), hb9.sb, Nat.lt_trans hb9.k2 (by decide), hb9.kb, hR, stand_first (by rw [show isAny its = fun j => sk.testBit j from funext fun j => (hb9.sb j).symm]; exact hC)⟩
end
end Wk

set_option Elab.async false
set_option linter.all false
set_option maxRecDepth 100000
set_option maxHeartbeats 2000000
namespace Wk
open PySem PySem.Spec PyProof.Rows L2 Evl
/-! several except clauses, each with the same name for what it caught -/
def unAs (i : Nat) (D : Ends) : Ends := { nx := fun σ' H' => D.nx (σ'.set i none) H', rt := D.rt, bk := fun σ' H' => D.bk (σ'.set i none) H', ct := fun σ' H' => D.ct (σ'.set i none) H' }
/-- what these clauses wish of an exception, one behind the other -/
def wClauses (K : PySem.W.Frag) (i : Nat) (Wo : WX) (D : Ends) : List (Value × (Addr → Value → Option Addr → TS)) → WX
  | [] => Wo
  | y :: r => fun cls d σ H => ∃ b, PySem.W.exmOne K cls y.1 = some b ∧ (b = true → ∀ a, H a = none → y.2 a cls d (unAs i D) (σ.set i (some (.ref a))) H) ∧ (b = false → wClauses K i Wo D r cls d σ H)
inductive Clauses (X : Cx) (n : Str) : List ExceptHandler → List (Value × (Addr → Value → Option Addr → TS)) → Prop
  | nil : Clauses X n [] []
  | cons {x : Str} {c : Value} {ts : Addr → Value → Option Addr → TS} {b₀ : Stmt} {su : List Stmt} {np pos' : Pos} {hs : List ExceptHandler} {l : List (Value × (Addr → Value → Option Addr → TS))} (hc : Names X x c)
      (hsu : ∀ (a : Addr) (oe : Obj) (cls : Value) (d : Option Addr) (pn : List (Addr × Obj)), Zc cls d oe → (∃ vs, oe.data = .fields vs) → PSs (X.suite a ((a, oe) :: pn)) (b₀ :: su) (ts a cls d)) (r : Clauses X n hs l) :
      Clauses X n (.ExceptHandler (some (.Name x np)) (some n) (b₀ :: su) pos' :: hs) ((c, ts) :: l)
section
variable {X : Cx} {n : Str} {i : Nat} {body : List Stmt} {h₀ : ExceptHandler} {hds : List ExceptHandler} {l : List (Value × (Addr → Value → Option Addr → TS))} {pos : Pos} {tb : WX → TS} {Wout : WX}
theorem ps_try_clauses (hs : X.stack = X.env :: X.outer) (hf : X.env.frame = some X.env.locals) (hN : X.N.Nodup) (hi : X.N[i]? = some n) (hln : X.env.kindOf n = some .local) (tk : Takes X Wout)
    (hb : ∀ (W : WX) (pn : List (Addr × Obj)) (xe : Value → Shared → Prop), Takes (X.tr pn xe) W → PassesOwn (model X.prog X.w) X.A X.env xe → PSs (X.tr pn xe) body (tb W))
    (hh : Clauses X n (h₀ :: hds) l) : PS X (.Try body (h₀ :: hds) [] [] pos) (fun D σ H => tb (wClauses X.K i Wout D l) D σ H) := by
  refine ⟨fun pins s σ H D I h => ?_⟩
  have ok := I.ok
  have hfr : X.A.frames = some (X.env :: X.outer) := by rw [ok.frames, hs]
  have hloc : Loc X.env.scope n := .inl hln
  refine wpAny_Try_except (wpAny_mono ((hb (wClauses X.K i Wout D l) (X.pn ++ pins) (fun e s₁ => wpAny (model X.prog X.w) X.A (noteFrame e X.env) (fun _ s₂ => wpAny (model X.prog X.w) X.A (setFlight e none) (fun _ s₃ =>
    wpAny (model X.prog X.w) X.A (handleBy e X.env (h₀ :: hds)) (SP X pins D) X.xe s₃) X.xe s₂) X.xe s₁) ?air PassesOwn.looking).run [] s σ H D (I.toTry _) h) ?fine (fun _ _ he => he))
  case fine =>
    intro f s1 hsp
    cases f with
    | next => obtain ⟨σ', H', J', q⟩ := hsp; exact wpAny_execs_nil ⟨σ', H', J'.ofTry ok, q⟩
    | brk => obtain ⟨σ', H', J', q⟩ := hsp; exact ⟨σ', H', J'.ofTry ok, q⟩
    | cont => obtain ⟨σ', H', J', q⟩ := hsp; exact ⟨σ', H', J'.ofTry ok, q⟩
    | ret u => obtain ⟨v, σ', H', J', r, q⟩ := hsp; exact ⟨v, σ', H', J'.ofTry ok, r, q⟩
  case air =>
    intro u s' xx
    obtain ⟨a, B, sI, pins', σ', H', cls, d, rfl, J', nb, up, sky, na, os, ag, w⟩ := xx
    have J : Inv X pins σ' H' sI := J'.ofTry ok
    rw [hs] at sky
    refine Sky.land (L := X.env.locals) Zc.steady hfr hf sky fun h3 fl3 up3 => ?_
    have J3 : Inv X pins σ' H' { s' with heap := h3 } := J.landed nb fl3.1 (up.trans up3) os ag
    obtain ⟨oe3, vs3, he3, hz3, hd3⟩ := fl3.there
    have nfr : a ∉ frs (X.env :: X.outer) := fun hm => by
      obtain ⟨_, o', e', hnf⟩ := fl3.2.2.1.mem hm
      rw [he3] at e'
      cases e'
      exact hnf _ hd3
    have nL : a ≠ X.env.locals := fun z => nfr (List.mem_filterMap.mpr ⟨X.env, List.mem_cons_self, by rw [hf, z]⟩)
    have nF : a ∉ X.fs := fun hm => by
      obtain ⟨e, he, q⟩ := List.mem_filterMap.mp hm
      exact nfr (List.mem_filterMap.mpr ⟨e, List.mem_cons_of_mem _ he, q⟩)
    have S3 := J3.suite he3 hd3 na nL nF
    have go : ∀ {hs' : List ExceptHandler} {l' : List (Value × (Addr → Value → Option Addr → TS))}, Clauses X n hs' l' → wClauses X.K i Wout D l' cls d σ' H' → wpAny (model X.prog X.w) X.A (handleBy (.ref a) X.env hs') (SP X pins D) X.xe { s' with heap := h3 } := by
      intro hs' l' hk
      induction hk with
      | nil =>
        intro w
        refine wpAny_handleBy_nil ?_
        obtain ⟨k1, k2, k3, oe, vs, T, oT, ts', he, hz, hd, h1, hr⟩ := id fl3
        unfold PySem.passOn
        refine wpAny_bind (wpAny_field he hd h1 ?_)
        rw [if_neg (show ¬ ((Value.ref T == Value.none) = true) from by simp)]
        have fin : wpAny (model X.prog X.w) X.A (setFlight (.ref a) X.env.frame) (fun _ s4 => wpAny (model X.prog X.w) X.A (throw (.ref a) : Sem Flow) (SP X pins D) X.xe s4) X.xe { s' with heap := h3 } := by
          rw [hf]
          exact HandSPX.setFlight_upZ fl3 fun h4 hh4 up4 => wpAny_throw (tk _ _ ⟨a, B, sI, pins, σ', H', cls, d, rfl, J, nb, (up.trans up3).trans up4, .inr (.inr (by rw [hs]; exact hh4)), na, os, ag, w⟩)
        first
          | exact wpAny_bind (wpAny_pure (wpAny_bind fin))
          | exact wpAny_bind fin
      | @cons x c ts b₀ su np pos' hs2 l2 hc hsu r ih =>
        intro w
        obtain ⟨b, hb1, hyes, hno⟩ := w
        refine wpAny_handleBy_cons (codeAny_handlers_test ?_) (by intro q; cases q)
        have LM := PySem.W.exm_one (M := model X.prog X.w) (J3.kIn) (fun A Q E s k q => wpAny_typeOf_ref (k _ _ he3) (by rw [hz3.1]; exact q)) hb1
        have test : ∀ {Q E : Value → Shared → Prop}, Q c { s' with heap := h3 } → wpAny (model X.prog X.w) (X.A.mark (some (.ref a))) (eval (.Name x np) X.env) Q E { s' with heap := h3 } := fun {Q E} q => by
          obtain ⟨hg, hdbg, hm | ⟨hm, hv, hnn⟩⟩ := hc
          · exact ld_glob (X := X.suite a ((a, oe3) :: (X.pn ++ pins))) S3 hg hm q hdbg
          · exact ld_blt (X := X.suite a ((a, oe3) :: (X.pn ++ pins))) S3 hg hm hv q hnn hdbg
        refine test (LM.here ?_)
        cases b with
        | false => exact ih (hno rfl)
        | true =>
          refine codeAny_handlers_suite_as (HandSPX.lands_againZ fl3 fun h4 fl4 up4 => ?_)
          have J4 : Inv X pins σ' H' { s' with heap := h4 } := J.landed nb fl4.1 ((up.trans up3).trans up4) os ag
          obtain ⟨oe4, vs4, he4, hz4, hd4⟩ := fl4.there
          have S4 := J4.suite he4 hd4 na nL nF
          refine store_ok (X := X.suite a ((a, oe4) :: (X.pn ++ pins))) (v := .ref a) S4 hN hi hloc rfl (fun s5 S5 => ?_) (.inr hln)
          refine wpAny_mono ((hsu a oe4 cls d (X.pn ++ pins) hz4 ⟨_, hd4⟩).run [] s5 _ H' _ S5 (hyes rfl a na)) (fun f s6 hsp => ?_) (fun _ _ z => False.elim z)
          cases f with
          | next => obtain ⟨σ6, H6, S6, q6⟩ := hsp; exact gone_ok (S6.unsuite ok) hN hi hln fun s7 J7 => ⟨_, _, J7, q6⟩
          | brk => obtain ⟨σ6, H6, S6, q6⟩ := hsp; exact gone_ok (S6.unsuite ok) hN hi hln fun s7 J7 => ⟨_, _, J7, q6⟩
          | cont => obtain ⟨σ6, H6, S6, q6⟩ := hsp; exact gone_ok (S6.unsuite ok) hN hi hln fun s7 J7 => ⟨_, _, J7, q6⟩
          | ret u => obtain ⟨v6, σ6, H6, S6, r6, q6⟩ := hsp; exact gone_ok (S6.unsuite ok) hN hi hln fun s7 J7 => ⟨_, _, _, J7, r6, q6⟩
    exact go hh w
end
end Wk

set_option Elab.async false
set_option linter.all false
set_option maxRecDepth 100000
set_option maxHeartbeats 4000000
namespace Wk
open PySem PySem.Spec PyProof.Rows L2 Evl
/-- an error class without a field -/
structure ErrN (K : PySem.W.Frag) (mg : Str → Option Value) (x : Str) (C : Addr) : Prop where
  g : mg x = some (.ref C)
  q : PySem.W.excIn K C [.type "ValueError", .type "Exception", .type "BaseException", .type "object"] "ValueError.__new__" = true
  k : PySem.W.keepIn K (.ref C) = true
  b : PySem.W.subIn K (.ref C) (.type "BaseException") = some true
  t : PySem.W.typeIn K (.ref C) = some (.type "type")
theorem pmk_errN {X : Cx} {K : PySem.W.Frag} {mg : Str → Option Value} {x : Str} {C : Addr} {p pos : Pos} (hK : X.K = K) (hm : X.mg = mg) (T : ErrN K mg x C) (hg : Gl X x) (hdb : (x == ("__debug__" : Str)) = false := by decide) :
    PMk X (.Call (.Name x p) [] [] pos) (fun _ H Q => Q (.ref C) none H) := by
  subst hK hm
  intro ps s σ H Q I h
  refine wpAny_Call_Name_kw (ld_glob I hg T.g ?_ hdb)
  refine PySem.W.callWith_K0 I.kIn T.k ?_
  show wpAny _ _ (call (.ref C) []) _ _ _
  obtain ⟨bm, N, nm, qn, bs, hdct, sn, sub, ab, col, dd, k0, k1, k2, k3, k5, mN, hC, hN, hni, T2⟩ := exc_obj I.kIn T.q
  refine wpAny_call_exc_subT PySem.F.excBase_ValueError T2 hC hN hni (fun h' e hm => ?_) (Nat.zero_le _)
  exact mk_of I hm (raises_own T.b T.t) h (I.hok.gone hm.new)
structure CalX (P : Program) (w : World) (K : PySem.W.Frag) (mg : Str → Option Value) (base : Heap) (x : Str) (ps : List Str) (k : Nat) (sp : Sp) : Prop where
  ex : ∃ (f : Addr) (fd : FuncData), FnOk P w K mg base (L2.CX P w) k f fd ps sp ∧ mg x = some (.ref f) ∧ PySem.W.keepIn K (.ref f) = true ∧ Binds K fd ps []
/-- how a sieve is made -/
structure MkS (P : Program) (w : World) (K : PySem.W.Frag) (mg : Str → Option Value) (base : Heap) (CS : Addr) : Prop where
  g : mg "Sieve" = some (.ref CS)
  ex : ∃ (fI : Addr) (fd : FuncData), Mk K CS fI ∧ FnOk P w K mg base CX0 2 fI fd ["self", "patterns"] (spInit CS) ∧ Binds K fd ["self", "patterns"] []
/-! what is an item, a pattern, a tuple of routers -/
def isStr : PyData → Bool
  | .str _ => true
  | _ => false
theorem kit_str (d : PyData) : kitB (tyN d) "str" = some (isStr d) := by
  cases d with
  | none => exact show kitB "NoneType" "str" = some false by decide +kernel
  | bool b => exact show kitB "bool" "str" = some false by decide +kernel
  | int i => exact show kitB "int" "str" = some false by decide +kernel
  | str z => exact show kitB "str" "str" = some true by decide +kernel
  | list ds => exact show kitB "list" "str" = some false by decide +kernel
  | tuple ds => exact show kitB "tuple" "str" = some false by decide +kernel
  | dict ds => exact show kitB "dict" "str" = some false by decide +kernel
def isItD (d : PyData) : Bool := match d with
  | .str s => inV (.str s) [.str "one", .str "any"]
  | d => isR 8 d
def isPatD (d : PyData) : Bool := isTu d && (decide ((itemsT d).length ≤ 8) && (itemsT d).all isItD)
def isRtD (d : PyData) : Bool := isTu d && (itemsT d).all (isR 8)
theorem it_r {d : PyData} (h : isStr d = false) : isItD d = isR 8 d := by
  cases d <;> first | rfl | cases h
theorem tu_inv {H : Hp} {v : V} {d : PyData} (hd : Dq H v d) (h : isTu d = true) : ∃ (a : Addr) (xs : List V) (ds : List PyData), v = .ref a ∧ d = .tuple ds ∧ H a = some (.tup xs) ∧ DqA H xs ds := by
  cases hd <;> first | (cases h; done) | skip
  rename_i a xs ds h1 h2
  exact ⟨a, xs, ds, rfl, rfl, h1, h2⟩
section
variable {P : Program} {w : World} {K : PySem.W.Frag} {mg : Str → Option Value} {base : Heap} {f : Addr} {fd : FuncData} {CS CP CR : Addr}
abbrev spItem : Sp := spP fun H vs z => ∃ (v : V) (d : PyData), vs = [v] ∧ Dq H v d ∧ z = .bl (isItD d)
abbrev sItem : Stmt := top 15
theorem scItem : FnScope ["thing"] ["thing"] (defScope sItem) := ⟨rfl, rfl, rfl, by decide +kernel, rfl, by decide +kernel, by decide +kernel⟩
theorem ok_item (B : Bl mg) {t8 : Tok} (m8 : mg "MOST_ROUTERS" = some (.int 8 t8)) (C : Cal P w K mg base "is_router" ["size", "thing"] 3 spRouter) (F : FnP K "is_item" sItem f fd) : FnOk P w K mg base CX0 4 f fd ["thing"] spItem := by
  refine F.ok scItem (fun vs H Q E h => ?_) (fun cdv A outer s H vs Q E hr h => ?_)
  · obtain ⟨z, ⟨v, d, rfl, _⟩, _⟩ := h
    rfl
  · obtain ⟨z, ⟨v, d, rfl, hd, rfl⟩, k⟩ := h
    refine ⟨_, pss_cons (ps_if (pt_val (pe_callB call_isi (by rfl) B.isi boot_isinstance (pa_cons (pv 0) (pa_cons (pe_bltn (v := .ty "str") (by rfl) B.str PyProof.Rows.boot_str rfl) pa_nil)))) (pss_one (ps_ret (pe_cmpR op_in_seq (pv 0) (pe_tup (pa_cons pe_str (pa_cons pe_str pa_nil))) rfl))) pss_nil)
      (pss_one (ps_ret (pe_cal C hr (by rfl) (pa_cons (pe_glob (v := .int 8) (by rfl) m8 ⟨_, rfl⟩) (pa_cons (pv 0) pa_nil))))), ?_⟩
    refine q_when (b := isStr d) (et_B (ev_isi (ev_var rfl) hd (kit_str d))) (fun hb H1 e1 => ?_) (fun hb H1 e1 => ?_)
    · cases hd <;> first | (cases hb; done) | skip
      rename_i x
      exact s_ret (ev_inU (K := K) (xs := [.str "one", .str "any"]) (x := .str x) (ev_var rfl) (eu_tup (ea_cons ev_c (ea_cons ev_c ea_nil)) (by show 2 ≤ _; decide)) rfl rfl) fun H2 e2 => k H2 (e1.trans e2)
    · refine s_ret (ev_is (ev_call (ea_cons ev_c (ea_cons (ev_var rfl) ea_nil)) (spP_v fun H2 e2 => ⟨8, v, d, rfl, hd.mono (e1.trans e2), rfl⟩)) ?_) fun H2 e2 => k H2 (e1.trans e2)
      rw [it_r hb]
abbrev spPat : Sp := spP fun H vs z => ∃ (v : V) (d : PyData), vs = [v] ∧ Dq H v d ∧ z = .bl (isPatD d)
abbrev sPat : Stmt := top 14
abbrev nPat : List Str := ["thing", "item"]
theorem scPat : FnScope nPat ["thing"] (defScope sPat) := ⟨rfl, rfl, rfl, by decide +kernel, rfl, by decide +kernel, by decide +kernel⟩
theorem ok_pat (B : Bl mg) {t8 : Tok} (m8 : mg "MOST_ITEMS" = some (.int 8 t8)) (C : Cal P w K mg base "is_item" ["thing"] 4 spItem) (F : FnP K "is_pattern" sPat f fd) : FnOk P w K mg base CX0 5 f fd ["thing"] spPat := by
  refine F.ok scPat (fun vs H Q E h => ?_) (fun cdv A outer s H vs Q E hr h => ?_)
  · obtain ⟨z, ⟨v, d, rfl, _⟩, _⟩ := h
    rfl
  · obtain ⟨z, ⟨v, d, rfl, hd, rfl⟩, k⟩ := h
    refine ⟨_, pss_one (ps_ret (pe_and (pe_callB call_isi (by rfl) B.isi boot_isinstance (pa_cons (pv 0) (pa_cons (pe_bltn (v := .ty "tuple") (by rfl) B.tuple PyProof.Rows.boot_tuple rfl) pa_nil)))
      (pe_and (pe_cmpR op_le (pe_callB call_len_seq (by rfl) B.len PySem.boot_len (pa_cons (pv 0) pa_nil)) (pe_glob (v := .int 8) (by rfl) m8 ⟨_, rfl⟩) (nomark _))
      (pe_one (pe_callB (cr_all rfl) (by rfl) B.all boot_all (pa_cons (pe_lc (own := [("item", 1)]) (g := gName 1) (tt := tYes) rfl scPat.nd (pi_tup (pv 0)) (blkOk_by (N := nPat) (sc := defScope sPat) (by decide +kernel))
          (fun _ _ _ _ _ => pg_name (i := 1) scPat.nd rfl (Or.inl rfl)) (fun _ _ _ _ _ => pts_nil) (fun _ _ _ _ _ => pe_cal C hr (by rfl) (pa_cons (pv 1) pa_nil))) pa_nil)))))), ?_⟩
    refine s_ret (ev_andV (a := isTu d) (b := decide ((itemsT d).length ≤ 8) && (itemsT d).all isItD) (ev_isi (ev_var rfl) hd (kit_tup d)) fun ht => ?_) k
    obtain ⟨a, xs, ds, rfl, rfl, ha, hxs⟩ := tu_inv hd ht
    have hl := hxs.length
    refine ev_andV (a := decide (ds.length ≤ 8)) (b := ds.all isItD) (ev_is (ev_op (r := rI0 fun i j => .bl (decide (i ≤ j))) (x := .int (xs.length : Int)) (y := .int 8) (ev_lenT (ev_var rfl) (st_of ha)) ev_c rv_I0) (by
        show V.bl (decide ((xs.length : Int) ≤ 8)) = V.bl (decide (ds.length ≤ 8))
        congr 1
        rw [decide_eq_decide]
        omega)) fun h8 => ?_
    have h8 := of_decide_eq_true h8
    have q := ev_allT (K := K) (H := H) (j := 1) (vs := [1]) (σ := start nPat [.ref a]) (te := tCall spItem [] E0 (tCons (tVar 1) tNil)) (fun i => ((ds[i]?).map isItD).getD false) (ev_var (i := 0) rfl) (st_of ha) (by omega) (fun x => rfl)
      (fun i x H1 e1 hx => by
        obtain ⟨e, he, hv⟩ := hxs.get hx
        rw [he]
        exact ev_call (ea_cons (ev_var rfl) ea_nil) (spP_v fun H2 e2 => ⟨x, e, rfl, hv.mono (e1.trans e2), rfl⟩))
    refine ev_is q ?_
    rw [hl, all_get]
abbrev spRt : Sp := spP fun H vs z => ∃ (v : V) (d : PyData), vs = [v] ∧ Dq H v d ∧ (itemsT d).length ≤ 1000 ∧ z = .bl (isRtD d)
abbrev sRt : Stmt := top 16
theorem scRt : FnScope nPat ["thing"] (defScope sRt) := ⟨rfl, rfl, rfl, by decide +kernel, rfl, by decide +kernel, by decide +kernel⟩
theorem ok_rt (B : Bl mg) {t8 : Tok} (m8 : mg "MOST_ROUTERS" = some (.int 8 t8)) (C : Cal P w K mg base "is_router" ["size", "thing"] 3 spRouter) (F : FnP K "is_router_tuple" sRt f fd) : FnOk P w K mg base CX0 4 f fd ["thing"] spRt := by
  refine F.ok scRt (fun vs H Q E h => ?_) (fun cdv A outer s H vs Q E hr h => ?_)
  · obtain ⟨z, ⟨v, d, rfl, _⟩, _⟩ := h
    rfl
  · obtain ⟨z, ⟨v, d, rfl, hd, h1000, rfl⟩, k⟩ := h
    refine ⟨_, pss_one (ps_ret (pe_and (pe_callB call_isi (by rfl) B.isi boot_isinstance (pa_cons (pv 0) (pa_cons (pe_bltn (v := .ty "tuple") (by rfl) B.tuple PyProof.Rows.boot_tuple rfl) pa_nil)))
      (pe_one (pe_callB (cr_all rfl) (by rfl) B.all boot_all (pa_cons (pe_lc (own := [("item", 1)]) (g := gName 1) (tt := tYes) rfl scRt.nd (pi_tup (pv 0)) (blkOk_by (N := nPat) (sc := defScope sRt) (by decide +kernel))
          (fun _ _ _ _ _ => pg_name (i := 1) scRt.nd rfl (Or.inl rfl)) (fun _ _ _ _ _ => pts_nil) (fun _ _ _ _ _ => pe_cal C hr (by rfl) (pa_cons (pe_glob (v := .int 8) (by rfl) m8 ⟨_, rfl⟩) (pa_cons (pv 1) pa_nil)))) pa_nil))))), ?_⟩
    refine s_ret (ev_andV (a := isTu d) (b := (itemsT d).all (isR 8)) (ev_isi (ev_var rfl) hd (kit_tup d)) fun ht => ?_) k
    obtain ⟨a, xs, ds, rfl, rfl, ha, hxs⟩ := tu_inv hd ht
    have hl := hxs.length
    have h1000 : ds.length ≤ 1000 := h1000
    have q := ev_allT (K := K) (H := H) (j := 1) (vs := [1]) (σ := start nPat [.ref a]) (te := tCall spRouter [] E0 (tCons (tC (.int 8)) (tCons (tVar 1) tNil))) (fun i => ((ds[i]?).map (isR 8)).getD false) (ev_var (i := 0) rfl) (st_of ha) (by omega) (fun x => rfl)
      (fun i x H1 e1 hx => by
        obtain ⟨e, he, hv⟩ := hxs.get hx
        rw [he]
        exact ev_call (ea_cons ev_c (ea_cons (ev_var rfl) ea_nil)) (spP_v fun H2 e2 => ⟨8, x, e, rfl, hv.mono (e1.trans e2), rfl⟩))
    refine ev_is q ?_
    rw [hl, all_get]
    rfl
/-! fits -/
def GoodP (H : Hp) (v : V) (its : List It) : Prop := ∃ t, v = .ref t ∧ H t = some (.tup (its.map itV)) ∧ ItOk its ∧ its.length ≤ 8
def GoodR (H : Hp) (v : V) (rs : List Nat) : Prop := ∃ u, v = .ref u ∧ H u = some (.tup (rsV rs)) ∧ RsOk rs ∧ rs.length ≤ 100
theorem GoodP.up {H H' : Hp} {v : V} {its : List It} (h : GoodP H v its) (e : Ex H H') : GoodP H' v its := by
  obtain ⟨t, a, b, c⟩ := h
  exact ⟨t, a, e _ _ b, c⟩
theorem GoodR.up {H H' : Hp} {v : V} {rs : List Nat} (h : GoodR H v rs) (e : Ex H H') : GoodR H' v rs := by
  obtain ⟨t, a, b, c⟩ := h
  exact ⟨t, a, e _ _ b, c⟩
theorem isI8 {n : Nat} (h : n < 8) : isR 8 (.int (n : Int)) = true := by
  show (true && (decide (0 ≤ (n : Int)) && decide ((n : Int) ≤ 8 - 1))) = true
  rw [decide_eq_true (show 0 ≤ (n : Int) by omega), decide_eq_true (show (n : Int) ≤ 8 - 1 by omega)]
  rfl
theorem good_it {its : List It} (h : ItOk its) {x : It} (hx : x ∈ its) : isItD (itD x) = true := by
  cases x with
  | any => decide +kernel
  | one => decide +kernel
  | at_ n => exact isI8 (h n hx)
theorem GoodP.dq {H : Hp} {v : V} {its : List It} (h : GoodP H v its) : ∃ d, Dq H v d ∧ isPatD d = true := by
  obtain ⟨t, rfl, a, b, c⟩ := h
  refine ⟨.tuple (its.map itD), .tup a (dq_its H its), ?_⟩
  show (true && (decide ((its.map itD).length ≤ 8) && (its.map itD).all isItD)) = true
  rw [List.length_map, decide_eq_true c, Bool.true_and, Bool.true_and, List.all_eq_true]
  intro d hd
  obtain ⟨x, hx, rfl⟩ := List.mem_map.mp hd
  exact good_it b hx
theorem GoodR.dq {H : Hp} {v : V} {rs : List Nat} (h : GoodR H v rs) : ∃ d, Dq H v d ∧ (itemsT d).length ≤ 1000 ∧ isRtD d = true := by
  obtain ⟨t, rfl, a, b, c⟩ := h
  refine ⟨.tuple (rs.map fun (r : Nat) => PyData.int (r : Int)), .tup a (dq_rs H rs), by show (rs.map _).length ≤ 1000; rw [List.length_map]; omega, ?_⟩
  show (true && (rs.map fun (r : Nat) => PyData.int (r : Int)).all (isR 8)) = true
  rw [Bool.true_and, List.all_eq_true]
  intro d hd
  obtain ⟨x, hx, rfl⟩ := List.mem_map.mp hd
  exact isI8 (b x hx)
def spFits (CP CR : Addr) : Sp := fun vs H Q E => ∃ v1 v2, vs = [v1, v2] ∧
  ((∃ d, Dq H v1 d ∧ isPatD d = false ∧ ∀ H', Ex H H' → E (.ref CP) none H') ∨
   (∃ its d, GoodP H v1 its ∧ Dq H v2 d ∧ (itemsT d).length ≤ 1000 ∧ isRtD d = false ∧ ∀ H', Ex H H' → E (.ref CR) none H') ∨
   (∃ its rs, GoodP H v1 its ∧ GoodR H v2 rs ∧ ∀ H', Ex H H' → Q (.bl (mt its rs)) H'))
abbrev nFits : List Str := ["pattern", "routers", "sieve"]
abbrev sFits : Stmt := top 13
theorem scFits : FnScope nFits ["pattern", "routers"] (defScope sFits) := ⟨rfl, rfl, rfl, by decide +kernel, rfl, by decide +kernel, by decide +kernel⟩
theorem ok_fits (X : SX K CS) (B : Bl mg) (TP : ErrN K mg "BadPattern" CP) (TR : ErrN K mg "BadRow" CR) (C1 : Cal P w K mg base "is_pattern" ["thing"] 5 spPat) (C2 : Cal P w K mg base "is_router_tuple" ["thing"] 4 spRt) (MI : MkS P w K mg base CS) (MR : Msk P w K mg base CS "read_all" ["self", "routers"] 3 (spRAll CS)) (MF : Msk P w K mg base CS "fitting" ["self", "stand"] 1 (spFitting CS))
    (F : FnP K "fits" sFits f fd) : FnOk P w K mg base (L2.CX P w) 6 f fd ["pattern", "routers"] (spFits CP CR) := by
  obtain ⟨fI, fdI, mk, FI, bI⟩ := MI.ex
  obtain ⟨f1, fd1, me1, F1, b1⟩ := MR.ex
  obtain ⟨f2, fd2, me2, F2, b2⟩ := MF.ex
  refine F.ok scFits (fun vs H Q E h => ?_) (fun cdv A outer s H vs Q E hr h => ?_)
  · obtain ⟨v1, v2, rfl, _⟩ := h
    rfl
  · obtain ⟨v1, v2, rfl, h⟩ := h
    have r3 : Room 3 _ := hr.mono (by decide)
    have r1 : Room 1 _ := hr.mono (by decide)
    refine ⟨_, pss_cons (ps_if (pt_not (pt_val (pe_cal C1 hr (by rfl) (pa_cons (pv 0) pa_nil)))) (pss_one (ps_raise rfl (takes_of rfl rfl rfl rfl) (pmk_errN rfl rfl TP (by rfl)))) pss_nil)
      (pss_cons (ps_if (pt_not (pt_val (pe_cal C2 hr (by rfl) (pa_cons (pv 1) pa_nil)))) (pss_one (ps_raise rfl (takes_of rfl rfl rfl rfl) (pmk_errN rfl rfl TR (by rfl)))) pss_nil)
      (pss_cons (ps_set (i := 2) scFits.nd rfl (Or.inl rfl) (pe_mkAt (CX := CX0) (W := fun _ _ _ _ => False) mk FI r3 (by rfl) MI.g bI (fun _ _ _ _ _ _ _ h => h.elim) (pa_cons (pe_lst (pa_cons (pv 0) pa_nil)) pa_nil)))
      (pss_one (ps_ret (pe_cmpR op_gt (pe_callB call_len_seq (by rfl) B.len PySem.boot_len (pa_cons (pe_meth (pv 2) X.cl me2 F2 r1 b2 .nil pass0 (pa_cons (pe_meth (pv 2) X.cl me1 F1 r3 b1 .nil pass0 (pa_cons (pv 1) pa_nil)) pa_nil)) pa_nil)) pe_int (nomark _)))))), ?_⟩
    rcases h with ⟨d, hd, hb, k⟩ | h
    · exact q_when (b := !false) (et_not (et_B (ev_call (ea_cons (ev_var rfl) ea_nil) (spP_v fun H2 e2 => ⟨v1, d, rfl, hd.mono e2, by rw [hb]⟩)))) (fun _ H1 e1 => k H1 e1) (fun z => by cases z)
    obtain ⟨its, hP⟩ : ∃ its, GoodP H v1 its := by
      rcases h with ⟨its, d, h1, _⟩ | ⟨its, rs, h1, _⟩
      · exact ⟨its, h1⟩
      · exact ⟨its, h1⟩
    obtain ⟨d1, hd1, hp1⟩ := hP.dq
    refine q_when (b := !true) (et_not (et_B (ev_call (ea_cons (ev_var rfl) ea_nil) (spP_v fun H2 e2 => ⟨v1, d1, rfl, hd1.mono e2, by rw [hp1]⟩)))) (fun z => by cases z) (fun _ H1 e1 => ?_)
    rcases h with ⟨_, d, _, hd, hl, hb, k⟩ | ⟨its, rs, hP, hR, k⟩
    · exact q_when (b := !false) (et_not (et_B (ev_call (ea_cons (ev_var rfl) ea_nil) (spP_v fun H2 e2 => ⟨v2, d, rfl, hd.mono (e1.trans e2), hl, by rw [hb]⟩)))) (fun _ H2 e2 => k H2 (e1.trans e2)) (fun z => by cases z)
    obtain ⟨d2, hd2, hl2, hp2⟩ := hR.dq
    refine q_when (b := !true) (et_not (et_B (ev_call (ea_cons (ev_var rfl) ea_nil) (spP_v fun H2 e2 => ⟨v2, d2, rfl, hd2.mono (e1.trans e2), hl2, by rw [hp2]⟩)))) (fun z => by cases z) (fun _ H2 e2 => ?_)
    obtain ⟨t, rfl, ht, hok, hl8⟩ := hP
    obtain ⟨u, rfl, hu, hrs, hrl⟩ := hR
    have e12 := e1.trans e2
    refine ⟨.ref t, rfl, by show 1 ≤ sizeLine; decide, fun l hl => ?_⟩
    have el := e12.trans (Ex.new (o := .lst [V.ref t]) hl)
    have hll : (upd H2 l (.lst [V.ref t])) l = some (.lst [.ref t]) := upd_same
    generalize upd H2 l (.lst [V.ref t]) = H3 at *
    intro x dx nx ndx nex
    refine ⟨H3, x, l, t, dx, its, rfl, upd_same, fun b o hb => ?_, nx, hll, el _ _ ht, hok, hl8, fun H4 e4 hs => ⟨rfl, ?_⟩⟩
    · rw [upd_ne (ne_of_none hb nx), upd_ne (ne_of_none hb ndx)]
      exact hb
    · have e04 := el.trans e4
      refine g_name ?_
      obtain ⟨ta, ga, dy, ts, sk, kp, ft, fs, hp, fl, _⟩ := hs.ex
      refine ⟨.ref x, rfl, x, dy, fs, rfl, hp, fl.n5, .ref x, rfl, x, dy, fs, rfl, hp, fl.n4, .ref u, rfl, x, u, its, rs, rfl, hs, e04 _ _ hu, hrs, fun H5 S e5 hS hSt => ?_⟩
      refine ⟨x, its, S, rfl, hs.up e5, fun H6 l2 e6 hl2 => ?_⟩
      refine ⟨l2, _, rfl, .inl (sq_of hl2), _, 0, rfl, rfl, ?_⟩
      have hb : S.testBit its.length = mt its rs := by
        rw [hSt, decide_eq_true (Nat.le_refl _), List.take_length, Bool.true_and]
      rw [hb]
      have z := k H6 (e04.trans (e5.trans e6))
      cases hm : mt its rs with
      | true =>
        rw [hm] at z
        exact z
      | false =>
        rw [hm] at z
        exact z
end
end Wk

set_option Elab.async false
set_option linter.all false
set_option maxRecDepth 100000
set_option maxHeartbeats 4000000
namespace Wk
open PySem PySem.Spec PyProof.Rows L2 Evl
theorem pss_when {X : Cx} {l : List Stmt} {t : TS} {c : Prop} (h : c → PSs X l t) : PSs X l (fun D σ H => c ∧ t D σ H) := ⟨fun pins s σ H D I hh => (h hh.1).run pins s σ H D I hh.2⟩
theorem call_isiK {X : Cx} {K : PySem.W.Frag} (hK : X.K = K) : CallR X (.builtin "isinstance") (rIsi K) := by
  subst hK
  exact call_isi
theorem call_isEK {X : Cx} {K : PySem.W.Frag} {a D : Addr} {oe : Obj} {pn : List (Addr × Obj)} (hK : X.K = K) (C : ExcC K D) (hz : Zc (.ref D) none oe) (hf : ∃ vs, oe.data = .fields vs) : CallR (X.suite a ((a, oe) :: pn)) (.builtin "isinstance") (rIsE K D a) := by
  subst hK
  exact call_isE C hz hf
/-- what isinstance tells of an error of class C -/
structure EK (K : PySem.W.Frag) (C CW CO : Addr) : Prop where
  ex : ExcC K C
  k1 : PySem.W.kitOne K (.ref C) (.ref CW) = some true
  k2 : PySem.W.kitOne K (.ref C) (.type "ValueError") = some true
  k3 : PySem.W.kitOne K (.ref C) (.ref CO) = some false
section
variable {P : Program} {w : World} {K : PySem.W.Frag} {mg : Str → Option Value} {base : Heap} {f : Addr} {fd : FuncData} {CS CP CR CW : Addr}
abbrev spResult : Sp := spP fun H vs z => ∃ v1 v2, vs = [v1, v2] ∧
  ((∃ d, Dq H v1 d ∧ isPatD d = false ∧ z = .str "pattern") ∨ (∃ its d, GoodP H v1 its ∧ Dq H v2 d ∧ (itemsT d).length ≤ 1000 ∧ isRtD d = false ∧ z = .str "row") ∨ (∃ its rs, GoodP H v1 its ∧ GoodR H v2 rs ∧ z = .str "let"))
abbrev nResult : List Str := ["_law_pattern", "_law_routers", "_law_word", "_law_error", "_law_told", "e"]
abbrev sResult : Stmt := top 23
theorem scResult : FnScope nResult ["_law_pattern", "_law_routers"] (defScope sResult) := ⟨rfl, rfl, rfl, by decide +kernel, rfl, by decide +kernel, by decide +kernel⟩
theorem ok_result (B : Bl mg) (hVE : mg "ValueError" = none) (gW : mg "WishError" = some (.ref CW)) (TP : ErrN K mg "BadPattern" CP) (TR : ErrN K mg "BadRow" CR) (xPP : PySem.W.exmOne K (.ref CP) (.ref CP) = some true) (xRP : PySem.W.exmOne K (.ref CR) (.ref CP) = some false) (xRR : PySem.W.exmOne K (.ref CR) (.ref CR) = some true)
    (EP : EK K CP CW CR) (ER : EK K CR CW CP) (C : CalX P w K mg base "fits" ["pattern", "routers"] 6 (spFits CP CR)) (F : FnP K "_law_result" sResult f fd) : FnOk P w K mg base CX0 7 f fd ["_law_pattern", "_law_routers"] spResult := by
  obtain ⟨fC, fdC, FC, gC, kC, bC⟩ := C.ex
  refine F.ok scResult (fun vs H Q E h => ?_) (fun cdv A outer s H vs Q E hr h => ?_)
  · obtain ⟨z, ⟨v1, v2, rfl, _⟩, _⟩ := h
    rfl
  · obtain ⟨z, ⟨v1, v2, rfl, h⟩, k⟩ := h
    refine ⟨_, pss_cons (ps_set (i := 2) scResult.nd rfl (Or.inl rfl) pe_str)
      (pss_cons (ps_set (i := 3) scResult.nd rfl (Or.inl rfl) pe_non)
      (pss_cons (ps_try_clauses (i := 5) rfl rfl scResult.nd rfl rfl takes0
          (fun W pn xe tk _ => pss_cons (ps_set (i := 4) scResult.nd rfl (Or.inl rfl) (pe_callS FC hr (by rfl) gC kC bC (fun σ => passAt tk σ) (pa_cons (pv 0) (pa_cons (pv 1) pa_nil))))
            (pss_one (ps_if (pt_not (pt_val (pe_callB (call_isiK (K := K) rfl) (by rfl) B.isi boot_isinstance (pa_cons (pv 4) (pa_cons (pe_bltn (v := .ty "bool") (by rfl) B.bool PyProof.Rows.boot_bool rfl) pa_nil))))) (pss_one (ps_set (i := 2) scResult.nd rfl (Or.inl rfl) pe_str)) pss_nil)))
          (.cons ⟨rfl, by decide, .inl TP.g⟩
            (fun a oe cls d pn hz hf => pss_when (c := cls = .ref CP ∧ d = none) fun hc => pss_cons (ps_set (i := 2) scResult.nd rfl (Or.inl rfl) pe_str) (pss_one (ps_set (i := 3) scResult.nd rfl (Or.inl rfl) (pe_lst
              (pa_cons (pe_callB (call_isEK (K := K) rfl EP.ex (by rw [← hc.1, ← hc.2]; exact hz) hf) (by rfl) B.isi boot_isinstance (pa_cons (pv 5) (pa_cons (pe_glob (v := .ref CW) (by rfl) gW rfl) pa_nil)))
              (pa_cons (pe_callB (call_isEK (K := K) rfl EP.ex (by rw [← hc.1, ← hc.2]; exact hz) hf) (by rfl) B.isi boot_isinstance (pa_cons (pv 5) (pa_cons (pe_bltn (v := .ty "ValueError") (by rfl) hVE boot_ValueError rfl) pa_nil)))
              (pa_cons (pe_callB (call_isEK (K := K) rfl EP.ex (by rw [← hc.1, ← hc.2]; exact hz) hf) (by rfl) B.isi boot_isinstance (pa_cons (pv 5) (pa_cons (pe_glob (v := .ref CR) (by rfl) TR.g rfl) pa_nil))) pa_nil)))))))
          (.cons ⟨rfl, by decide, .inl TR.g⟩
            (fun a oe cls d pn hz hf => pss_when (c := cls = .ref CR ∧ d = none) fun hc => pss_cons (ps_set (i := 2) scResult.nd rfl (Or.inl rfl) pe_str) (pss_one (ps_set (i := 3) scResult.nd rfl (Or.inl rfl) (pe_lst
              (pa_cons (pe_callB (call_isEK (K := K) rfl ER.ex (by rw [← hc.1, ← hc.2]; exact hz) hf) (by rfl) B.isi boot_isinstance (pa_cons (pv 5) (pa_cons (pe_glob (v := .ref CW) (by rfl) gW rfl) pa_nil)))
              (pa_cons (pe_callB (call_isEK (K := K) rfl ER.ex (by rw [← hc.1, ← hc.2]; exact hz) hf) (by rfl) B.isi boot_isinstance (pa_cons (pv 5) (pa_cons (pe_bltn (v := .ty "ValueError") (by rfl) hVE boot_ValueError rfl) pa_nil)))
              (pa_cons (pe_callB (call_isEK (K := K) rfl ER.ex (by rw [← hc.1, ← hc.2]; exact hz) hf) (by rfl) B.isi boot_isinstance (pa_cons (pv 5) (pa_cons (pe_glob (v := .ref CP) (by rfl) TP.g rfl) pa_nil))) pa_nil))))))) .nil)))
      (pss_cons (ps_if (PW.pt (pw_and (pt_cmpR op_notN (pv 3) pe_non (nomark _)) (pw_and1 (pt_cmpR (op_neD hr.units) (pv 3) (pe_lst (pa_cons pe_bl (pa_cons pe_bl (pa_cons pe_bl pa_nil)))) (nomark _))))) (pss_one (ps_ret pe_str)) pss_nil)
      (pss_one (ps_ret (pv 2)))))), ?_⟩
    refine q_c ?_
    refine q_c ?_
    change tSeq _ _ _ [some v1, some v2, some (.str "let"), some .non, none, none] H
    have fin : ∀ {a : Str} {l : Addr} {o4 : Option V} {H1 : Hp}, Ex H H1 → H1 l = some (.lst [.bl true, .bl true, .bl false]) → z = .str a → ∀ {D : Ends} {te : TE}, D.rt = Q → tSeq (tIfS (tAnd (tTest (tOp (fun x y H Q => y = .non ∧ Q (.bl (!decide (x = .non))) H) (tVar 3) (tC .non))) (tTest (tOp (rNeD K) (tVar 3) (tLst (tCons (tC (.bl true)) (tCons (tC (.bl true)) (tCons (tC (.bl false)) tNil))))))) (tRet te) tNext) (tRet (tVar 2)) D [some v1, some v2, some (.str a), some (.ref l), o4, none] H1 := fun {a l o4 H1} e1 hl hz {D te} hD => by
      refine q_when (b := true && !PyData.eqv (.list [.bool true, .bool true, .bool false]) (.list [.bool true, .bool true, .bool false])) (et_and (et_test (ev_op (x := .ref l) (y := .non) (ev_var rfl) ev_c fun H2 _ Q2 q2 => ⟨rfl, q2 H2 (Ex.refl _)⟩)) fun _ => et_test (ev_opL (x := .ref l) (xs := [.bl true, .bl true, .bl false]) (ev_var rfl) (el_lst (ea_cons ev_c (ea_cons ev_c (ea_cons ev_c ea_nil))) (by show 3 ≤ _; decide)) fun p H2 hp e2 H3 e3 Q3 q3 => ?_)) (fun hb => ?_) (fun _ H2 e2 => ⟨.str a, rfl, ?_⟩)
      · have dq : ∀ {r : Addr}, H3 r = some (.lst [.bl true, .bl true, .bl false]) → Dp K H3 (.ref r) (.list [.bool true, .bool true, .bool false]) := fun hr => Dq.dp (by decide +kernel) (.lst hr (.cons (.bl _) (.cons (.bl _) (.cons (.bl _) .nil))))
        exact ⟨_, _, dq ((e2.trans e3) _ _ hl), dq (e3 _ _ hp), by decide +kernel, by decide +kernel, q3 H3 (Ex.refl _)⟩
      · exact absurd hb (by decide +kernel)
      · rw [hD, ← hz]
        exact k H2 (e1.trans e2)
    refine ⟨v1, rfl, v2, rfl, v1, v2, rfl, ?_⟩
    rcases h with ⟨d, hd, hb, hz⟩ | ⟨its, d, hP, hd, hl, hb, hz⟩ | ⟨its, rs, hP, hR, hz⟩
    · refine .inl ⟨d, hd, hb, fun H1 e1 => ⟨true, xPP, fun _ a ha => ?_, fun z => Bool.noConfusion z⟩⟩
      refine ⟨⟨rfl, rfl⟩, ?_⟩
      refine q_c ?_
      change tAsg _ _ _ [some v1, some v2, some (.str "pattern"), some .non, none, some (.ref a)] H1
      refine ⟨.ref a, rfl, .ref CW, _, true, rfl, fun u hu => hu, EP.k1, .ref a, rfl, .ty "ValueError", _, true, rfl, fun u hu => hu, EP.k2, .ref a, rfl, .ref CR, _, false, rfl, fun u hu => hu, EP.k3, ?_⟩
      refine ⟨by show 3 ≤ sizeLine; decide, fun l hl => ?_⟩
      refine g_name ?_
      exact fin (e1.trans (Ex.new hl)) upd_same hz rfl
    · refine .inr (.inl ⟨its, d, hP, hd, hl, hb, fun H1 e1 => ⟨false, xRP, (fun z => Bool.noConfusion z), fun _ => ⟨true, xRR, fun _ a ha => ?_, fun z => Bool.noConfusion z⟩⟩⟩)
      refine ⟨⟨rfl, rfl⟩, ?_⟩
      refine q_c ?_
      change tAsg _ _ _ [some v1, some v2, some (.str "row"), some .non, none, some (.ref a)] H1
      refine ⟨.ref a, rfl, .ref CW, _, true, rfl, fun u hu => hu, ER.k1, .ref a, rfl, .ty "ValueError", _, true, rfl, fun u hu => hu, ER.k2, .ref a, rfl, .ref CP, _, false, rfl, fun u hu => hu, ER.k3, ?_⟩
      refine ⟨by show 3 ≤ sizeLine; decide, fun l hl => ?_⟩
      refine g_name ?_
      exact fin (e1.trans (Ex.new hl)) upd_same hz rfl
    · refine .inr (.inr ⟨its, rs, hP, hR, fun H1 e1 => ?_⟩)
      refine g_name ?_
      dsimp only
      change tIfS _ _ _ _ [some v1, some v2, some (.str "let"), some .non, some (.bl (mt its rs)), none] H1
      refine s_when (b := !true) (et_not (et_B (ev_isi (ev_var rfl) (.bl _) k_bb))) (fun z => by cases z) (fun _ H2 e2 => ?_)
      dsimp only
      change tSeq _ _ _ [some v1, some v2, some (.str "let"), some .non, some (.bl (mt its rs)), none] H2
      refine q_when (b := false && false) (et_and (et_test (ev_op (x := .non) (y := .non) (ev_var rfl) ev_c fun H3 _ Q3 q3 => ⟨rfl, q3 H3 (Ex.refl _)⟩)) fun z => by cases z) (fun hb => by cases hb) (fun _ H3 e3 => ⟨.str "let", rfl, ?_⟩)
      rw [← hz]
      exact k H3 ((e1.trans e2).trans e3)
end
end Wk

set_option Elab.async false
set_option linter.all false
set_option maxRecDepth 100000
set_option maxHeartbeats 4000000
namespace Wk
open PySem PySem.Spec PyProof.Rows L2 Evl
theorem bad_int {i : Int} (h : i < 0 ∨ 8 ≤ i) : isR 8 (.int i) = false := by
  show (true && (decide (0 ≤ i) && decide (i ≤ 8 - 1))) = false
  rcases h with h | h
  · rw [decide_eq_false (show ¬ 0 ≤ i by omega)]
    rfl
  · rw [decide_eq_false (show ¬ i ≤ 8 - 1 by omega)]
    simp
section
variable {P : Program} {w : World} {K : PySem.W.Frag} {mg : Str → Option Value} {base : Heap} {f : Addr} {fd : FuncData}
/-! _law_items -/
def spItems : Sp := fun vs H Q _ => ∃ (G : Hp) (p q : Addr) (m : Nat), vs = [.ref p, .int (m : Int)] ∧ Pm G H p q ∧ m ≤ 12 ∧ ∀ G' H' t its, Ex G G' → Pm G' H' p q → G' t = some (.tup (List.map itV its)) → ItOk its → its.length = m → Q (.ref t) H'
abbrev sItems : Stmt := top 20
abbrev nItems : List Str := ["_law_pool_here", "_law_many", "_law_found", "_law_k", "_law_kind"]
theorem scItems : FnScope nItems ["_law_pool_here", "_law_many"] (defScope sItems) := ⟨rfl, rfl, rfl, by decide +kernel, rfl, by decide +kernel, by decide +kernel⟩
theorem ok_items (B : Bl mg) (C : Cal P w K mg base "_law_draw" ["_law_pool_here", "_law_many"] 1 spDraw) (F : FnP K "_law_items" sItems f fd) : FnOk P w K mg base CX0 2 f fd ["_law_pool_here", "_law_many"] spItems := by
  refine F.ok scItems (fun vs H Q E h => ?_) (fun cdv A outer s H vs Q E hr h => ?_)
  · obtain ⟨G, p, q, m, rfl, _⟩ := h
    rfl
  · obtain ⟨G, p, q, m, rfl, hP, hm, k⟩ := h
    refine ⟨_, pss_cons (ps_set (i := 2) scItems.nd rfl (Or.inl rfl) (pe_lst pa_nil))
      (pss_cons (ps_for (passes_of rfl) rfl (pi_range1 (by rfl) B.range (pa_cons (pv 1) pa_nil)) (pg_name (i := 3) scItems.nd rfl (Or.inl rfl))
        (pss_cons (ps_set (i := 4) scItems.nd rfl (Or.inl rfl) (pe_cal C hr (by rfl) (pa_cons (pv 0) (pa_cons pe_int pa_nil))))
        (pss_one (ps_if (pt_cmpR op_eq (pv 4) pe_int (nomark _)) (pss_one (ps_expr (pe_bm PySem.F.plainAttrs_list PySem.F.slot_list_append PySem.F.type_list_append mt_append (pv 2) (pa_cons pe_str pa_nil))))
          (pss_one (ps_if (pt_cmpR op_eq (pv 4) pe_int (nomark _)) (pss_one (ps_expr (pe_bm PySem.F.plainAttrs_list PySem.F.slot_list_append PySem.F.type_list_append mt_append (pv 2) (pa_cons pe_str pa_nil))))
            (pss_one (ps_expr (pe_bm PySem.F.plainAttrs_list PySem.F.slot_list_append PySem.F.type_list_append mt_append (pv 2) (pa_cons (pe_cal C hr (by rfl) (pa_cons (pv 0) (pa_cons pe_int pa_nil))) pa_nil))))))))))
      (pss_one (ps_ret (pe_callTy (call_tupleK (K := K) rfl) (by rfl) B.tuple PyProof.Rows.boot_tuple (pa_cons (pv 2) pa_nil))))), ?_⟩
    refine ⟨by show 0 ≤ sizeLine; decide, fun D hD => ?_⟩
    have hP0 := hP.ext (Ex.new (o := .lst ([] : List V)) hD)
    have gD := fresh_back hP.ex hD
    have Dp := hP.np hD
    have hD0 : (upd H D (.lst ([] : List V))) D = some (.lst []) := upd_same
    generalize upd H D (.lst ([] : List V)) = H0 at *
    refine g_name ?_
    refine ⟨.int (m : Int), rfl, (m : Int), rfl, by omega, by omega, for_range (lo := 0) (n := ((m : Int)).toNat) (fun i σ' H' => ∃ (its : List It) (o3 o4 : Option V), σ' = [some (.ref p), some (.int (m : Int)), some (.ref D), o3, o4] ∧ Pm G H' p q ∧ H' D = some (.lst (its.map itV)) ∧ ItOk its ∧ its.length = i)
      ⟨[], none, none, rfl, hP0, hD0, (fun n hn => by cases hn), by simp⟩ ?_ ?_⟩
    · rintro i σ' H2 hi ⟨its, o3, o4, rfl, hP2, hD2, hok, hl⟩
      have hi : i < 12 := by omega
      refine g_name ?_
      refine ⟨.ref p, rfl, _, p, q, 4, rfl, hP2.hd, by decide, by decide, fun H3 kd hP3h hk0 hk1 => ?_⟩
      have hP3 := hP2.back hP3h
      have hD3 := hP3h.off _ _ Dp hD2
      refine g_name ?_
      have put : ∀ (x : It) (H4 : Hp), Pm G H4 p q → H4 D = some (.lst (its.map itV)) → ItOk [x] → ∃ its', (upd H4 D (.lst (its.map itV ++ [itV x]))) D = some (.lst (List.map itV its')) ∧ Pm G (upd H4 D (.lst (its.map itV ++ [itV x]))) p q ∧ ItOk its' ∧ its'.length = i + 1 := fun x H4 hP4 hD4 hx =>
        ⟨its ++ [x], by rw [List.map_append]; exact upd_same, hP4.mut gD Dp, itOk_app hok hx, by simp; omega⟩
      dsimp only
      refine s_if (b := decide (V.int kd = V.int 0)) (et_test (ev_op (r := rEq) (x := .int kd) (y := .int 0) (ev_var rfl) ev_c (rv_eq rfl))) (fun _ H4 e4 => ?_) (fun _ H4 e4 => ?_)
      · refine ⟨.ref D, rfl, .inl ⟨rfl, _, sq_of (e4 _ _ hD3)⟩, D, _, .str "any", rfl, rfl, e4 _ _ hD3, by rw [List.length_map, sizeLine_eq]; omega, ?_⟩
        obtain ⟨its', a1, a2, a3, a4⟩ := put .any H4 (hP3.ext e4) (e4 _ _ hD3) (fun n hn => by simp at hn)
        exact ⟨its', _, _, rfl, a2, a1, a3, a4⟩
      have hP4 := hP3.ext e4
      have hD4 := e4 _ _ hD3
      refine s_if (b := decide (V.int kd = V.int 1)) (et_test (ev_op (r := rEq) (x := .int kd) (y := .int 1) (ev_var rfl) ev_c (rv_eq rfl))) (fun _ H5 e5 => ?_) (fun _ H5 e5 => ?_)
      · refine ⟨.ref D, rfl, .inl ⟨rfl, _, sq_of (e5 _ _ hD4)⟩, D, _, .str "one", rfl, rfl, e5 _ _ hD4, by rw [List.length_map, sizeLine_eq]; omega, ?_⟩
        obtain ⟨its', a1, a2, a3, a4⟩ := put .one H5 (hP4.ext e5) (e5 _ _ hD4) (fun n hn => by simp at hn)
        exact ⟨its', _, _, rfl, a2, a1, a3, a4⟩
      have hP5 := hP4.ext e5
      have hD5 := e5 _ _ hD4
      refine ⟨.ref D, rfl, .inl ⟨rfl, _, sq_of hD5⟩, .ref p, rfl, _, p, q, 8, rfl, hP5.hd, by decide, by decide, fun H7 y h7 hy0 hy1 => ?_⟩
      obtain ⟨n, rfl⟩ : ∃ n : Nat, y = (n : Int) := ⟨y.toNat, by omega⟩
      have hD7 := h7.off _ _ Dp hD5
      refine ⟨D, _, .int (n : Int), rfl, rfl, hD7, by rw [List.length_map, sizeLine_eq]; omega, ?_⟩
      obtain ⟨its', a1, a2, a3, a4⟩ := put (.at_ n) H7 (hP5.back h7) hD7 (fun m hm => by simp at hm; omega)
      exact ⟨its', _, _, rfl, a2, a1, a3, a4⟩
    · rintro σ' H2 ⟨its, o3, o4, rfl, hP2, hD2, hok, hl⟩
      dsimp only
      refine ret_cb ⟨.ref D, rfl, D, _, rfl, .inl ⟨sq_of hD2, fun t ht => ?_⟩⟩
      have gt := fresh_back hP2.ex ht
      exact k _ _ t its (Ex.new gt) (hP2.new ht) upd_same hok (by omega)
/-! _law_bad_item -/
def spBadItem : Sp := fun vs H Q _ => ∃ (G : Hp) (p q : Addr), vs = [.ref p] ∧ Pm G H p q ∧ ∀ G' H' v d, Ex G G' → Pm G' H' p q → Dq G' v d → isItD d = false → isR 8 d = false → Q v H'
abbrev sBadItem : Stmt := top 21
abbrev nBadItem : List Str := ["_law_pool_here", "_law_number", "_law_pick"]
theorem scBadItem : FnScope nBadItem ["_law_pool_here"] (defScope sBadItem) := ⟨rfl, rfl, rfl, by decide +kernel, rfl, by decide +kernel, by decide +kernel⟩
theorem ok_badItem (B : Bl mg) (C : Cal P w K mg base "_law_draw" ["_law_pool_here", "_law_many"] 1 spDraw) (F : FnP K "_law_bad_item" sBadItem f fd) : FnOk P w K mg base CX0 2 f fd ["_law_pool_here"] spBadItem := by
  refine F.ok scBadItem (fun vs H Q E h => ?_) (fun cdv A outer s H vs Q E hr h => ?_)
  · obtain ⟨G, p, q, rfl, _⟩ := h
    rfl
  · obtain ⟨G, p, q, rfl, hP, k⟩ := h
    refine ⟨_, pss_cons (ps_set (i := 1) scBadItem.nd rfl (Or.inl rfl) (pe_cal C hr (by rfl) (pa_cons (pv 0) (pa_cons (pe_op op_pow pe_int pe_int) pa_nil))))
      (pss_cons (ps_set (i := 2) scBadItem.nd rfl (Or.inl rfl) (pe_cal C hr (by rfl) (pa_cons (pv 0) (pa_cons pe_int pa_nil))))
      (pss_cons (ps_if (pt_cmpR op_eq (pv 2) pe_int (nomark _)) (pss_one (ps_ret (pe_op op_add pe_int (pv 1)))) pss_nil)
      (pss_cons (ps_if (pt_cmpR op_eq (pv 2) pe_int (nomark _)) (pss_one (ps_ret (pe_op op_sub (pe_op op_sub pe_int pe_int) (pv 1)))) pss_nil)
      (pss_cons (ps_if (pt_cmpR op_eq (pv 2) pe_int (nomark _)) (pss_one (ps_ret pe_int)) pss_nil)
      (pss_cons (ps_if (pt_cmpR op_eq (pv 2) pe_int (nomark _)) (pss_one (ps_ret (pe_cmpR op_eq (pe_op op_mod (pe_callTy call_int1 (by rfl) B.int PyProof.Rows.boot_int (pa_cons (pv 1) pa_nil)) pe_int) pe_int (nomark _)))) pss_nil)
      (pss_cons (ps_if (pt_cmpR op_eq (pv 2) pe_int (nomark _)) (pss_one (ps_ret pe_non)) pss_nil)
      (pss_cons (ps_if (pt_cmpR op_eq (pv 2) pe_int (nomark _)) (pss_one (ps_ret (pe_tup (pa_cons (pe_op op_mod (pe_callTy call_int1 (by rfl) B.int PyProof.Rows.boot_int (pa_cons (pv 1) pa_nil)) pe_int) pa_nil)))) pss_nil)
      (pss_cons (ps_if (pt_cmpR op_eq (pv 2) pe_int (nomark _)) (pss_one (ps_ret (pe_lst (pa_cons (pe_op op_mod (pe_callTy call_int1 (by rfl) B.int PyProof.Rows.boot_int (pa_cons (pv 1) pa_nil)) pe_int) pa_nil)))) pss_nil)
      (pss_one (ps_ret (pe_ix ix_list (pe_lst (pa_cons pe_str (pa_cons pe_str (pa_cons pe_str (pa_cons pe_str (pa_cons pe_str (pa_cons pe_str pa_nil))))))) (pe_op op_sub (pv 2) pe_int) (fun _ _ => rfl)))))))))))), ?_⟩
    refine ⟨.ref p, rfl, 10, 20, rfl, rfl, ⟨by decide, by decide, by decide⟩, _, p, q, _, rfl, hP.hd, by decide, by decide, fun H1 n h1 hn0 hn1 => ?_⟩
    have hP1 := hP.back h1
    refine g_name ?_
    refine ⟨.ref p, rfl, _, p, q, 13, rfl, hP1.hd, by decide, by decide, fun H2 pk h2 hk0 hk1 => ?_⟩
    have hP2 := hP1.back h2
    refine g_name ?_
    change tSeq _ _ _ [some (.ref p), some (.int n), some (.int pk)] H2
    clear hP1 h1 h2 hP
    refine q_when (b := decide (V.int pk = V.int 0)) (et_test (ev_op (ev_var rfl) ev_c (rv_eq rfl))) (fun _ H3 e3 => ⟨.int n, rfl, 8, n, rfl, rfl, k G H3 _ (.int (8 + n)) (Ex.refl _) (hP2.ext e3) (.int _) (bad_int (.inr (by omega))) (bad_int (.inr (by omega)))⟩) (fun hb0 H3 e3 => ?_)
    have hP3 := hP2.ext e3
    refine q_when (b := decide (V.int pk = V.int 1)) (et_test (ev_op (ev_var rfl) ev_c (rv_eq rfl))) (fun _ H4 e4 => ⟨0, 1, rfl, rfl, .int n, rfl, _, n, rfl, rfl, k G H4 _ (.int (0 - 1 - n)) (Ex.refl _) (hP3.ext e4) (.int _) (bad_int (.inl (by omega))) (bad_int (.inl (by omega)))⟩) (fun hb1 H4 e4 => ?_)
    have hP4 := hP3.ext e4
    refine q_when (b := decide (V.int pk = V.int 2)) (et_test (ev_op (ev_var rfl) ev_c (rv_eq rfl))) (fun _ H5 e5 => k G H5 _ (.int 8) (Ex.refl _) (hP4.ext e5) (.int _) (bad_int (.inr (by omega))) (bad_int (.inr (by omega)))) (fun hb2 H5 e5 => ?_)
    have hP5 := hP4.ext e5
    refine q_when (b := decide (V.int pk = V.int 3)) (et_test (ev_op (ev_var rfl) ev_c (rv_eq rfl))) (fun _ H6 e6 => ⟨.int n, rfl, .inl ⟨_, rfl, _, 2, rfl, rfl, (show (0 : Int) < 2 by decide), rfl, k G H6 _ (.bool _) (Ex.refl _) (hP5.ext e6) (.bl _) rfl rfl⟩⟩) (fun hb3 H6 e6 => ?_)
    have hP6 := hP5.ext e6
    refine q_when (b := decide (V.int pk = V.int 4)) (et_test (ev_op (ev_var rfl) ev_c (rv_eq rfl))) (fun _ H7 e7 => k G H7 _ .none (Ex.refl _) (hP6.ext e7) .non rfl rfl) (fun hb4 H7 e7 => ?_)
    have hP7 := hP6.ext e7
    refine q_when (b := decide (V.int pk = V.int 5)) (et_test (ev_op (ev_var rfl) ev_c (rv_eq rfl))) (fun _ H8 e8 => ⟨.int n, rfl, .inl ⟨_, rfl, _, 8, rfl, rfl, (show (0 : Int) < 8 by decide), by show 1 ≤ sizeLine; decide, fun t ht => k _ _ _ (.tuple [.int (n % 8)]) (Ex.new (fresh_back (hP7.ext e8).ex ht)) ((hP7.ext e8).new ht) (.tup upd_same (.cons (.int _) .nil)) rfl rfl⟩⟩) (fun hb5 H8 e8 => ?_)
    have hP8 := hP7.ext e8
    refine q_when (b := decide (V.int pk = V.int 6)) (et_test (ev_op (ev_var rfl) ev_c (rv_eq rfl))) (fun _ H9 e9 => ⟨.int n, rfl, .inl ⟨_, rfl, _, 8, rfl, rfl, (show (0 : Int) < 8 by decide), by show 1 ≤ sizeLine; decide, fun t ht => k _ _ _ (.list [.int (n % 8)]) (Ex.new (fresh_back (hP8.ext e9).ex ht)) ((hP8.ext e9).new ht) (.lst upd_same (.cons (.int _) .nil)) rfl rfl⟩⟩) (fun hb6 H9 e9 => ?_)
    have hP9 := hP8.ext e9
    refine ⟨by show 6 ≤ sizeLine; decide, fun l hl => ⟨.int pk, rfl, pk, 7, rfl, rfl, ?_⟩⟩
    have hPl := hP9.ext (Ex.new (o := .lst [V.str "two", .str "ONE", .str "an", .str "", .str "any ", .str "0"]) hl)
    have ne : ∀ {j : Int}, decide (V.int pk = V.int j) = false → pk ≠ j := fun h z => by rw [z] at h; simp at h
    have n0 := ne hb0; have n1 := ne hb1; have n2 := ne hb2; have n3 := ne hb3; have n4 := ne hb4; have n5 := ne hb5; have n6 := ne hb6
    rcases (show pk = 7 ∨ pk = 8 ∨ pk = 9 ∨ pk = 10 ∨ pk = 11 ∨ pk = 12 by omega) with rfl | rfl | rfl | rfl | rfl | rfl
    all_goals exact ⟨l, _, _, .str _, rfl, rfl, sq_of upd_same, rfl, k G _ _ (.str _) (Ex.refl _) hPl (.str _) (by decide +kernel) rfl⟩
end
end Wk

set_option Elab.async false
set_option linter.all false
set_option maxRecDepth 100000
set_option maxHeartbeats 4000000
namespace Wk
open PySem PySem.Spec PyProof.Rows L2 Evl
/-- no tuple, or one with a wrong item -/
def BadT (f : PyData → Bool) (d : PyData) : Prop := isTu d = false ∨ ∃ x, x ∈ itemsT d ∧ f x = false
theorem all_bad {f : PyData → Bool} {l : List PyData} (h : ∃ x, x ∈ l ∧ f x = false) : l.all f = false := by
  obtain ⟨x, hx, hf⟩ := h
  cases hc : l.all f with
  | false => rfl
  | true =>
    rw [List.all_eq_true.mp hc x hx] at hf
    cases hf
theorem bad_pat {d : PyData} (h : BadT isItD d) : isPatD d = false := by
  unfold isPatD
  rcases h with h | h
  · rw [h]
    rfl
  · rw [all_bad h]
    simp
theorem bad_rt {d : PyData} (h : BadT (isR 8) d) : isRtD d = false := by
  unfold isRtD
  rcases h with h | h
  · rw [h]
    rfl
  · rw [all_bad h]
    simp
section
variable {P : Program} {w : World} {K : PySem.W.Frag} {mg : Str → Option Value} {base : Heap} {f : Addr} {fd : FuncData}
/-! _law_spoiled -/
def spSpoiled : Sp := fun vs H Q _ => ∃ (G : Hp) (p q t : Addr) (xs : List V) (ds : List PyData) (wv : V) (f : PyData → Bool), vs = [.ref p, .ref t, wv] ∧ Pm G H p q ∧ G t = some (.tup xs) ∧ DqA G xs ds ∧ xs.length ≤ 9 ∧
  (∀ d, isItD d = false → isR 8 d = false → f d = false) ∧ (wv = .non ∨ ∃ s, wv = .str s ∧ f (.str s) = false) ∧
  ∀ G' H' v d, Ex G G' → Pm G' H' p q → Dq G' v d → (itemsT d).length ≤ 1000 → BadT f d → Q v H'
abbrev sSpoiled : Stmt := top 22
abbrev nSpoiled : List Str := ["_law_pool_here", "_law_thing", "_law_word", "_law_kind", "_law_place", "_law_bad"]
theorem scSpoiled : FnScope nSpoiled ["_law_pool_here", "_law_thing", "_law_word"] (defScope sSpoiled) := ⟨rfl, rfl, rfl, by decide +kernel, rfl, by decide +kernel, by decide +kernel⟩
theorem ok_spoiled (B : Bl mg) (C : Cal P w K mg base "_law_draw" ["_law_pool_here", "_law_many"] 1 spDraw) (C2 : Cal P w K mg base "_law_bad_item" ["_law_pool_here"] 2 spBadItem) (F : FnP K "_law_spoiled" sSpoiled f fd) : FnOk P w K mg base CX0 3 f fd ["_law_pool_here", "_law_thing", "_law_word"] spSpoiled := by
  refine F.ok scSpoiled (fun vs H Q E h => ?_) (fun cdv A outer s H vs Q E hr h => ?_)
  · obtain ⟨G, p, q, t, xs, ds, wv, f, rfl, _⟩ := h
    rfl
  · obtain ⟨G, p, q, t, xs, ds, wv, f, rfl, hP, gt, hxs, hl9, hf, hw, k⟩ := h
    refine ⟨_, pss_cons (ps_set (i := 3) scSpoiled.nd rfl (Or.inl rfl) (pe_cal C hr (by rfl) (pa_cons (pv 0) (pa_cons pe_int pa_nil))))
      (pss_cons (ps_set (i := 4) scSpoiled.nd rfl (Or.inl rfl) (pe_cal C hr (by rfl) (pa_cons (pv 0) (pa_cons (pe_op op_add (pe_callB call_len_seq (by rfl) B.len PySem.boot_len (pa_cons (pv 1) pa_nil)) pe_int) pa_nil))))
      (pss_cons (ps_if (pt_cmpR op_eq (pv 3) pe_int (nomark _)) (pss_one (ps_ret (pe_callTy (call_listK2 (K := K) rfl) (by rfl) B.list PyProof.Rows.boot_list (pa_cons (pv 1) pa_nil)))) pss_nil)
      (pss_cons (ps_if (pt_cmpR op_eq (pv 3) pe_int (nomark _)) (pss_one (ps_ret (pe_ix ix_list (pe_lst (pa_cons pe_non (pa_cons pe_str (pa_cons pe_int (pa_cons pe_bl (pa_cons pe_dnewK pa_nil)))))) (pe_cal C hr (by rfl) (pa_cons (pv 0) (pa_cons pe_int pa_nil))) (fun _ _ => rfl)))) pss_nil)
      (pss_cons (ps_if (PW.pt (pw_and (pt_cmpR op_eq (pv 3) pe_int (nomark _)) (pw_and1 (pt_cmpR op_notN (pv 2) pe_non (nomark _))))) (pss_one (ps_ret (pe_op op_catA (pe_op op_catA (pe_slice sl_tupA (pv 1) po_none (po_some (pv 4))) (pe_tup (pa_cons (pv 2) pa_nil))) (pe_slice sl_tupA (pv 1) (po_some (pv 4)) po_none)))) pss_nil)
      (pss_cons (ps_set (i := 5) scSpoiled.nd rfl (Or.inl rfl) (pe_cal C2 hr (by rfl) (pa_cons (pv 0) pa_nil)))
      (pss_cons (ps_if (PW.pt (pw_and (pt_cmpR op_eq (pv 3) pe_int (nomark _)) (pw_and1 (pt_cmpR op_lt (pv 4) (pe_callB call_len_seq (by rfl) B.len PySem.boot_len (pa_cons (pv 1) pa_nil)) (nomark _))))) (pss_one (ps_ret (pe_op op_catA (pe_op op_catA (pe_slice sl_tupA (pv 1) po_none (po_some (pv 4))) (pe_tup (pa_cons (pv 5) pa_nil))) (pe_slice sl_tupA (pv 1) (po_some (pe_op op_add (pv 4) pe_int)) po_none)))) pss_nil)
      (pss_one (ps_ret (pe_op op_catA (pe_op op_catA (pe_slice sl_tupA (pv 1) po_none (po_some (pv 4))) (pe_tup (pa_cons (pv 5) pa_nil))) (pe_slice sl_tupA (pv 1) (po_some (pv 4)) po_none)))))))))), ?_⟩
    have xl := hxs.length
    refine ⟨.ref p, rfl, _, p, q, 8, rfl, hP.hd, by decide, by decide, fun H1 kd h1 hk0 hk1 => ?_⟩
    have hP1 := hP.back h1
    refine g_name ?_
    refine ⟨.ref p, rfl, .ref t, rfl, t, _, rfl, .inr (st_of (hP1.ex _ _ gt)), (xs.length : Int), 1, rfl, rfl, _, p, q, _, rfl, hP1.hd, by omega, by omega, fun H2 pl h2 hp0 hp1 => ?_⟩
    have hP2 := hP1.back h2
    refine g_name ?_
    obtain ⟨i, rfl⟩ : ∃ i : Nat, pl = (i : Int) := ⟨pl.toNat, by omega⟩
    have hil : i ≤ xs.length := by omega
    clear hP1 h1 h2 hP
    change tSeq _ _ _ [some (.ref p), some (.ref t), some wv, some (.int kd), some (.int (i : Int)), none] H2
    have fin : ∀ {te tb : TE} {o5 : Option V} {G1 H4 : Hp} {x : V} {e : PyData} {j : Nat}, Ex G G1 → Pm G1 H4 p q → Dq G1 x e → f e = false → Ev tb [some (.ref p), some (.ref t), some wv, some (.int kd), some (.int (i : Int)), o5] H4 x → Ev te [some (.ref p), some (.ref t), some wv, some (.int kd), some (.int (i : Int)), o5] H4 (.int (j : Int)) → ∀ D : Ends, D.rt = Q →
        tRet (tOp (rCatA K) (tOp (rCatA K) (tSl (rSlA K) (tVar 1) tNoPart (tPart (tVar 4))) (tTup (tCons tb tNil))) (tSl (rSlA K) (tVar 1) (tPart te) tNoPart)) D [some (.ref p), some (.ref t), some wv, some (.int kd), some (.int (i : Int)), o5] H4 := fun {te tb o5 G1 H4 x e j} e1 hP4 hx hfe hb hj D hD => by
      have hu := (e1.trans hP4.ex) _ _ gt
      have z1 := es_sl (K := K) (te := tVar 1) (σ := [some (.ref p), some (.ref t), some wv, some (.int kd), some (.int (i : Int)), o5]) (ev_var rfl) eo_none (eo_some (ev_var (i := 4) rfl)) hu
      rw [cut_to _ i hil] at z1
      have z2 := es_sl (K := K) (te := tVar 1) (σ := [some (.ref p), some (.ref t), some wv, some (.int kd), some (.int (i : Int)), o5]) (ev_var rfl) (eo_some hj) eo_none hu
      rw [cut_fromG] at z2
      have tk := List.length_take_le i xs
      have dk : (xs.drop j).length ≤ xs.length := by rw [List.length_drop]; omega
      have z := es_cat (K := K) (es_cat (K := K) z1 (es_tup (ea_cons hb ea_nil) (by show 1 ≤ _; decide)) (by rw [List.length_singleton]; omega)) z2 (by rw [List.length_append, List.length_singleton]; omega)
      refine ret_S z fun r H5 e5 hr5 => ?_
      obtain ⟨G5, eG5, hP5, hG5⟩ := keepM (hP4.ext e5) hr5
      rw [hD]
      have hdq : DqA G5 (xs.take i ++ [x] ++ xs.drop j) (ds.take i ++ [e] ++ ds.drop j) := (((hxs.take i).mono e1).append (.cons hx .nil)).append ((hxs.drop j).mono e1) |>.mono eG5
      have tk2 := List.length_take_le i ds
      refine k G5 H5 _ (.tuple (ds.take i ++ [e] ++ ds.drop j)) (e1.trans eG5) hP5 (.tup hG5 hdq) ?_ (.inr ⟨e, by simp [itemsT], hfe⟩)
      show (ds.take i ++ [e] ++ ds.drop j).length ≤ 1000
      rw [List.length_append, List.length_append, List.length_singleton, List.length_drop]
      omega
    refine q_when (b := decide (V.int kd = V.int 0)) (et_test (ev_op (ev_var rfl) ev_c (rv_eq rfl))) (fun _ H3 e3 => ?_) (fun _ H3 e3 => ?_)
    · have hP3 := hP2.ext e3
      refine ret_cb ⟨.ref t, rfl, t, xs, rfl, .inr (st_of (hP3.ex _ _ gt)), fun l hl => ?_⟩
      have eg := Ex.new (o := .lst xs) (fresh_back hP3.ex hl)
      exact k _ _ _ (.list ds) eg (hP3.new hl) (.lst upd_same (hxs.mono eg)) (by show 0 ≤ 1000; decide) (.inl rfl)
    have hP3 := hP2.ext e3
    refine q_when (b := decide (V.int kd = V.int 1)) (et_test (ev_op (ev_var rfl) ev_c (rv_eq rfl))) (fun _ H4 e4 => ?_) (fun _ H4 e4 => ?_)
    · have hP4 := hP3.ext e4
      intro dd hdd
      have hPd := hP4.new (o := .dK []) hdd
      have eg := Ex.new (o := .dK []) (fresh_back hP4.ex hdd)
      have hdg : (upd G dd (.dK [])) dd = some (.dK []) := upd_same
      generalize upd H4 dd (.dK []) = H5 at *
      refine ⟨by show 5 ≤ sizeLine; decide, fun l hl => ?_⟩
      have hPl := hPd.ext (Ex.new (o := .lst [V.non, .str "any", .int 3, .bl true, .ref dd]) hl)
      have lp := hPd.np hl
      have hll : (upd H5 l (.lst [V.non, .str "any", .int 3, .bl true, .ref dd])) l = some (.lst [V.non, .str "any", .int 3, .bl true, .ref dd]) := upd_same
      generalize upd H5 l (.lst [V.non, .str "any", .int 3, .bl true, .ref dd]) = H6 at *
      refine ⟨.ref p, rfl, _, p, q, 5, rfl, hPl.hd, by decide, by decide, fun H7 y h7 hy0 hy1 => ?_⟩
      have hP7 := hPl.back h7
      have hl7 := h7.off _ _ lp hll
      rcases (show y = 0 ∨ y = 1 ∨ y = 2 ∨ y = 3 ∨ y = 4 by omega) with rfl | rfl | rfl | rfl | rfl
      · exact ⟨l, _, _, .non, rfl, rfl, sq_of hl7, rfl, k _ _ _ .none eg hP7 .non (by show 0 ≤ 1000; decide) (.inl rfl)⟩
      · exact ⟨l, _, _, .str _, rfl, rfl, sq_of hl7, rfl, k _ _ _ (.str _) eg hP7 (.str _) (by show 0 ≤ 1000; decide) (.inl rfl)⟩
      · exact ⟨l, _, _, .int _, rfl, rfl, sq_of hl7, rfl, k _ _ _ (.int _) eg hP7 (.int _) (by show 0 ≤ 1000; decide) (.inl rfl)⟩
      · exact ⟨l, _, _, .bl _, rfl, rfl, sq_of hl7, rfl, k _ _ _ (.bool _) eg hP7 (.bl _) (by show 0 ≤ 1000; decide) (.inl rfl)⟩
      · exact ⟨l, _, _, .ref dd, rfl, rfl, sq_of hl7, rfl, k _ _ _ (.dict []) eg hP7 (.dic hdg) (by show 0 ≤ 1000; decide) (.inl rfl)⟩
    have hP4 := hP3.ext e4
    refine q_when (b := decide (V.int kd = V.int 2) && !decide (wv = .non)) (et_and (et_test (ev_op (ev_var rfl) ev_c (rv_eq rfl))) fun _ => et_test (ev_op (x := wv) (y := .non) (ev_var rfl) ev_c fun H2 _ Q2 q2 => ⟨rfl, q2 H2 (Ex.refl _)⟩)) (fun hb H5 e5 => ?_) (fun _ H5 e5 => ?_)
    · have hnn : wv ≠ .non := by
        obtain ⟨_, h2⟩ := Bool.and_eq_true_iff.mp hb
        simpa using h2
      obtain ⟨sv, rfl, hsv⟩ := hw.resolve_left hnn
      exact fin (Ex.refl _) (hP4.ext e5) (.str sv) hsv (ev_var rfl) (ev_var rfl) _ rfl
    have hP5 := hP4.ext e5
    refine ⟨.ref p, rfl, G, p, q, rfl, hP5, fun G6 H6 v e eG6 hP6 hv he1 he2 => ?_⟩
    refine g_name ?_
    change tSeq _ _ _ [some (.ref p), some (.ref t), some wv, some (.int kd), some (.int (i : Int)), some v] H6
    have hfe := hf e he1 he2
    refine q_when (b := decide (V.int kd = V.int 3) && decide ((i : Int) < (xs.length : Int))) (et_and (et_test (ev_op (ev_var rfl) ev_c (rv_eq rfl))) fun _ => et_test (ev_op (r := rI0 fun i j => .bl (decide (i < j))) (x := .int (i : Int)) (y := .int (xs.length : Int)) (ev_var rfl) (ev_lenT (ev_var (i := 1) rfl) (st_of ((eG6.trans hP6.ex) _ _ gt))) rv_I0)) (fun hb H7 e7 => ?_) (fun _ H7 e7 => ?_)
    · exact fin (j := i + 1) eG6 (hP6.ext e7) hv hfe (ev_var rfl) (ev_op (r := rI0 fun i j => .int (i + j)) (x := .int (i : Int)) (y := .int 1) (ev_var rfl) ev_c rv_I0) _ rfl
    · exact fin eG6 (hP6.ext e7) hv hfe (ev_var rfl) (ev_var rfl) _ rfl
end
end Wk

set_option Elab.async false
set_option linter.all false
set_option maxRecDepth 100000
set_option maxHeartbeats 4000000
namespace Wk
open PySem PySem.Spec PyProof.Rows L2 Evl
theorem long_pat {its : List It} (h : 9 ≤ its.length) : isPatD (.tuple (its.map itD)) = false := by
  show (true && (decide ((its.map itD).length ≤ 8) && (its.map itD).all isItD)) = false
  rw [List.length_map, decide_eq_false (show ¬ its.length ≤ 8 by omega)]
  rfl
section
variable {K : PySem.W.Frag} {σ : L2.St} {H : Hp} {ta tb : TE} {E : XK} {v1 v2 : V}
theorem ev_rP {d : PyData} (h1 : Ev ta σ H v1) (h2 : Ev tb σ H v2) (hd : Dq H v1 d) (hb : isPatD d = false) : Ev (tCall spResult [] E (tCons ta (tCons tb tNil))) σ H (.str "pattern") :=
  ev_call (ea_cons h1 (ea_cons h2 ea_nil)) (spP_v fun H2 e2 => ⟨v1, v2, rfl, .inl ⟨d, hd.mono e2, hb, rfl⟩⟩)
theorem ev_rR {its : List It} {d : PyData} (h1 : Ev ta σ H v1) (h2 : Ev tb σ H v2) (hp : GoodP H v1 its) (hd : Dq H v2 d) (hl : (itemsT d).length ≤ 1000) (hb : isRtD d = false) : Ev (tCall spResult [] E (tCons ta (tCons tb tNil))) σ H (.str "row") :=
  ev_call (ea_cons h1 (ea_cons h2 ea_nil)) (spP_v fun H2 e2 => ⟨v1, v2, rfl, .inr (.inl ⟨its, d, hp.up e2, hd.mono e2, hl, hb, rfl⟩)⟩)
theorem ev_rL {its : List It} {rs : List Nat} (h1 : Ev ta σ H v1) (h2 : Ev tb σ H v2) (hp : GoodP H v1 its) (hr : GoodR H v2 rs) : Ev (tCall spResult [] E (tCons ta (tCons tb tNil))) σ H (.str "let") :=
  ev_call (ea_cons h1 (ea_cons h2 ea_nil)) (spP_v fun H2 e2 => ⟨v1, v2, rfl, .inr (.inr ⟨its, rs, hp.up e2, hr.up e2, rfl⟩)⟩)
/-- a told word is the one that is due -/
theorem et_neS {te : TE} {a : Str} (h : Ev te σ H (.str a)) : EvT (tTest (tOp rNe te (tC (.str a)))) σ H false := by
  have z := et_test (ev_op (r := rNe) (tb := tC (.str a)) h ev_c (rv_ne (x := .str a) (y := .str a) rfl))
  simpa using z
end
section
variable {P : Program} {w : World} {K : PySem.W.Frag} {mg : Str → Option Value} {base : Heap} {f : Addr} {fd : FuncData}
/-! law -/
def spLaw (K : PySem.W.Frag) : Sp := fun vs H Q _ => ∃ (a : Addr) (ns : List Int), vs = [.ref a] ∧ SqL K H a (ns.map V.int) ∧ ns.length ≤ 63 ∧ ∀ H', Q (.bl true) H'
abbrev sLaw : Stmt := top 24
abbrev nLaw : List Str := ["_law_script", "_law_pool_here", "_law_which", "_law_pattern", "_law_routers", "_law_bad_pattern", "_law_bad_routers", "_law_k"]
theorem scLaw : FnScope nLaw ["_law_script"] (defScope sLaw) := ⟨rfl, rfl, rfl, by decide +kernel, rfl, by decide +kernel, by decide +kernel⟩
structure Cs (P : Program) (w : World) (K : PySem.W.Frag) (mg : Str → Option Value) (base : Heap) : Prop where
  pool : Cal P w K mg base "_law_pool" ["_law_script"] 1 (spPool K)
  draw : Cal P w K mg base "_law_draw" ["_law_pool_here", "_law_many"] 1 spDraw
  items : Cal P w K mg base "_law_items" ["_law_pool_here", "_law_many"] 2 spItems
  spoiled : Cal P w K mg base "_law_spoiled" ["_law_pool_here", "_law_thing", "_law_word"] 3 spSpoiled
  result : Cal P w K mg base "_law_result" ["_law_pattern", "_law_routers"] 7 spResult
theorem ok_law (B : Bl mg) (S : Cs P w K mg base) (F : FnP K "law" sLaw f fd) : FnOk P w K mg base CX0 8 f fd ["_law_script"] (spLaw K) := by
  refine F.ok scLaw (fun vs H Q E h => ?_) (fun cdv A outer s H vs Q E hr h => ?_)
  · obtain ⟨a, ns, rfl, _⟩ := h
    rfl
  · obtain ⟨a0, ns, rfl, hS, hns, k⟩ := h
    refine ⟨_, pss_cons (ps_set (i := 1) scLaw.nd rfl (Or.inr rfl) (pe_cal S.pool hr (by rfl) (pa_cons (pv 0) pa_nil)))
      (pss_cons (ps_set (i := 2) scLaw.nd rfl (Or.inl rfl) (pe_cal S.draw hr (by rfl) (pa_cons (pv 1) (pa_cons pe_int pa_nil))))
      (pss_cons (ps_set (i := 3) scLaw.nd rfl (Or.inl rfl) (pe_cal S.items hr (by rfl) (pa_cons (pv 1) (pa_cons (pe_cal S.draw hr (by rfl) (pa_cons (pv 1) (pa_cons pe_int pa_nil))) pa_nil))))
      (pss_cons (ps_set (i := 4) scLaw.nd rfl (Or.inl rfl) (pe_callTy (call_tupleK (K := K) rfl) (by rfl) B.tuple PyProof.Rows.boot_tuple (pa_cons
          (pe_lc (own := [("_law_k", 7)]) (g := gName 7) (tt := tYes) rfl scLaw.nd (pi_range1 (by rfl) B.range (pa_cons (pe_cal S.draw hr (by rfl) (pa_cons (pv 1) (pa_cons pe_int pa_nil))) pa_nil)) (blkOk_by (N := nLaw) (sc := defScope sLaw) (by decide +kernel))
            (fun _ _ _ _ _ => pg_name (i := 7) scLaw.nd rfl (Or.inl rfl)) (fun _ _ _ _ _ => pts_nil) (fun _ _ _ _ _ => pe_cal S.draw hr (by rfl) (pa_cons (pv 1) (pa_cons pe_int pa_nil)))) pa_nil)))
      (pss_cons (ps_set (i := 5) scLaw.nd rfl (Or.inl rfl) (pe_cal S.spoiled hr (by rfl) (pa_cons (pv 1) (pa_cons (pv 3) (pa_cons pe_non pa_nil)))))
      (pss_cut (ps_if (pt_cmpR op_eq (pe_cal S.draw hr (by rfl) (pa_cons (pv 1) (pa_cons pe_int pa_nil))) pe_int (nomark _)) (pss_one (ps_set (i := 5) scLaw.nd rfl (Or.inl rfl) (pe_cal S.items hr (by rfl) (pa_cons (pv 1) (pa_cons (pe_op op_add pe_int (pe_cal S.draw hr (by rfl) (pa_cons (pv 1) (pa_cons pe_int pa_nil)))) pa_nil))))) pss_nil)
      (pss_cons (ps_set (i := 6) scLaw.nd rfl (Or.inl rfl) (pe_cal S.spoiled hr (by rfl) (pa_cons (pv 1) (pa_cons (pv 4) (pa_cons (pe_ix ix_list (pe_lst (pa_cons pe_str (pa_cons pe_str pa_nil))) (pe_cal S.draw hr (by rfl) (pa_cons (pv 1) (pa_cons pe_int pa_nil))) (fun _ _ => rfl)) pa_nil)))))
      (pss_cons (ps_if (pt_cmpR op_ne (pe_cal S.result hr (by rfl) (pa_cons (pv 3) (pa_cons (pv 4) pa_nil))) pe_str (nomark _)) (pss_one (ps_ret pe_bl)) pss_nil)
      (pss_cons (ps_if (PW.pt (pw_and (pt_cmpR op_eq (pv 2) pe_int (nomark _)) (pw_and1 (pt_cmpR op_ne (pe_cal S.result hr (by rfl) (pa_cons (pv 5) (pa_cons (pv 4) pa_nil))) pe_str (nomark _))))) (pss_one (ps_ret pe_bl)) pss_nil)
      (pss_cons (ps_if (PW.pt (pw_and (pt_cmpR op_eq (pv 2) pe_int (nomark _)) (pw_and1 (pt_cmpR op_ne (pe_cal S.result hr (by rfl) (pa_cons (pv 3) (pa_cons (pv 6) pa_nil))) pe_str (nomark _))))) (pss_one (ps_ret pe_bl)) pss_nil)
      (pss_cons (ps_if (PW.pt (pw_and (pt_cmpR op_eq (pv 2) pe_int (nomark _)) (pw_and1 (pt_cmpR op_ne (pe_cal S.result hr (by rfl) (pa_cons (pv 5) (pa_cons (pv 6) pa_nil))) pe_str (nomark _))))) (pss_one (ps_ret pe_bl)) pss_nil)
      (pss_cons (ps_for (passes_of rfl) rfl (pi_range1 (by rfl) B.range (pa_cons pe_int pa_nil)) (pg_name (i := 7) scLaw.nd rfl (Or.inl rfl))
          (pss_one (ps_if (PW.pt (pw_or (pt_cmpR op_ne (pe_cal S.result hr (by rfl) (pa_cons (pv 5) (pa_cons (pv 4) pa_nil))) pe_str (nomark _)) (pw_or1 (pt_cmpR op_ne (pe_cal S.result hr (by rfl) (pa_cons (pv 3) (pa_cons (pv 6) pa_nil))) pe_str (nomark _))))) (pss_one (ps_ret pe_bl)) pss_nil)))
      (pss_one (ps_ret (pe_cmpR op_eq (pe_cal S.result hr (by rfl) (pa_cons (pv 3) (pa_cons (pv 4) pa_nil))) pe_str (nomark _))))))))))))))), ?_⟩
    refine ⟨.ref a0, rfl, a0, ns, rfl, hS, hns, fun G1 H1 p q _ hP1 => ?_⟩
    refine g_name ?_
    refine ⟨.ref p, rfl, _, p, q, 4, rfl, hP1.hd, by decide, by decide, fun H2 b h2 hb0 hb1 => ?_⟩
    have hP2 := hP1.back h2
    refine g_name ?_
    refine ⟨.ref p, rfl, .ref p, rfl, _, p, q, 9, rfl, hP2.hd, by decide, by decide, fun H3 m h3 hm0 hm1 => ?_⟩
    have hP3 := hP2.back h3
    obtain ⟨m, rfl⟩ : ∃ n : Nat, m = (n : Int) := ⟨m.toNat, by omega⟩
    refine ⟨G1, p, q, m, rfl, hP3, by omega, fun G4 H4 t its _ hP4 gt hok hl => ?_⟩
    refine g_name ?_
    clear hP1 hP2 hP3 h2 h3
    refine ⟨.ref p, rfl, _, p, q, 10, rfl, hP4.hd, by decide, by decide, fun H6 cnt h6 hc0 hc1 => ⟨cnt, rfl, by omega, by omega, fun D hD => ?_⟩⟩
    have hP6 := hP4.back h6
    have gD := fresh_back hP6.ex hD
    have Dp := hP6.np hD
    refine lc_range (lo := 0) (n := cnt.toNat) (fun i H' => ∃ rs : List Nat, Pm G4 H' p q ∧ H' D = some (.lst (rsV rs)) ∧ RsOk rs ∧ rs.length ≤ i) ⟨[], hP6.ext (Ex.new hD), upd_same, (fun n hn => by cases hn), by simp⟩ ?_ ?_
    · rintro i H7 hi ⟨rs, hP7, hD7, hrs, hl⟩
      refine ⟨rfl, .ref p, rfl, _, p, q, 8, rfl, hP7.hd, by decide, by decide, fun H8 y h8 hy0 hy1 => ?_⟩
      obtain ⟨n, rfl⟩ : ∃ n : Nat, y = (n : Int) := ⟨y.toNat, by omega⟩
      have hD8 := h8.off _ _ Dp hD7
      refine ⟨_, hD8, by rw [rsV_len, sizeLine_eq]; omega, rs ++ [n], (hP7.back h8).mut gD Dp, by rw [rsV_app]; exact upd_same, rsOk_app hrs (fun r hr => by rw [List.mem_singleton.mp hr]; omega), by simp; omega⟩
    rintro H7 ⟨rs, hP7, hD7, hrs, hrl⟩
    refine ⟨D, rsV rs, rfl, .inl ⟨sq_of hD7, fun u hu => ?_⟩⟩
    have e48 := Ex.new (o := .tup (rsV rs)) (fresh_back hP7.ex hu)
    have hP8 := hP7.new (o := .tup (rsV rs)) hu
    have gu : (upd G4 u (.tup (rsV rs))) u = some (.tup (rsV rs)) := upd_same
    generalize upd G4 u (.tup (rsV rs)) = G8 at *
    generalize upd H7 u (.tup (rsV rs)) = H8 at *
    have gt8 := e48 _ _ gt
    refine g_name ?_
    change tSeq _ _ _ [some (.ref a0), some (.ref p), some (.int b), some (.ref t), some (.ref u), none, none, none] H8
    clear hP4 hP6 hP7 hD hD7 h6 gt gD Dp
    have hP0 : GoodP G8 (.ref t) its := ⟨t, rfl, gt8, hok, by omega⟩
    have hR0 : GoodR G8 (.ref u) rs := ⟨u, rfl, gu, hrs, by omega⟩
    -- the spoiled pattern
    refine ⟨.ref p, rfl, .ref t, rfl, G8, p, q, t, _, _, .non, isItD, rfl, hP8, gt8, dq_its G8 its, by rw [List.length_map]; omega, fun d h _ => h, .inl rfl, fun G9 H9 v d e89 hP9 hv _ hbad => ?_⟩
    refine g_name ?_
    have hb9 := bad_pat hbad
    change tCut _ _ _ [some (.ref a0), some (.ref p), some (.int b), some (.ref t), some (.ref u), some v, none, none] H9
    refine q_cut (M := fun σ' H' => ∃ (G' : Hp) (v : V) (d : PyData), σ' = [some (.ref a0), some (.ref p), some (.int b), some (.ref t), some (.ref u), some v, none, none] ∧ Ex G8 G' ∧ Pm G' H' p q ∧ Dq G' v d ∧ isPatD d = false) ?_ ?_
    · refine ⟨.ref p, rfl, _, p, q, 4, rfl, hP9.hd, by decide, by decide, fun H10 y h10 hy0 hy1 => ⟨rfl, _, rfl, ?_⟩⟩
      have hP10 := hP9.back h10
      cases hy : decide (V.int y = V.int 0) with
      | false => exact ⟨G9, v, d, rfl, e89, hP10, hv, hb9⟩
      | true =>
        refine ⟨.ref p, rfl, .ref p, rfl, _, p, q, 4, rfl, hP10.hd, by decide, by decide, fun H11 y2 h11 hz0 hz1 => ?_⟩
        have hP11 := hP10.back h11
        obtain ⟨n, rfl⟩ : ∃ n : Nat, y2 = (n : Int) := ⟨y2.toNat, by omega⟩
        refine ⟨9, (n : Int), rfl, rfl, G9, p, q, 9 + n, ?_, hP11, by omega, fun G12 H12 t2 its2 e912 hP12 gt2 hok2 hl2 => ?_⟩
        · show [V.ref p, V.int (9 + (n : Int))] = [V.ref p, V.int ((9 + n : Nat) : Int)]
          rw [show (9 : Int) + (n : Int) = ((9 + n : Nat) : Int) by omega]
        refine g_name ?_
        exact ⟨G12, .ref t2, _, rfl, e89.trans e912, hP12, .tup gt2 (dq_its G12 its2), long_pat (by omega)⟩
    rintro σ' H10 ⟨G10, v5, d5, rfl, e810, hP10, hv5, hb5⟩
    clear hP8 hP9 hv hbad hb9 e89
    -- the spoiled routers
    refine ⟨.ref p, rfl, .ref u, rfl, by show 2 ≤ sizeLine; decide, fun l hl => ?_⟩
    have hPl := hP10.ext (Ex.new (o := .lst [V.str "one", .str "any"]) hl)
    have lp := hP10.np hl
    have hll : (upd H10 l (.lst [V.str "one", .str "any"])) l = some (.lst [.str "one", .str "any"]) := upd_same
    generalize upd H10 l (.lst [V.str "one", .str "any"]) = H11 at *
    refine ⟨.ref p, rfl, _, p, q, 2, rfl, hPl.hd, by decide, by decide, fun H12 y h12 hy0 hy1 => ?_⟩
    have hP12 := hPl.back h12
    have hl12 := h12.off _ _ lp hll
    obtain ⟨sv, hat⟩ : ∃ sv : Str, atI [V.str "one", .str "any"] y = some (.str sv) := by
      rcases (show y = 0 ∨ y = 1 by omega) with rfl | rfl
      · exact ⟨"one", rfl⟩
      · exact ⟨"any", rfl⟩
    refine ⟨l, _, y, .str sv, rfl, rfl, sq_of hl12, hat, ?_⟩
    refine ⟨G10, p, q, u, _, _, .str sv, isR 8, rfl, hP12, e810 _ _ gu, dq_rs G10 rs, by rw [rsV_len]; omega, fun d _ h => h, .inr ⟨sv, rfl, rfl⟩, fun G13 H13 v6 d6 e1013 hP13 hv6 hl6 hbad6 => ?_⟩
    refine g_name ?_
    have hb6 := bad_rt hbad6
    change tSeq _ _ _ [some (.ref a0), some (.ref p), some (.int b), some (.ref t), some (.ref u), some v5, some v6, none] H13
    have hPg := (hP0.up e810).up (e1013.trans hP13.ex)
    have hRg := (hR0.up e810).up (e1013.trans hP13.ex)
    have h5 := hv5.mono (e1013.trans hP13.ex)
    have h6 := hv6.mono hP13.ex
    have x3 : ∀ {o7 : Option V} {H' : Hp}, Ev (tVar 3) [some (.ref a0), some (.ref p), some (.int b), some (.ref t), some (.ref u), some v5, some v6, o7] H' (.ref t) := ev_var rfl
    have x4 : ∀ {o7 : Option V} {H' : Hp}, Ev (tVar 4) [some (.ref a0), some (.ref p), some (.int b), some (.ref t), some (.ref u), some v5, some v6, o7] H' (.ref u) := ev_var rfl
    have x5 : ∀ {o7 : Option V} {H' : Hp}, Ev (tVar 5) [some (.ref a0), some (.ref p), some (.int b), some (.ref t), some (.ref u), some v5, some v6, o7] H' v5 := ev_var rfl
    have x6 : ∀ {o7 : Option V} {H' : Hp}, Ev (tVar 6) [some (.ref a0), some (.ref p), some (.int b), some (.ref t), some (.ref u), some v5, some v6, o7] H' v6 := ev_var rfl
    have x2 : ∀ {o7 : Option V} {H' : Hp}, Ev (tVar 2) [some (.ref a0), some (.ref p), some (.int b), some (.ref t), some (.ref u), some v5, some v6, o7] H' (.int b) := ev_var rfl
    refine q_when (b := false) (et_neS (ev_rL x3 x4 hPg hRg)) (fun z => by cases z) (fun _ H14 e14 => ?_)
    have nope : ∀ {c : Bool} {C : Prop}, (c && false) = true → C := fun z => by simp at z
    refine q_when (b := decide (V.int b = V.int 0) && false) (et_and (et_test (ev_op x2 ev_c (rv_eq rfl))) fun _ => et_neS (ev_rP x5 x4 (h5.mono e14) hb5)) (fun z => nope z) (fun _ H15 e15 => ?_)
    have f15 := e14.trans e15
    refine q_when (b := decide (V.int b = V.int 1) && false) (et_and (et_test (ev_op x2 ev_c (rv_eq rfl))) fun _ => et_neS (ev_rR x3 x6 (hPg.up f15) (h6.mono f15) hl6 hb6)) (fun z => nope z) (fun _ H16 e16 => ?_)
    have f16 := f15.trans e16
    refine q_when (b := decide (V.int b = V.int 2) && false) (et_and (et_test (ev_op x2 ev_c (rv_eq rfl))) fun _ => et_neS (ev_rP x5 x6 (h5.mono f16) hb5)) (fun z => nope z) (fun _ H17 e17 => ?_)
    have f17 := f16.trans e17
    refine q_forR1 (n := 2) (ea_cons ev_c ea_nil) (by decide) (fun i σ' H' => ∃ o7 : Option V, σ' = [some (.ref a0), some (.ref p), some (.int b), some (.ref t), some (.ref u), some v5, some v6, o7] ∧ Ex H13 H') (fun H18 e18 => ⟨none, rfl, f17.trans e18⟩) ?_ ?_
    · rintro i σ' H18 hi ⟨o7, rfl, f18⟩
      change tIfS _ _ _ _ [some (.ref a0), some (.ref p), some (.int b), some (.ref t), some (.ref u), some v5, some v6, some (.int (i : Int))] H18
      refine s_when (b := false || false) (et_or (et_neS (ev_rP x5 x4 (h5.mono f18) hb5)) fun _ => et_neS (ev_rR x3 x6 (hPg.up f18) (h6.mono f18) hl6 hb6)) (fun z => by cases z) (fun _ H19 e19 => ⟨_, rfl, f18.trans e19⟩)
    · rintro σ' H18 ⟨o7, rfl, f18⟩
      refine s_ret (v := .bl true) (ev_is (ev_op (r := rEq) (y := .str "let") (ev_rL x3 x4 (hPg.up f18) (hRg.up f18)) ev_c (rv_eq rfl)) (by decide +kernel)) fun H19 _ => k H19
end
end Wk

set_option Elab.async false
set_option linter.all false
set_option maxRecDepth 100000
set_option maxHeartbeats 4000000
namespace Wk
open PySem PySem.Spec PyProof.Rows L2 Evl
/-! the head's facts with more of them -/
abbrev AlX : Type := He.AlD × Bool
def obsX (n : Nat) (fa : List He.Fa) (fn : List He.DefD) (eb : PySem.W.Frag → Bool) (g : Addr → Option Obj) : AlX := (He.obsDG n fa fn g, eb (He.frG g (He.asD g n)))
def hookX (n : Nat) (fa : List He.Fa) (fn : List He.DefD) (eb : PySem.W.Frag → Bool) : PySem.W.Hook where
  α := AlX
  obs := fun s => obsX n fa fn eb s.heap.get?
  val := fun _ => (He.valD fn, true)
  says := fun _ h => ∃ K : PySem.W.Frag, K.In h ∧ He.SaysD fa fn K ∧ eb K = true
  of := fun _ _ e => ⟨_, He.frG_in, congrArg Prod.fst e, congrArg Prod.snd e⟩
  keeps := fun _ _ _ ⟨K, hK, c⟩ k => ⟨K, PySem.W.Frag.In.keeps hK k, c⟩
theorem obsX_eq {n : Nat} {fa : List He.Fa} {fn : List He.DefD} {eb : PySem.W.Frag → Bool} {g : Addr → Option Obj} {s : Shared} (h : ∀ a, g a = s.heap.get? a) : obsX n fa fn eb g = (hookX n fa fn eb).obs s := by
  have e : g = s.heap.get? := funext h
  rw [e]
  rfl
theorem calOf {P : Program} {w : World} {K : PySem.W.Frag} {mg : Str → Option Value} {base : Heap} {x q : Str} {params : Arguments} {body : List Stmt} {scope : Scope} {f : Addr} {fd : FuncData} {ps : List Str} {k : Nat} {sp : Sp} (F : FunD K x q params body scope [] [] f fd) (o : FnOk P w K mg base CX0 k f fd ps sp) (g : mg x = some (.ref f)) (b : Binds K fd ps []) : Cal P w K mg base x ps k sp := ⟨⟨f, fd, o, g, F.kp, b⟩⟩
def dG (x : Str) (i : Nat) : He.DefD := ⟨(x, none), x, x, defArgs (top i), defBody (top i), defScope (top i), [], []⟩
def dM (c m q : Str) (i j : Nat) : He.DefD := ⟨(c, some m), m, q, defArgs (inClass (top i) j), defBody (inClass (top i) j), defScope (inClass (top i) j), [], []⟩
end Wk

set_option Elab.async false
set_option linter.all false
set_option maxRecDepth 100000
set_option maxHeartbeats 2000000
namespace Wk
open PySem PySem.Spec PyProof.Rows L2 Evl
/-! more facts: a thing of an own class, an error without arguments -/
def errB (K : PySem.W.Frag) (C : Addr) : Bool := PySem.W.excIn K C [.type "ValueError", .type "Exception", .type "BaseException", .type "object"] "ValueError.__new__" && (PySem.W.keepIn K (.ref C) && (decide (PySem.W.subIn K (.ref C) (.type "BaseException") = some true) && decide (PySem.W.typeIn K (.ref C) = some (.type "type"))))
theorem errB_ok {K : PySem.W.Frag} {mg : Str → Option Value} {x : Str} {C : Addr} (h : errB K C = true) (g : mg x = some (.ref C)) : ErrN K mg x C := by
  obtain ⟨h1, h⟩ := He.ba h
  obtain ⟨h2, h⟩ := He.ba h
  obtain ⟨h3, h4⟩ := He.ba h
  exact ⟨g, h1, h2, of_decide_eq_true h3, of_decide_eq_true h4⟩
def excB (K : PySem.W.Frag) (C : Addr) : Bool := He.eqO (PySem.W.findIn K (.ref C) "__getattribute__") (some (some (.builtin "BaseException.__getattribute__"))) && (He.eqO (PySem.W.findIn K (.ref C) "__getattr__") (some none) && (decide (PySem.W.subIn K (.ref C) (.type "BaseException") = some true) && (PySem.W.hasDictIn K C &&
  (He.eqO (PySem.W.findIn K (.ref C) "__class__") (some (some (.builtin "object.__class__"))) && (He.eqO (PySem.W.specialIn K (.builtin "object.__class__") "__get__") (some (some (.builtin "getset_descriptor.__get__"))) && (decide (PySem.W.takesIn K (.builtin "object.__class__") = some true) && decide (PySem.W.mroIn K C (.type "object") = some true)))))))
theorem excB_ok {K : PySem.W.Frag} {C : Addr} (h : excB K C = true) : ExcC K C := by
  obtain ⟨h1, h⟩ := He.ba h
  obtain ⟨h2, h⟩ := He.ba h
  obtain ⟨h3, h⟩ := He.ba h
  obtain ⟨h4, h⟩ := He.ba h
  obtain ⟨h5, h⟩ := He.ba h
  obtain ⟨h6, h⟩ := He.ba h
  obtain ⟨h7, h8⟩ := He.ba h
  exact ⟨He.eqO_ok h1, He.eqO_ok h2, of_decide_eq_true h3, h4, He.eqO_ok h5, He.eqO_ok h6, of_decide_eq_true h7, of_decide_eq_true h8⟩
def ekB (K : PySem.W.Frag) (C CW CO : Addr) : Bool := excB K C && (decide (PySem.W.kitOne K (.ref C) (.ref CW) = some true) && (decide (PySem.W.kitOne K (.ref C) (.type "ValueError") = some true) && decide (PySem.W.kitOne K (.ref C) (.ref CO) = some false)))
theorem ekB_ok {K : PySem.W.Frag} {C CW CO : Addr} (h : ekB K C CW CO = true) : EK K C CW CO := by
  obtain ⟨h1, h⟩ := He.ba h
  obtain ⟨h2, h⟩ := He.ba h
  obtain ⟨h3, h4⟩ := He.ba h
  exact ⟨excB_ok h1, of_decide_eq_true h2, of_decide_eq_true h3, of_decide_eq_true h4⟩
end Wk

set_option Elab.async false
set_option linter.all false
set_option maxRecDepth 100000
set_option maxHeartbeats 0
namespace Wk
open PySem PySem.Spec PyProof.Rows L2 Evl
def fn : List He.DefD := ([dG "is_integer" 6, dG "is_between" 7, dG "is_router" 8, dG "fits" 13, dG "is_pattern" 14, dG "is_item" 15, dG "is_router_tuple" 16, dG "_law_pool" 18, dG "_law_draw" 19, dG "_law_items" 20, dG "_law_bad_item" 21, dG "_law_spoiled" 22, dG "_law_result" 23, dG "law" 24, dM "Sieve" "__init__" "Sieve.__init__" 12 0, dM "Sieve" "_put_in" "Sieve._put_in" 12 1, dM "Sieve" "_skipped" "Sieve._skipped" 12 2, dM "Sieve" "read" "Sieve.read" 12 3, dM "Sieve" "read_all" "Sieve.read_all" 12 4, dM "Sieve" "fitting" "Sieve.fitting" 12 5] : List He.DefD)
def fa : List He.Fa := ([.glo "is_integer", .glo "is_between", .glo "is_router", .glo "fits", .glo "is_pattern", .glo "is_item", .glo "is_router_tuple", .glo "_law_pool", .glo "_law_draw", .glo "_law_items", .glo "_law_bad_item", .glo "_law_spoiled", .glo "_law_result", .glo "law", .free "isinstance", .free "len", .free "tuple", .free "list", .free "int", .free "bool", .free "str", .free "all", .free "set", .free "enumerate", .free "range", .free "abs", .free "min", .free "repr", .free "sum", .free "ValueError"] : List He.Fa) ++ ([.int "MOST_ROUTERS" 8, .int "MOST_ITEMS" 8, .int "SPAN" 9, .glo "Sieve", .cls "Sieve", .mkr "Sieve", .meth "Sieve" "_put_in", .meth "Sieve" "_skipped", .meth "Sieve" "read", .meth "Sieve" "read_all", .meth "Sieve" "fitting", .noat "Sieve" "takes", .noat "Sieve" "skips", .noat "Sieve" "keeps", .noat "Sieve" "goals", .noat "Sieve" "first", .glo "BadPattern", .glo "BadRow", .glo "WishError", .exm "BadPattern" "BadPattern" true, .exm "BadRow" "BadPattern" false, .exm "BadRow" "BadRow" true] : List He.Fa)
def eb (K : PySem.W.Frag) : Bool := errB K (He.ga K "BadPattern") && (errB K (He.ga K "BadRow") && (ekB K (He.ga K "BadPattern") (He.ga K "WishError") (He.ga K "BadRow") && ekB K (He.ga K "BadRow") (He.ga K "WishError") (He.ga K "BadPattern")))
abbrev R : PySem.W.OpenRow := PySem.W.OpenLaw.row PySem.Challenge.rw_wishreels_k49_patterns_refused
abbrev hk : PySem.W.Hook := hookX 4 fa fn eb
def ob (s : PySem.W.SharedT) : AlX := obsX 4 fa fn eb (HandSHeadRun.getT s)
theorem ob_eq (s : PySem.W.SharedT) : ob s = hk.obs s.abs := obsX_eq (HandSHeadRun.getT_eq s)
def loose0 : List Str := ["__name__", "WishError", "BadPattern", "BadRow", "MOST_ROUTERS", "is_integer", "is_between", "is_router", "MOST_ITEMS", "SPAN", "Sieve", "fits", "is_pattern", "is_item", "is_router_tuple", "_law_pool", "_law_draw", "_law_items", "_law_bad_item", "_law_spoiled", "_law_result"]
def loose : List Str := loose0
theorem run (w : World) : HandSHeadRun.RunEq R (PySem.W.view R.prog [24]) hk ob 7000 loose w := by
  intro os
  kernel_rfl
end Wk

set_option Elab.async false
set_option linter.all false
set_option maxRecDepth 100000
set_option maxHeartbeats 4000000
namespace Wk
open PySem PySem.Spec PyProof.Rows L2 Evl
theorem facts {P : Program} {w : World} {K : PySem.W.Frag} {h : Heap} {mg : Str → Option Value} {f : Addr} (X : K.In h) (G : h.Ns mainGlobals mg) (hfa : mg ("law" : Str) = some (.ref f)) (c : He.SaysD fa fn K) (cx : eb K = true) :
    ∃ fd : FuncData, (∀ (t : Shared) (u : Value), BindsTo t fd ⟨[u], []⟩ [("_law_script", u)]) ∧ ∀ base : Heap, K.In base → base.Ns mainGlobals mg → FnOk P w K mg base CX0 8 f fd ["_law_script"] (spLaw K) := by
  obtain ⟨d0, F0⟩ := c.def_ 0 (d := dG "is_integer" 6) rfl
  obtain ⟨d1, F1⟩ := c.def_ 1 (d := dG "is_between" 7) rfl
  obtain ⟨d2, F2⟩ := c.def_ 2 (d := dG "is_router" 8) rfl
  obtain ⟨d3, F3⟩ := c.def_ 3 (d := dG "fits" 13) rfl
  obtain ⟨d4, F4⟩ := c.def_ 4 (d := dG "is_pattern" 14) rfl
  obtain ⟨d5, F5⟩ := c.def_ 5 (d := dG "is_item" 15) rfl
  obtain ⟨d6, F6⟩ := c.def_ 6 (d := dG "is_router_tuple" 16) rfl
  obtain ⟨d7, F7⟩ := c.def_ 7 (d := dG "_law_pool" 18) rfl
  obtain ⟨d8, F8⟩ := c.def_ 8 (d := dG "_law_draw" 19) rfl
  obtain ⟨d9, F9⟩ := c.def_ 9 (d := dG "_law_items" 20) rfl
  obtain ⟨d10, F10⟩ := c.def_ 10 (d := dG "_law_bad_item" 21) rfl
  obtain ⟨d11, F11⟩ := c.def_ 11 (d := dG "_law_spoiled" 22) rfl
  obtain ⟨d12, F12⟩ := c.def_ 12 (d := dG "_law_result" 23) rfl
  obtain ⟨d13, F13⟩ := c.def_ 13 (d := dG "law" 24) rfl
  obtain ⟨d14, F14⟩ := c.def_ 14 (d := dM "Sieve" "__init__" "Sieve.__init__" 12 0) rfl
  obtain ⟨d15, F15⟩ := c.def_ 15 (d := dM "Sieve" "_put_in" "Sieve._put_in" 12 1) rfl
  obtain ⟨d16, F16⟩ := c.def_ 16 (d := dM "Sieve" "_skipped" "Sieve._skipped" 12 2) rfl
  obtain ⟨d17, F17⟩ := c.def_ 17 (d := dM "Sieve" "read" "Sieve.read" 12 3) rfl
  obtain ⟨d18, F18⟩ := c.def_ 18 (d := dM "Sieve" "read_all" "Sieve.read_all" 12 4) rfl
  obtain ⟨d19, F19⟩ := c.def_ 19 (d := dM "Sieve" "fitting" "Sieve.fitting" 12 5) rfl
  have e := hfa.symm.trans (He.glo_ok X G (c.fact 13 (f := .glo "law") rfl))
  cases e
  have bL := FunD.bindsA (ps := ["_law_script"]) F13 fun _ _ _ _ _ _ us hl => match us, hl with | [_], _ => rfl
  have B : Bl mg := ⟨He.free_ok X G (c.fact 14 rfl), He.free_ok X G (c.fact 15 rfl), He.free_ok X G (c.fact 16 rfl), He.free_ok X G (c.fact 17 rfl), He.free_ok X G (c.fact 18 rfl), He.free_ok X G (c.fact 19 rfl), He.free_ok X G (c.fact 20 rfl), He.free_ok X G (c.fact 21 rfl), He.free_ok X G (c.fact 22 rfl), He.free_ok X G (c.fact 23 rfl), He.free_ok X G (c.fact 24 rfl), He.free_ok X G (c.fact 25 rfl), He.free_ok X G (c.fact 26 rfl), He.free_ok X G (c.fact 27 rfl)⟩
  have hsum : mg "sum" = none := He.free_ok X G (c.fact 28 (f := .free "sum") rfl)
  have hVE : mg "ValueError" = none := He.free_ok X G (c.fact 29 (f := .free "ValueError") rfl)
  obtain ⟨x1, cx⟩ := He.ba cx
  obtain ⟨x2, cx⟩ := He.ba cx
  obtain ⟨x3, x4⟩ := He.ba cx
  have TP := errB_ok (x := "BadPattern") x1 (He.glo_ok X G (c.fact 46 (f := .glo "BadPattern") rfl))
  have TR := errB_ok (x := "BadRow") x2 (He.glo_ok X G (c.fact 47 (f := .glo "BadRow") rfl))
  have EP := ekB_ok x3
  have ER := ekB_ok x4
  have gW := He.glo_ok X G (c.fact 48 (f := .glo "WishError") rfl)
  have xPP := He.exm_ok (c.fact 49 (f := .exm "BadPattern" "BadPattern" true) rfl)
  have xRP := He.exm_ok (c.fact 50 (f := .exm "BadRow" "BadPattern" false) rfl)
  have xRR := He.exm_ok (c.fact 51 (f := .exm "BadRow" "BadRow" true) rfl)
  obtain ⟨t8, m8⟩ := He.int_ok X G (c.fact 30 (f := .int "MOST_ROUTERS" 8) rfl)
  obtain ⟨ti, mi⟩ := He.int_ok X G (c.fact 31 (f := .int "MOST_ITEMS" 8) rfl)
  obtain ⟨t9, m9⟩ := He.int_ok X G (c.fact 32 (f := .int "SPAN" 9) rfl)
  have TX : SX K (He.ga K "Sieve") := ⟨He.cls_ok (c.fact 34 (f := .cls "Sieve") rfl), He.noat_ok (c.fact 41 (f := .noat "Sieve" "takes") rfl), He.noat_ok (c.fact 42 (f := .noat "Sieve" "skips") rfl), He.noat_ok (c.fact 43 (f := .noat "Sieve" "keeps") rfl), He.noat_ok (c.fact 44 (f := .noat "Sieve" "goals") rfl), He.noat_ok (c.fact 45 (f := .noat "Sieve" "first") rfl)⟩
  refine ⟨d13, fun t u => bL t [u] rfl, fun base _ _ => ?_⟩
  have C0 : Cal P w K mg base "is_integer" ["thing"] 1 spIsInt := calOf F0 (ok_isInt B F0) (He.glo_ok X G (c.fact 0 rfl)) (F0.bindsN fun _ _ _ _ _ _ us hl => match us, hl with | [_], _ => rfl)
  have C1 : Cal P w K mg base "is_between" ["least", "most", "thing"] 2 spBetween := calOf F1 (ok_between B C0 F1) (He.glo_ok X G (c.fact 1 rfl)) (F1.bindsN fun _ _ _ _ _ _ us hl => match us, hl with | [_, _, _], _ => rfl)
  have C2 : Cal P w K mg base "is_router" ["size", "thing"] 3 spRouter := calOf F2 (ok_router C1 F2) (He.glo_ok X G (c.fact 2 rfl)) (F2.bindsN fun _ _ _ _ _ _ us hl => match us, hl with | [_, _], _ => rfl)
  have C3 : Cal P w K mg base "is_item" ["thing"] 4 spItem := calOf F5 (ok_item B m8 C2 F5) (He.glo_ok X G (c.fact 5 rfl)) (F5.bindsN fun _ _ _ _ _ _ us hl => match us, hl with | [_], _ => rfl)
  have C4 : Cal P w K mg base "is_pattern" ["thing"] 5 spPat := calOf F4 (ok_pat B mi C3 F4) (He.glo_ok X G (c.fact 4 rfl)) (F4.bindsN fun _ _ _ _ _ _ us hl => match us, hl with | [_], _ => rfl)
  have C5 : Cal P w K mg base "is_router_tuple" ["thing"] 4 spRt := calOf F6 (ok_rt B m8 C2 F6) (He.glo_ok X G (c.fact 6 rfl)) (F6.bindsN fun _ _ _ _ _ _ us hl => match us, hl with | [_], _ => rfl)
  have MK : Msk P w K mg base (He.ga K "Sieve") "_skipped" ["self", "stand"] 1 (spSkip (He.ga K "Sieve")) := ⟨⟨_, d16, He.meth_ok (c.fact 37 (f := .meth "Sieve" "_skipped") rfl), ok_skip TX F16, F16.bindsN fun _ _ _ _ _ _ us hl => match us, hl with | [_, _], _ => rfl⟩⟩
  have MP : Msk P w K mg base (He.ga K "Sieve") "_put_in" ["self", "bit", "item"] 1 (spPut (He.ga K "Sieve")) := ⟨⟨_, d15, He.meth_ok (c.fact 36 (f := .meth "Sieve" "_put_in") rfl), ok_put TX B m8 F15, F15.bindsN fun _ _ _ _ _ _ us hl => match us, hl with | [_, _, _], _ => rfl⟩⟩
  have MR : Msk P w K mg base (He.ga K "Sieve") "read" ["self", "stand", "router"] 2 (spRead (He.ga K "Sieve")) := ⟨⟨_, d17, He.meth_ok (c.fact 38 (f := .meth "Sieve" "read") rfl), ok_read TX MK F17, F17.bindsN fun _ _ _ _ _ _ us hl => match us, hl with | [_, _, _], _ => rfl⟩⟩
  have MA : Msk P w K mg base (He.ga K "Sieve") "read_all" ["self", "routers"] 3 (spRAll (He.ga K "Sieve")) := ⟨⟨_, d18, He.meth_ok (c.fact 39 (f := .meth "Sieve" "read_all") rfl), ok_rall TX MR F18, F18.bindsN fun _ _ _ _ _ _ us hl => match us, hl with | [_, _], _ => rfl⟩⟩
  have MF : Msk P w K mg base (He.ga K "Sieve") "fitting" ["self", "stand"] 1 (spFitting (He.ga K "Sieve")) := ⟨⟨_, d19, He.meth_ok (c.fact 40 (f := .meth "Sieve" "fitting") rfl), ok_fitting TX B F19, F19.bindsN fun _ _ _ _ _ _ us hl => match us, hl with | [_, _], _ => rfl⟩⟩
  have MI : MkS P w K mg base (He.ga K "Sieve") := ⟨He.glo_ok X G (c.fact 33 (f := .glo "Sieve") rfl), ⟨_, d14, He.mkr_ok (c.fact 35 (f := .mkr "Sieve") rfl), ok_init TX B hsum m8 m9 MP MK F14, F14.bindsN fun _ _ _ _ _ _ us hl => match us, hl with | [_, _], _ => rfl⟩⟩
  have C6 : CalX P w K mg base "fits" ["pattern", "routers"] 6 (spFits (He.ga K "BadPattern") (He.ga K "BadRow")) := ⟨⟨_, d3, ok_fits TX B TP TR C4 C5 MI MA MF F3, He.glo_ok X G (c.fact 3 rfl), F3.kp, (F3.bindsN fun _ _ _ _ _ _ us hl => match us, hl with | [_, _], _ => rfl)⟩⟩
  have D0 : Cal P w K mg base "_law_pool" ["_law_script"] 1 (spPool K) := calOf F7 (ok_pool B F7) (He.glo_ok X G (c.fact 7 rfl)) (F7.bindsN fun _ _ _ _ _ _ us hl => match us, hl with | [_], _ => rfl)
  have D1 : Cal P w K mg base "_law_draw" ["_law_pool_here", "_law_many"] 1 spDraw := calOf F8 (ok_draw B F8) (He.glo_ok X G (c.fact 8 rfl)) (F8.bindsN fun _ _ _ _ _ _ us hl => match us, hl with | [_, _], _ => rfl)
  have D2 : Cal P w K mg base "_law_items" ["_law_pool_here", "_law_many"] 2 spItems := calOf F9 (ok_items B D1 F9) (He.glo_ok X G (c.fact 9 rfl)) (F9.bindsN fun _ _ _ _ _ _ us hl => match us, hl with | [_, _], _ => rfl)
  have D3 : Cal P w K mg base "_law_bad_item" ["_law_pool_here"] 2 spBadItem := calOf F10 (ok_badItem B D1 F10) (He.glo_ok X G (c.fact 10 rfl)) (F10.bindsN fun _ _ _ _ _ _ us hl => match us, hl with | [_], _ => rfl)
  have D4 : Cal P w K mg base "_law_spoiled" ["_law_pool_here", "_law_thing", "_law_word"] 3 spSpoiled := calOf F11 (ok_spoiled B D1 D3 F11) (He.glo_ok X G (c.fact 11 rfl)) (F11.bindsN fun _ _ _ _ _ _ us hl => match us, hl with | [_, _, _], _ => rfl)
  have D5 : Cal P w K mg base "_law_result" ["_law_pattern", "_law_routers"] 7 spResult := calOf F12 (ok_result B hVE gW TP TR xPP xRP xRR EP ER C6 F12) (He.glo_ok X G (c.fact 12 rfl)) (F12.bindsN fun _ _ _ _ _ _ us hl => match us, hl with | [_, _], _ => rfl)
  exact ok_law B ⟨D0, D1, D2, D4, D5⟩ F13
end Wk
open PySem PySem.W PySem.Calls PyProof.Rows
set_option maxHeartbeats 0
theorem PySem.Challenge.cw_wishreels_k49_patterns_refused_holds : PySem.Challenge.rw_wishreels_k49_patterns_refused.Holds := by
  w_on; o_law
  refine HandSHeadRun.head_any (r := Wk.R) (q := view Wk.R.prog [24]) (H := Wk.hk) (ob := Wk.ob) (M := 7000) (loose := Wk.loose) (d := HandSHeadRun.topDef Wk.R.prog 24) (kwd := []) Wk.ob_eq
    (by kernel_rfl) (fun s => by kernel_rfl) Wk.run (by kernel_rfl) (by kernel_rfl) (by kernel_rfl) (by rfl) (by first | assumption | decide +kernel) (by decide +kernel) ⟨rfl, rfl, rfl, rfl, rfl, by decide +kernel⟩ ?hw ?hc
  case hw => w_witness2
  case hc =>
    refine L2.walk_ofE (l := PySem.Challenge.rw_wishreels_k49_patterns_refused) (n := 63) (k := 8) (x := "_law_script") (CX := L2.CX0) rfl (by decide) (by kernel_rfl) ⟨rfl, by decide, by decide⟩ ?F (fun _ _ _ _ z => z)
    intro w mg fa h Y G hmg0
    obtain ⟨K, kx, c, cx⟩ := Y
    have hmg : mg ("law" : PySem.Str) = some (.ref fa) := by
      have e : (HandSHeadRun.topDef Wk.R.prog 24).name = ("law" : PySem.Str) := by kernel_rfl
      rw [← e]
      exact hmg0
    obtain ⟨fd, hb, hF⟩ := Wk.facts (P := (PySem.Challenge.rw_wishreels_k49_patterns_refused).prog) (w := w) kx G hmg c cx
    exact ⟨K, fd, Wk.spLaw K, kx, hb, fun H a ns hl _ hS => ⟨a, ns, rfl, hS, hl, fun _ => rfl⟩, hF⟩

import PyProof.Rows.All
import Wide.All
import OpenK.AllK
import Wide.FinOn
import KE.KStateDown
import HandS.ForMost
import HandS.More
import HandS.WordsExc
import HandS.Defaults
import HandS.Deep
import HandS.IsInst
import HandS.Evl
import HandS.Walk
import HandS.TupSets
import HandS.TupAny
import HandS.Conv
import PyProof.P3In
import KE.GoesMore
import KE.GoesEnum
import HandS.ExcInit
import HandS.ExcField
import HandS.ExcOwn
import PyProof.NeKinds
import PyProof.EqKinds
import PyProof.FactsAll.subtypes_4
import PyProof.FactsAll.dict_1
import HandS.SetFor
import HandS.Strs
import HandS.DictComp
import HandS.Comp
import HandS.Style
import HandS.OwnEq
import KE.DataFind
import HandS.Head0
import HandS.Head1
import HandS.Head2
import HandS.HeadEnd
import HandS.HeadHook1
import HandS.HeadHook2
import PySem.Challenge.RW_wishreels_k02_equal_and_kept
set_option Elab.async false
set_option linter.all false
set_option maxRecDepth 100000
set_option maxHeartbeats 2000000
namespace Wk
open PySem PySem.Spec PyProof.Rows L2 Evl
/-! data that stand in a heap -/
mutual
inductive Dq (G : Hp) : V → PyData → Prop
  | non : Dq G .non .none
  | bl (b : Bool) : Dq G (.bl b) (.bool b)
  | int (i : Int) : Dq G (.int i) (.int i)
  | str (x : Str) : Dq G (.str x) (.str x)
  | lst {a : Addr} {xs : List V} {ds : List PyData} : G a = some (.lst xs) → DqA G xs ds → Dq G (.ref a) (.list ds)
  | tup {a : Addr} {xs : List V} {ds : List PyData} : G a = some (.tup xs) → DqA G xs ds → Dq G (.ref a) (.tuple ds)
  | dic {a : Addr} : G a = some (.dK []) → Dq G (.ref a) (.dict [])
inductive DqA (G : Hp) : List V → List PyData → Prop
  | nil : DqA G [] []
  | cons {v : V} {vs : List V} {d : PyData} {ds : List PyData} : Dq G v d → DqA G vs ds → DqA G (v :: vs) (d :: ds)
end
mutual
theorem Dq.mono {G H : Hp} (e : Ex G H) : ∀ {d : PyData} {v : V}, Dq G v d → Dq H v d
  | .none, _, .non => .non
  | .bool _, _, .bl b => .bl b
  | .int _, _, .int i => .int i
  | .str _, _, .str x => .str x
  | .list _, _, .lst h a => .lst (e _ _ h) (DqA.mono e a)
  | .tuple _, _, .tup h a => .tup (e _ _ h) (DqA.mono e a)
  | .dict _, _, .dic h => .dic (e _ _ h)
theorem DqA.mono {G H : Hp} (e : Ex G H) : ∀ {ds : List PyData} {vs : List V}, DqA G vs ds → DqA H vs ds
  | [], _, .nil => .nil
  | _ :: _, _, .cons h t => .cons (Dq.mono e h) (DqA.mono e t)
end
mutual
theorem Dq.dp {K : PySem.W.Frag} {G : Hp} : ∀ {d : PyData} {v : V}, d.canLay0 = true → Dq G v d → Dp K G v d
  | .none, _, _, .non => .non
  | .bool _, _, _, .bl b => .bl b
  | .int _, _, _, .int i => .int i
  | .str _, _, _, .str x => .str x
  | .list ds, _, c, .lst h a => .lst (sq_of h) (DqA.dp (by simpa [PyData.canLay0] using c) a)
  | .tuple ds, _, c, .tup h a => .tup (st_of h) (DqA.dp (by simpa [PyData.canLay0] using c) a)
  | .dict _, _, c, .dic h => by simp [PyData.canLay0] at c
theorem DqA.dp {K : PySem.W.Frag} {G : Hp} : ∀ {ds : List PyData} {vs : List V}, PyData.canLayAll0 ds = true → DqA G vs ds → DpAll K G vs ds
  | [], _, _, .nil => .nil
  | d :: ds, _, c, .cons h t => by
    have c' : d.canLay0 = true ∧ PyData.canLayAll0 ds = true := by simpa [PyData.canLayAll0] using c
    exact .cons (Dq.dp c'.1 h) (DqA.dp c'.2 t)
end
theorem DqA.length {G : Hp} : ∀ {ds : List PyData} {vs : List V}, DqA G vs ds → vs.length = ds.length
  | [], _, .nil => rfl
  | _ :: _, _, .cons _ t => congrArg Nat.succ t.length
theorem DqA.get {G : Hp} : ∀ {ds : List PyData} {vs : List V} {i : Nat} {v : V}, DqA G vs ds → vs[i]? = some v → ∃ d, ds[i]? = some d ∧ Dq G v d
  | [], _, i, v, .nil, e => by simp at e
  | d :: _, _, 0, v, .cons h t, e => ⟨d, rfl, by simp at e; subst e; exact h⟩
  | _ :: _, _, i + 1, v, .cons h t, e => by
    obtain ⟨d, e1, e2⟩ := t.get (i := i) (by simpa using e)
    exact ⟨d, by simpa using e1, e2⟩
theorem DqA.at {G : Hp} {ds : List PyData} {vs : List V} {i : Nat} {d : PyData} (h : DqA G vs ds) (e : ds[i]? = some d) : ∃ v, vs[i]? = some v ∧ Dq G v d := by
  have hl := h.length
  obtain ⟨hi, _⟩ := List.getElem?_eq_some_iff.mp e
  have hv : vs[i]? = some (vs[i]'(by omega)) := List.getElem?_eq_getElem (by omega)
  obtain ⟨d', e1, e2⟩ := h.get hv
  rw [e] at e1
  cases e1
  exact ⟨_, hv, e2⟩
theorem DqA.append {G : Hp} : ∀ {ds es : List PyData} {vs us : List V}, DqA G vs ds → DqA G us es → DqA G (vs ++ us) (ds ++ es)
  | [], _, _, _, .nil, h => h
  | _ :: _, _, _, _, .cons h t, u => .cons h (t.append u)
theorem DqA.take {G : Hp} : ∀ {ds : List PyData} {vs : List V} (n : Nat), DqA G vs ds → DqA G (vs.take n) (ds.take n)
  | [], _, n, .nil => by simp; exact .nil
  | _ :: _, _, 0, .cons h t => .nil
  | _ :: _, _, n + 1, .cons h t => .cons h (t.take n)
theorem DqA.drop {G : Hp} : ∀ {ds : List PyData} {vs : List V} (n : Nat), DqA G vs ds → DqA G (vs.drop n) (ds.drop n)
  | [], _, n, .nil => by simp; exact .nil
  | _ :: _, _, 0, .cons h t => .cons h t
  | _ :: _, _, n + 1, .cons h t => t.drop n
theorem DqA.ints {G : Hp} : ∀ (ns : List Int), DqA G (ns.map V.int) (ns.map PyData.int)
  | [] => .nil
  | n :: ns => .cons (.int n) (DqA.ints ns)
theorem DqA.int_inv {G : Hp} : ∀ {ns : List Int} {vs : List V}, DqA G vs (ns.map PyData.int) → vs = ns.map V.int
  | [], _, .nil => rfl
  | _ :: _, _, .cons (.int n) t => by
    have := DqA.int_inv t
    subst this
    rfl
/-- the name of a datum's type -/
def tyN : PyData → String
  | .none => "NoneType"
  | .bool _ => "bool"
  | .int _ => "int"
  | .str _ => "str"
  | .list _ => "list"
  | .tuple _ => "tuple"
  | .dict _ => "dict"
theorem Dq.ty {K : PySem.W.Frag} {G : Hp} {d : PyData} {v : V} (h : Dq G v d) : TyX K G v (.type (tyN d)) := by
  cases h with
  | non => exact .base .non
  | bl b => exact .base (.bl b)
  | int i => exact .base (.int i)
  | str x => exact .base (.str x)
  | lst h _ => exact .base (.lst h)
  | tup h _ => exact .base (.tup h)
  | dic h => exact .base (.dK h)
/-- a call's callee: the def that a global name holds -/
structure Cal (P : Program) (w : World) (K : PySem.W.Frag) (mg : Str → Option Value) (base : Heap) (x : Str) (ps : List Str) (k : Nat) (sp : Sp) : Prop where
  ex : ∃ (f : Addr) (fd : FuncData), FnOk P w K mg base CX0 k f fd ps sp ∧ mg x = some (.ref f) ∧ PySem.W.keepIn K (.ref f) = true ∧ Binds K fd ps []
section
variable {X : Cx}
theorem pe_cal {x : Str} {p pos : Pos} {e : Expr} {es : List Expr} {ps : List Str} {k j : Nat} {sp : Sp} {t : TA} (C : Cal X.prog X.w X.K X.mg X.base x ps k sp) (hr : Room j X.A) (hg : Gl X x) (ha : PA X (e :: es) t) (hk : k ≤ j := by decide)
    (hdb : (x == ("__debug__" : Str)) = false := by decide) (he : starEach (e :: es) X.env = (false, eval e X.env) :: starEach es X.env := by rfl) (hpl : (backTo pos (starEach es X.env)).any (·.1) = false := by rfl) :
    PE X (.Call (.Name x p) (e :: es) [] pos) (tCall sp [] E0 t) := by
  obtain ⟨f, fd, F, g, kp, b⟩ := C.ex
  exact pe_call F (hr.mono hk) hg g kp b .nil pass0 ha hdb he hpl
end
section
variable {K : PySem.W.Frag} {σ : L2.St} {H : Hp} {ta tb tc te : TE}
/-- isinstance(x, T), T a built-in type -/
theorem ev_isi {v : V} {d : PyData} {n : String} {b : Bool} (h : Ev ta σ H v) (hd : Dq H v d) (hk : kitB (tyN d) n = some b) : Ev (tCB (rIsi K) (tCons ta (tCons (tC (.ty n)) tNil))) σ H (.bl b) := fun H1 e Q q =>
  h H1 e _ fun H2 e2 => ⟨v, .ty n, .type (tyN d), .type n, b, rfl, .ty n, (hd.mono (e.trans e2)).ty, kit_ty hk, q H2 e2⟩
/-- a <= b <= c of ints -/
theorem ev_chain {i j k : Int} {r r' : R2} {b1 b2 : Bool} (ha : Ev ta σ H (.int i)) (hb : Ev tb σ H (.int j)) (hc : Ev tc σ H (.int k)) (h1 : RV r (.int i) (.int j) H (.bl b1)) (h2 : RV r' (.int j) (.int k) H (.bl b2)) :
    Ev (tChain r r' ta tb tc) σ H (.bl (b1 && b2)) := fun H1 e Q q =>
  ha H1 e _ fun H2 e2 => hb H2 (e.trans e2) _ fun H3 e3 => h1 H3 ((e.trans e2).trans e3) _ fun H4 e4 => ⟨b1, rfl, by
    cases b1 with
    | false => exact q H4 ((e2.trans e3).trans e4)
    | true => exact hc H4 (((e.trans e2).trans e3).trans e4) _ fun H5 e5 => h2 H5 ((((e.trans e2).trans e3).trans e4).trans e5) _ fun H6 e6 => q H6 ((((e2.trans e3).trans e4).trans e5).trans e6)⟩
end
end Wk

set_option Elab.async false
set_option linter.all false
set_option maxRecDepth 100000
set_option maxHeartbeats 4000000
namespace Wk
open PySem PySem.Spec PyProof.Rows L2 Evl
/-- the walk of a tuple's iterator under an enumerate -/
abbrev itO (l : Addr) : Obj := { cls := .type "tuple_iterator", data := .fields #[.ref l, .int 0 0] }
abbrev enO (it : Addr) : Obj := { cls := .type "enumerate", data := .fields #[.none, .bool false, .ref it, rawInt 0, .none, .none] }
theorem enumNewT (l : Addr) (its : Array Value) (n : Nat) (od : Option Addr) (sl : Array (Option Value)) :
    Meets (Builtin.«enumerate.__new__» ⟨[.type "enumerate", .ref l], []⟩) (fun _ R s => s.heap.get? l = some { cls := .type "tuple", dict := od, data := .seq its n, slots := sl } ∧
      R (.ok (.ret (.ref (s.heap.push (itO l)).objs.size))) { s with heap := (s.heap.push (itO l)).push (enO s.heap.objs.size) }) :=
  .of_wp fun prog w A R s h => by
    obtain ⟨hp, g, d, tk, os⟩ := s; obtain ⟨hl, h⟩ := h
    have su := sub_enumerate
    have tl : Heap.IsTuple (Shared.heap ⟨hp, g, d, tk, os⟩) l its := ⟨_, hl, rfl, n, rfl⟩
    wp_walk using wpAny_loadPart' hl
    refine wpAny_stack_any fun st => wpAny_pure ?_
    split
    · rename_i c _ _ _ _ _
      cases (c == Value.type "enumerate") <;> (wp_walk using wpAny_loadPart' hl, wpAny_pyIter_tuple tl; exact ⟨_, rfl, h⟩)
    · wp_walk using wpAny_loadPart' hl, wpAny_pyIter_tuple tl
      exact ⟨_, rfl, h⟩
section
variable {prog : Program} {w : World} {A : Around} {E : Value → Shared → Prop} {s : Shared}
theorem enumT_call {l : Addr} {its : Array Value} {Q : Value → Shared → Prop} (tl : s.heap.IsTuple l its)
    (h : ∀ h', IsEnum h' (s.heap.objs.size + 1) s.heap.objs.size 0 .none → h'.IsTupleIter s.heap.objs.size l 0 → h'.objs.size = s.heap.objs.size + 2 → (∀ b o, s.heap.get? b = some o → h'.get? b = some o) → Q (.ref (s.heap.objs.size + 1)) { s with heap := h' }) :
    wpAny (model prog w) A (call (.type "enumerate") [.ref l]) Q E s := by
  obtain ⟨⟨c, od, dt, sl⟩, hl, hc, n, hd⟩ := tl
  replace hc : c = .type "tuple" := hc
  replace hd : dt = .seq its n := hd
  subst hc hd
  refine callType_new F.called_enumerate (by decide) (F.typeCall_enumerate_1 _) (F.newCall_enumerate_1 _) (fun ob => F.args_object_init_2 ob _) F.entry_enumerate_new (enumNewT l its n od sl) ⟨hl, ?_⟩
  have hz : (s.heap.push (itO l)).objs.size = s.heap.objs.size + 1 := Heap.size_push ..
  show _ ∧ _
  rw [hz]
  have he : IsEnum ((s.heap.push (itO l)).push (enO s.heap.objs.size)) (s.heap.objs.size + 1) s.heap.objs.size 0 .none := by
    have q := Heap.get?_push_size (s.heap.push (itO l)) (o := enO s.heap.objs.size) rfl
    rw [hz] at q; exact q
  exact ⟨⟨_, he, rfl⟩, h _ he ⟨_, Heap.get?_push_of_some _ (Heap.get?_push_size _ rfl), rfl, rfl⟩ (by rw [Heap.size_push, hz]) fun b o x => Heap.get?_push_of_some _ (Heap.get?_push_of_some _ x)⟩
end
/-- the tuple at a, each item in a new pair with its place -/
def IteT (K : PySem.W.Frag) (a : Addr) : It :=
  ⟨fun i H => ∃ (xs : List V) (x : V), SqT K H a xs ∧ xs[i]? = some x, fun i H v H' => ∃ T x, v = .ref T ∧ H T = none ∧ H' = upd H T (.tup [.int (i : Nat), x]) ∧ ∀ xs, SqT K H a xs → xs[i]? = some x, fun i H => ∃ xs : List V, SqT K H a xs ∧ xs.length = i⟩
theorem turn_enumT {P : Program} {w : World} {K : PySem.W.Frag} {elts : List Expr} {kk : Nat} {tpos : Pos} (a e it : Addr) :
    Turn P w K (.Tuple elts kk tpos) (IteT K a) [e, it] e (fun i h => (∃ old, IsEnum h e it ((i : Nat) : Int) old) ∧ h.IsTupleIter it a i ∧ e ≠ it) where
  mem := List.mem_cons_self
  obj := fun i h st b hb => by
    obtain ⟨⟨old, he⟩, ⟨o, ho, hc, hd⟩, _⟩ := st
    rcases List.mem_cons.mp hb with z | z
    · rw [z]; exact ⟨_, he, fun v q => nomatch q⟩
    · rw [List.mem_singleton.mp z]; exact ⟨o, ho, fun v q => by rw [hd] at q; cases q⟩
  keep := fun i h h' st k => by
    obtain ⟨⟨old, he⟩, ⟨o, ho, r⟩, hne⟩ := st
    exact ⟨⟨old, k e (by simp) _ he⟩, ⟨o, k it (by simp) o ho, r⟩, hne⟩
  item := by
    intro X hP hw hK hc i pins s σ H E I hf st hg
    subst hP hw hK
    obtain ⟨⟨old, he⟩, hit, hne⟩ := st
    obtain ⟨xs, x, hq, hx⟩ := hg
    obtain ⟨its, rv, p, hz⟩ := I.tuple hq
    obtain ⟨u, hu, ru⟩ := rv.get hx
    have el : e < s.heap.objs.size := Heap.lt_size he
    have il : it < s.heap.objs.size := by obtain ⟨_, q, _⟩ := hit; exact Heap.lt_size q
    have nai : a ≠ it := fun z => by
      obtain ⟨o, ho, oc, _⟩ := p
      obtain ⟨o2, ho2, oc2, _⟩ := hit
      rw [z, ho2] at ho
      cases ho
      rw [oc2] at oc
      injection oc with q
      exact absurd q (by decide)
    have nae : e ≠ a := fun z => by
      obtain ⟨o, ho, oc, _⟩ := p
      have he2 := he
      unfold IsEnum at he2
      rw [z, ho] at he2
      cases he2
      injection oc with q
      exact absurd q (by decide)
    have hi : i < its.toArray.size := by
      have q := (List.getElem?_eq_some_iff.mp hu).1
      simpa using q
    refine wpAny_pyNext_enum_itemD (Draws.tuple (by simpa using I.ok.hd hc) it a nai its.toArray) he ⟨hit, p⟩ hi hne (by simp [hne, nae]) fun y h' tk hy ho hst hT hsz hk => ?_
    have ey : y = u := by
      have q : its.toArray[i]? = some y := hy
      rw [List.getElem?_toArray, hu] at q
      exact (Option.some.inj q).symm
    subst ey
    refine ⟨_, rfl, wpAny_letOwnedTupleGo_enum (s := { s with heap := h', toks := tk + 1 }) ho fun h2 he' sb => ?_⟩
    have hT2 : h2.get? s.heap.objs.size = some { cls := .type "tuple", data := .seq #[.int i tk, y] } := (sb.2 _ (Nat.ne_of_gt el)).trans hT
    have nw : ObjOk X.prog X.w (upd H s.heap.objs.size (.tup [.int (i : Nat), x])) h2 s.heap.objs.size (.tup [.int (i : Nat), x]) := ⟨by show 2 ≤ sizeLine; decide, [.int i tk, y], .cons ⟨_, rfl⟩ (.cons ru .nil), ⟨_, hT2, rfl, _, rfl⟩⟩
    have I1 : Inv X pins σ (upd H s.heap.objs.size (.tup [.int (i : Nat), x])) { s with heap := h2, toks := tk + 1 } := I.turnedNew (ch := [e, it]) (fun b ob hb q => by
        have b1 : b ≠ e := fun z => hb (by simp [z])
        have b2 : b ≠ it := fun z => hb (by simp [z])
        exact (sb.2 b b1).trans (hk b ob b1 b2 q)) hf (Nat.le_refl _) nw
    refine ⟨.ref s.heap.objs.size, _, I1, rfl, ⟨_, x, rfl, I.hok.fresh (Nat.le_refl _), rfl, fun ys hy => by rw [I.tuple_inj hy hq]; exact hx⟩, ⟨⟨y, ?_⟩, ?_, hne⟩, fun b hb => ?_⟩
    · rw [show ((i + 1 : Nat) : Int) = (i : Int) + 1 by omega]; exact he'
    · obtain ⟨o, ho2, r2⟩ := hst.1
      exact ⟨o, (sb.2 it (Ne.symm hne)).trans ho2, r2⟩
    · have hb2 : b < s.heap.objs.size := by
        rcases List.mem_cons.mp hb with z | z
        · rw [z]; exact el
        · rw [List.mem_singleton.mp z]; exact il
      rw [upd_ne (Nat.ne_of_lt hb2)]
      exact (hf b hb).1
  done := by
    intro X hP hw hK hc i pins s σ H E I hf st hg
    subst hP hw hK
    obtain ⟨⟨old, he⟩, hit, hne⟩ := st
    obtain ⟨xs, hq, hx⟩ := hg
    obtain ⟨its, rv, p, hz⟩ := I.tuple hq
    obtain ⟨f0, f1, f2, f3, f4, f5⟩ := hf it (by simp)
    have hl := rv.length
    have ei : i = its.toArray.size := by simp; omega
    have nai : a ≠ it := fun z => by
      obtain ⟨o, ho, oc, _⟩ := p
      obtain ⟨o2, ho2, oc2, _⟩ := hit
      rw [z, ho2] at ho
      cases ho
      rw [oc2] at oc
      injection oc with q
      exact absurd q (by decide)
    subst ei
    exact wpAny_pyNext_enum_endD (Draws.tuple (by simpa using I.ok.hd hc) it a nai its.toArray) he ⟨hit, p⟩ fun h' eb => ⟨rfl, I.turned (t' := s.toks) (fun b o hb q => eb b o hb q) f0 f1 f3 f4 f5⟩
  self := fun A i s Q E st h => let ⟨⟨_, he⟩, _⟩ := st; wpAny_pyIter_enum he h

def iEnumT (K : PySem.W.Frag) (ta : TA) : TI := fun σ H R => ta σ H fun vs H1 => ∃ a xs, vs = [.ref a] ∧ SqT K H1 a xs ∧ R (IteT K a) H1
/-- for i, x in enumerate(t), t a tuple -/
theorem pi_enumT {X : Cx} {e : Expr} {ta : TA} {p pos tpos : Pos} {elts : List Expr} {kk : Nat} (hg : Gl X "enumerate") (hm : X.mg "enumerate" = none) (ha : PA X [e] ta) (hs : starEach [e] X.env = [(false, eval e X.env)] := by rfl) :
    PI X (.Tuple elts kk tpos) (.Call (.Name "enumerate" p) [e] [] pos) (iEnumT X.K ta) := by
  refine ⟨fun pins s σ H R I h => Call_ (ld_blt I hg hm boot_enumerate (PyProof.Rows.callWith_type1 (thn (ha.run pos pins s σ H _ I h) fun us s1 hh => ?_) hs rfl))⟩
  obtain ⟨vs, H1, I1, r1, a, xs, rfl, hq, q⟩ := hh
  cases r1 with
  | cons r rr =>
    cases rr
    cases r
    obtain ⟨its, rv, pt, hz⟩ := I1.tuple hq
    refine enumT_call pt fun h' he hit hsz hk => wpAny_pyIter_enum he ?_
    refine ⟨s1.heap.objs.size + 1, [s1.heap.objs.size + 1, s1.heap.objs.size], _, _, H1, rfl, I1.kept (t' := s1.toks) hk, turn_enumT a (s1.heap.objs.size + 1) s1.heap.objs.size, ⟨⟨.none, he⟩, hit, Nat.succ_ne_self _⟩, fun b hb => ?_, q⟩
    have hle : s1.heap.objs.size ≤ b := by
      rcases List.mem_cons.mp hb with z | z
      · rw [z]; exact Nat.le_add_right _ _
      · rw [List.mem_singleton.mp z]; exact Nat.le_refl _
    exact I1.fpOk hle (I1.hok.fresh hle)
theorem walk_enumT {K : PySem.W.Frag} {a : Addr} {xs : List V} : Walk (IteT K a) xs.length (fun H => SqT K H a xs) (YPair (fun i => some (.int (i : Nat))) (fun i => xs[i]?)) := by
  refine ⟨fun i _ hi q => ⟨xs, xs[i], q, by simp [hi]⟩, fun _ q => ⟨xs, q, rfl⟩, fun i H v H' _ q y => ?_⟩
  obtain ⟨T, x, h1, h2, h3, h4⟩ := y
  exact ⟨T, .int (i : Nat), x, h1, h2, h3, rfl, h4 xs q⟩
section
variable {K : PySem.W.Frag} {σ : L2.St} {H : Hp} {t : TT} {te : TE}
/-- [e for x in t], t a tuple -/
theorem el_lcT {a : Addr} {xs : List V} {tl : TE} {j : Nat} {vs : List Nat} (f : Nat → Bool) (v : Nat → V) (h : Ev tl σ H (.ref a)) (hx : SqT K H a xs) (hz : xs.length ≤ 40000) (hw : ∀ x, wipe ((wipe σ vs).set j (some x)) vs = wipe σ vs)
    (ht : ∀ (i : Nat) (x : V) H1, Ex H H1 → xs[i]? = some x → EvT t ((wipe σ vs).set j (some x)) H1 (f i)) (he : ∀ (i : Nat) (x : V) H1, Ex H H1 → xs[i]? = some x → f i = true → Ev te ((wipe σ vs).set j (some x)) H1 (v i)) :
    EvL (tLc (iTup K tl) (gName j) t te vs) σ H (given xs.length f v) := fun H0 e Q q => h H0 e _ fun H1 e1 => ⟨a, rfl, ⟨xs, ex_t (e.trans e1) hx⟩, fun Dl hD =>
  lc_it (walk_tup (K := K) (a := a) (xs := xs)) (Cw H1 f v Dl) ⟨hD, Ex.new hD, upd_same⟩ (fun i H' _ p => ex_t ((e.trans e1).trans p.2.1) hx)
    (fun i x H' H2 hi p y => by
      obtain ⟨rfl, hxi⟩ := y
      exact ⟨hw x, cw_turn p (by omega) (ht i x H1 (e.trans e1) hxi) (fun hf => he i x H1 (e.trans e1) hxi hf)⟩)
    (fun H' p => q Dl H' (fresh_back e1 p.1) (e1.trans p.2.1) p.2.2)⟩
theorem given_all (n : Nat) (v : Nat → V) : given n (fun _ => true) v = (List.range n).map v := by
  unfold given
  rw [List.filter_eq_self.mpr (fun _ _ => rfl)]
theorem et_yes : EvT tYes σ H true := fun H1 _ _ q => q H1 (Ex.refl H1)
/-- all([..]) of flags -/
theorem ev_allL {bs : List Bool} {ta : TE} (h : EvL ta σ H (bs.map V.bl)) : Ev (tCB (rAll K) (tCons ta tNil)) σ H (.bl (bs.all id)) := fun H1 e Q q =>
  h H1 e _ fun p H2 _ e2 hp => ⟨p, bs, rfl, sq_of hp, q H2 e2⟩
/-- all([test(x) for x in t]) -/
theorem ev_allT {a : Addr} {xs : List V} {tl : TE} {j : Nat} {vs : List Nat} (g : Nat → Bool) (h : Ev tl σ H (.ref a)) (hx : SqT K H a xs) (hz : xs.length ≤ 40000) (hw : ∀ x, wipe ((wipe σ vs).set j (some x)) vs = wipe σ vs)
    (he : ∀ (i : Nat) (x : V) H1, Ex H H1 → xs[i]? = some x → Ev te ((wipe σ vs).set j (some x)) H1 (.bl (g i))) :
    Ev (tCB (rAll K) (tCons (tLc (iTup K tl) (gName j) tYes te vs) tNil)) σ H (.bl (((List.range xs.length).map g).all id)) :=
  ev_allL (by
    have q := el_lcT (K := K) (te := te) (fun _ => true) (fun i => .bl (g i)) h hx hz hw (fun _ _ _ _ _ => et_yes) fun i x H1 e hxi _ => he i x H1 e hxi
    rw [given_all] at q
    rw [List.map_map]
    exact q)
end
section
variable {K : PySem.W.Frag} {σ : L2.St} {H : Hp} {ta tb te : TE}
theorem ev_lenT {p : Addr} {xs : List V} (ha : Ev ta σ H (.ref p)) (h : SqT K H p xs) : Ev (tCB (rLenS K) (tCons ta tNil)) σ H (.int (xs.length : Int)) := fun H1 e Q q =>
  ha H1 e _ fun H2 e2 => ⟨p, xs, rfl, Or.inr (ex_t (e.trans e2) h), q H2 e2⟩
theorem all_get {α : Type} (ds : List α) (p : α → Bool) : ((List.range ds.length).map (fun i => ((ds[i]?).map p).getD false)).all id = ds.all p := by
  have e : (List.range ds.length).map (fun i => ((ds[i]?).map p).getD false) = ds.map p := by
    apply List.ext_getElem
    · simp
    · intro i h1 h2
      have hi : i < ds.length := by simpa using h1
      simp [hi]
  rw [e, List.all_map]
  rfl
end
section
variable {K : PySem.W.Frag} {σ : L2.St} {H : Hp} {g : TG} {tu tz : TS} {D : Ends}
/-- for i, x in enumerate(t) -/
theorem s_forEn {a : Addr} {xs : List V} {tl : TE} (h : Ev tl σ H (.ref a)) (hx : SqT K H a xs) (Pv : Nat → L2.St → Hp → Prop) (h0 : ∀ H1, Ex H H1 → Pv 0 σ H1) (hl : ∀ i σ' H', i ≤ xs.length → Pv i σ' H' → SqT K H' a xs)
    (hs : ∀ i y T σ' H', xs[i]? = some y → Pv i σ' H' → H' T = none → g (.ref T) σ' (upd H' T (.tup [.int (i : Nat), y])) fun σ2 H2 => tu { D with nx := Pv (i + 1), ct := Pv (i + 1), bk := D.nx } σ2 H2) (hd : ∀ σ' H', Pv xs.length σ' H' → D.nx σ' H') : tFor (iEnumT K (tCons tl tNil)) g tu D σ H :=
  h H (Ex.refl H) _ fun H1 e => ⟨a, xs, rfl, ex_t e hx, for_it (walk_enumT (K := K) (a := a) (xs := xs)) Pv (h0 H1 e) hl (fun i x σ' H2 H3 hi p y => by
    obtain ⟨T, u, y, rfl, hT, rfl, hu, hy⟩ := y
    cases hu
    exact hs i y T σ' H2 hy p hT) hd⟩
theorem q_forEn {a : Addr} {xs : List V} {tl : TE} (h : Ev tl σ H (.ref a)) (hx : SqT K H a xs) (Pv : Nat → L2.St → Hp → Prop) (h0 : ∀ H1, Ex H H1 → Pv 0 σ H1) (hl : ∀ i σ' H', i ≤ xs.length → Pv i σ' H' → SqT K H' a xs)
    (hs : ∀ i y T σ' H', xs[i]? = some y → Pv i σ' H' → H' T = none → g (.ref T) σ' (upd H' T (.tup [.int (i : Nat), y])) fun σ2 H2 => tu { D with nx := Pv (i + 1), ct := Pv (i + 1), bk := tz D } σ2 H2) (hd : ∀ σ' H', Pv xs.length σ' H' → tz D σ' H') : tSeq (tFor (iEnumT K (tCons tl tNil)) g tu) tz D σ H :=
  s_forEn (D := { D with nx := tz D }) h hx Pv h0 hl hs hd
end
end Wk

set_option Elab.async false
set_option linter.all false
set_option maxRecDepth 100000
set_option maxHeartbeats 4000000
namespace Wk
open PySem PySem.Spec PyProof.Rows L2 Evl
/-! an object made, a method called, where what is raised is wished for at the caller's slots -/
section
variable {X : Cx} {CX : CXT} {k : Nat} {f C : Addr} {fd : FuncData} {ps : List Str} {sp : Sp} {W : L2.St → XK} {x m : Str} {p pos apos : Pos} {e o : Expr} {es : List Expr} {ta : TE} {t : TA}
def tMkAt (C : Addr) (sp : Sp) (W : L2.St → XK) (t : TA) : TE := fun σ H Q => t σ H fun vs H1 => ∀ x dx, H1 x = none → H1 dx = none → dx ≠ x → sp (.ref x :: vs) (upd (upd H1 dx (.own x)) x (.ins C dx [])) (fun v H2 => v = .non ∧ Q (.ref x) H2) (W σ)
theorem pe_mkAt (M : Mk X.K C f) (Fn : FnOk X.prog X.w X.K X.mg X.base CX k f fd ps sp) (hr : Room (k + 1) X.A) (hg : Gl X x) (hm : X.mg x = some (.ref C)) (hb : Binds X.K fd ps []) (hx : ∀ σ, PassesAt CX X σ (W σ)) (ha : PA X (e :: es) t)
    (hdb : (x == ("__debug__" : Str)) = false := by decide) (he : starEach (e :: es) X.env = (false, eval e X.env) :: starEach es X.env := by rfl) (hpl : (backTo pos (starEach es X.env)).any (·.1) = false := by rfl) :
    PE X (.Call (.Name x p) (e :: es) [] pos) (tMkAt C sp W t) := by
  refine ⟨fun pins s σ H Q I h => wpAny_Call_Name_kw (ld_glob I hg hm (PySem.W.callWith_K (h₀ := X.base) I.ok.mod.kin M.kp (thn (ha.run pos pins s σ H _ I h) fun us s1 hh => ?_) he hpl) hdb)⟩
  obtain ⟨vs, H1, I1, r, q⟩ := hh
  refine ⟨I1.kIn, ?_⟩
  have hq := q (s1.heap.objs.size + 1) s1.heap.objs.size (I1.hok.fresh (Nat.le_succ _)) (I1.hok.fresh (Nat.le_refl _)) (Nat.ne_of_lt (Nat.lt_succ_self _))
  have J := Inv.made (C := C) I1
  have rr : Vals (V.ref (s1.heap.objs.size + 1) :: vs) (Value.ref (s1.heap.objs.size + 1) :: us) := .cons rfl r
  have hl : (Value.ref (s1.heap.objs.size + 1) :: us).length = ps.length := rr.length.symm.trans (Fn.len _ _ _ _ hq)
  have bd := hb _ (Value.ref (s1.heap.objs.size + 1) :: us) J.kIn (by rw [List.append_nil]; exact hl)
  rw [List.append_nil] at bd
  refine wpAny_call (make_map (f := f) I1.kIn M.makes M.init (beq_iff_eq.mp M.fn) (codeAny_mono (Fn.run _ X.stack _ _ ⟨_, []⟩ _ _ _ (W σ) (hr.make C us []) (J.env0.make C us []) bd rr hq) fun r s' out => ?_))
  cases r with
  | error er => exact hx σ pins _ _ er s' J out
  | ok fl =>
    cases fl with
    | ret u =>
      obtain ⟨v, H', I3, rv, ev, q3⟩ := J.after out
      subst ev
      exact ⟨rv, ⟨V.ref (s1.heap.objs.size + 1), H', I3, rfl, q3⟩⟩
    | next => exact False.elim out
    | brk => exact False.elim out
    | cont => exact False.elim out
def tMeAt (C : Addr) (m : Str) (sp : Sp) (W : L2.St → XK) (ta : TE) (t : TA) : TE := fun σ H Q => ta σ H fun x H1 => ∃ a dx fs, x = .ref a ∧ H1 a = some (.ins C dx fs) ∧ fs.lookup m = none ∧ t σ H1 fun vs H2 => sp (x :: vs) H2 Q (W σ)
theorem pe_meAt {pl : Sem Bool} (ho : PE X o ta) (c : Cls X.K C) (hm : Meth X.K C m f) (Fn : FnOk X.prog X.w X.K X.mg X.base CX k f fd ps sp) (hr : Room k X.A) (hb : Binds X.K fd ps []) (hx : ∀ σ, PassesAt CX X σ (W σ)) (ha : PA X (e :: es) t)
    (hst : starEach (e :: es) X.env = (false, eval e X.env) :: starEach es X.env := by rfl) (hpl : (backTo pos (starEach es X.env)).any (·.1) = false := by rfl)
    (ht : eval (.Call (.Attribute o m apos) (e :: es) [] pos) X.env = (do
      let ov ← eval o X.env
      standAt apos.atName
      let (f, first) ← holding [ov] (getMethod ov m pl)
      callWith pos f first (backTo pos (starEach (e :: es) X.env)) (backToKw pos (keywordEach [] X.env))) := by rfl) :
    PE X (.Call (.Attribute o m apos) (e :: es) [] pos) (tMeAt C m sp W ta t) := by
  refine ⟨fun pins s σ H Q I h => PySem.W.methodCall_KW (pl := pl) (thn (ho.run pins s σ H _ I h) fun u s1 hh => ?_) ht⟩
  obtain ⟨x, H1, I1, rx, a, dx, fs, ex, ea, l, q⟩ := hh
  subst ex
  obtain rfl : u = Value.ref a := rx
  refine getmeth_ok I1 ea c hm l (PySem.W.callWith_K (first := [.ref a]) (h₀ := X.base) I.ok.mod.kin hm.kp (thn (ha.run pos pins s1 σ H1 _ I1 q) fun us s2 hh => ?_) hst hpl)
  obtain ⟨vs, H2, I2, r, q2⟩ := hh
  exact ⟨I2.kIn, run_fnS (us := .ref a :: us) (vs := .ref a :: vs) Fn hr hb (hx σ) I2 (.cons rfl r) q2⟩
end
/-! an own error with one field -/
/-- __init__ of such an error: self.router = router -/
def spXI (C : Addr) : Sp := fun vs H Q _ => ∃ (a : Addr) (y : V), vs = [.ref a, y] ∧ H a = some (exo a C none) ∧ ∀ dx, H dx = none → dx ≠ a → Q .non (upd (upd H dx (exd dx [("router", y)])) a (exo a C (some dx)))
/-- X(e) is made: where the error's dict is -/
theorem mk_err {C : Addr} {te : TE} {σ : L2.St} {H : Hp} {y : V} {W : XK} (h : Ev te σ H y) (k : ∀ d H', H d = none → Ex H H' → H' d = some (.xd [("router", y)]) → W (.ref C) (some d) H') : tMkO C (spXI C) [] (tCons te tNil) σ H W := by
  refine h H (Ex.refl H) _ fun H1 e => ⟨by show 1 ≤ 1000; decide, fun a ha => ?_⟩
  refine ⟨a, y, rfl, upd_same, fun dx hd hne => ⟨rfl, dx, [("router", y)], upd_same, by rw [upd_ne hne, upd_same], ?_, ?_⟩⟩
  · rw [upd_ne hne] at hd
    exact hd
  · have hd1 : H1 dx = none := by rw [upd_ne hne] at hd; exact hd
    refine k dx _ (fresh_back e hd1) (fun b o hb => ?_) upd_same
    have hb1 := e b o hb
    have nb : b ≠ dx := ne_of_none hb1 hd1
    have na : b ≠ a := ne_of_none hb1 ha
    rw [upd_ne nb, del_ne na, upd_ne na, upd_ne nb, upd_ne na]
    exact hb1
/-! parts of tuples -/
section
variable {K : PySem.W.Frag} {σ : L2.St} {H : Hp} {ta tb te : TE}
/-- what stands in a tuple (an old one or a new one) -/
def EvS (te : TE) (σ : L2.St) (H : Hp) (xs : List V) : Prop := ∀ H1, Ex H H1 → ∀ Q : VK, (∀ p H2, Ex H1 H2 → H2 p = some (.tup xs) → Q (.ref p) H2) → te σ H1 Q
theorem es_sl {a : Addr} {xs : List V} {tl th : TO} {lo hi : Option Int} (h : Ev te σ H (.ref a)) (h1 : EvO tl σ H lo) (h2 : EvO th σ H hi) (hs : H a = some (.tup xs)) : EvS (tSl (rSlA K) te tl th) σ H (cutV xs lo hi) := fun H1 e Q q =>
  h H1 e _ fun H2 e2 => h1 H2 (e.trans e2) _ fun H3 e3 => h2 H3 ((e.trans e2).trans e3) _ fun H4 e4 => by
    have hs4 := (((e.trans e2).trans e3).trans e4) _ _ hs
    refine ⟨a, xs, rfl, st_of hs4, fun hw => ?_, fun hw p hp => q p _ (((e2.trans e3).trans e4).trans (Ex.new hp)) upd_same⟩
    have ec : cutV xs lo hi = xs := by
      unfold cutV
      rw [hw.1, hw.2]
      simp
    rw [ec] at q
    exact q a H4 ((e2.trans e3).trans e4) hs4
theorem es_cat {xs ys : List V} (ha : EvS ta σ H xs) (hb : EvS tb σ H ys) (hz : xs.length + ys.length ≤ 100000) : EvS (tOp (rCatA K) ta tb) σ H (xs ++ ys) := fun H1 e Q q =>
  ha H1 e _ fun p H2 e2 hp => hb H2 (e.trans e2) _ fun p' H3 e3 hp' => by
    have hp3 := e3 _ _ hp
    refine ⟨p, p', xs, ys, rfl, rfl, st_of hp3, st_of hp', sz_of hz, fun hx => ?_, fun _ hy => ?_, fun _ _ r hr => q r _ ((e2.trans e3).trans (Ex.new hr)) upd_same⟩
    · rw [hx] at q
      exact q p' H3 (e2.trans e3) hp'
    · rw [hy, List.append_nil] at q
      exact q p H3 (e2.trans e3) hp3
theorem es_tup {t : TA} {xs : List V} (h : EvA t σ H xs) (hz : xs.length ≤ 100000) : EvS (tTup t) σ H xs := fun H1 e Q q => eu_tup h hz H1 e Q fun p H2 _ e2 hp => q p H2 e2 hp
theorem es_var {a : Addr} {xs : List V} (h : Ev te σ H (.ref a)) (hs : H a = some (.tup xs)) : EvS te σ H xs := fun H1 e Q q => h H1 e _ fun H2 e2 => q a H2 e2 ((e.trans e2) _ _ hs)
theorem es_mono {xs : List V} {H' : Hp} (e : Ex H H') (h : EvS te σ H xs) : EvS te σ H' xs := fun H1 e1 Q q => h H1 (e.trans e1) Q q
end
/-! x in t, t a tuple of data -/
section
variable {X : Cx}
def rInU (K : PySem.W.Frag) : R2 := fun x y H Q => ∃ d ds, Dp K H x d ∧ Dp K H y (.tuple ds) ∧ SeqAt.shaped d = true ∧ PyData.canLayAll0 ds = true ∧ Q (.bl (ds.any fun z => PyData.eqv z d)) H
def rNotInU (K : PySem.W.Frag) : R2 := fun x y H Q => ∃ d ds, Dp K H x d ∧ Dp K H y (.tuple ds) ∧ SeqAt.shaped d = true ∧ PyData.canLayAll0 ds = true ∧ Q (.bl (!ds.any fun z => PyData.eqv z d)) H
theorem op_inU (hu : X.A.units + 66 < cLine) : OpR X (compareOp .In) (rInU X.K) := fun pins s σ H x y v u Q I rx ry h => by
  obtain ⟨d, ds, hd, he, sd, se, q⟩ := h
  obtain ⟨as, r1⟩ := Dp.reads I d x v hd rx
  obtain ⟨bs, r2⟩ := Dp.reads I (.tuple ds) y u he ry
  have hdp := SeqAt.depth_of_shaped sd
  exact SeqAt.in_tuple_reads r2 r1 se (SeqAt.canLay_of_shaped sd) (by have := Nat.min_le_right (PyData.depthAll ds) d.depth; omega) ⟨.bl _, H, I, rfl, q⟩
theorem op_notInU (hu : X.A.units + 66 < cLine) : OpR X (compareOp .NotIn) (rNotInU X.K) := fun pins s σ H x y v u Q I rx ry h => by
  obtain ⟨d, ds, hd, he, sd, se, q⟩ := h
  obtain ⟨as, r1⟩ := Dp.reads I d x v hd rx
  obtain ⟨bs, r2⟩ := Dp.reads I (.tuple ds) y u he ry
  have hdp := SeqAt.depth_of_shaped sd
  exact SeqAt.notIn_tuple_reads r2 r1 se (SeqAt.canLay_of_shaped sd) (by have := Nat.min_le_right (PyData.depthAll ds) d.depth; omega) ⟨.bl _, H, I, rfl, q⟩
end
end Wk

set_option Elab.async false
set_option linter.all false
set_option maxRecDepth 100000
set_option maxHeartbeats 4000000
namespace Wk
open PySem PySem.Spec PyProof.Rows L2 Evl SeqAt
/-! == of a sequence and the empty one: by the lengths alone -/
section
variable {X : Cx}
def rEqEL (K : PySem.W.Frag) : R2 := fun x y H Q => ∃ a b xs, x = .ref a ∧ y = .ref b ∧ SqL K H a xs ∧ SqL K H b [] ∧ Q (.bl xs.isEmpty) H
theorem op_eqEL (hu : X.A.units < cLine) : OpR X (compareOp .Eq) (rEqEL X.K) := fun pins s σ H x y v u Q I rx ry h => by
  obtain ⟨a, b, xs, rfl, rfl, ha, hb, q⟩ := h
  cases rx
  cases ry
  obtain ⟨its, r1, p1, _⟩ := I.list ha
  obtain ⟨its2, r2, p2, _⟩ := I.list hb
  cases r2
  cases r1 with
  | nil => exact eq_listAt (e := fun _ => true) p1.isList p2.isList rfl hu (fun j h1 _ => absurd h1 (by simp)) ⟨.bl true, H, I, rfl, q⟩
  | cons r rr => exact eq_list_lengthsAt p1.isList p2.isList (by simp) hu ⟨.bl false, H, I, rfl, q⟩
def rEqEU (K : PySem.W.Frag) : R2 := fun x y H Q => ∃ a b xs, x = .ref a ∧ y = .ref b ∧ SqT K H a xs ∧ SqT K H b [] ∧ Q (.bl xs.isEmpty) H
theorem op_eqEU (hu : X.A.units < cLine) : OpR X (compareOp .Eq) (rEqEU X.K) := fun pins s σ H x y v u Q I rx ry h => by
  obtain ⟨a, b, xs, rfl, rfl, ha, hb, q⟩ := h
  cases rx
  cases ry
  obtain ⟨its, r1, p1, _⟩ := I.tuple ha
  obtain ⟨its2, r2, p2, _⟩ := I.tuple hb
  cases r2
  refine eq_tupleAt (e := fun _ => true) p1 p2 hu (fun j _ h2 => absurd h2 (by simp)) ⟨.bl xs.isEmpty, H, I, ?_, q⟩
  cases r1 <;> rfl
def rNeEU (K : PySem.W.Frag) : R2 := fun x y H Q => ∃ a b xs, x = .ref a ∧ y = .ref b ∧ SqT K H a xs ∧ SqT K H b [] ∧ Q (.bl (!xs.isEmpty)) H
theorem op_neEU (hu : X.A.units < cLine) : OpR X (compareOp .NotEq) (rNeEU X.K) := fun pins s σ H x y v u Q I rx ry h => by
  obtain ⟨a, b, xs, rfl, rfl, ha, hb, q⟩ := h
  cases rx
  cases ry
  obtain ⟨its, r1, p1, _⟩ := I.tuple ha
  obtain ⟨its2, r2, p2, _⟩ := I.tuple hb
  cases r2
  refine RcNeAt.tuples (e := fun _ => true) p1 p2 hu (fun j _ h2 => absurd h2 (by simp)) X.prog X.w _ _ ⟨.bl (!xs.isEmpty), H, I, ?_, q⟩
  cases r1 <;> rfl
end
/-! a dict and a tuple are unlike -/
theorem dictEqTup (l b : Addr) (o : Obj) (hoc : o.cls = .type "dict") (its : Array Value) (n : Nat) (dd : Option Addr) (sl : Array (Option Value)) :
    Meets (Builtin.«dict.__eq__» ⟨[.ref l, .ref b], []⟩) (fun _ R s => s.heap.get? l = some o ∧ s.heap.get? b = some { cls := .type "tuple", dict := dd, data := .seq its n, slots := sl } ∧ R (.ok (.ret .notImplemented)) s) :=
  .of_wp fun prog w A R s h => by
    obtain ⟨hp, g, d, tk, os⟩ := s
    obtain ⟨hl, hb, h⟩ := h
    obtain ⟨oc, od, dt, os2⟩ := o
    simp only at hoc
    subst hoc
    have f1 := F.sub_tuple_dict
    wp_walk using wpAny_loadPart' hl, wpAny_loadPart' hb
    exact ⟨_, rfl, h⟩
theorem tupEqDict (l b : Addr) (o : Obj) (hoc : o.cls = .type "dict") (its : Array Value) (n : Nat) (dd : Option Addr) (sl : Array (Option Value)) :
    Meets (Builtin.«tuple.__eq__» ⟨[.ref b, .ref l], []⟩) (fun _ R s => s.heap.get? b = some { cls := .type "tuple", dict := dd, data := .seq its n, slots := sl } ∧ s.heap.get? l = some o ∧ R (.ok (.ret .notImplemented)) s) :=
  .of_wp fun prog w A R s h => by
    obtain ⟨hp, g, d, tk, os⟩ := s
    obtain ⟨hb, hl, h⟩ := h
    obtain ⟨oc, od, dt, os2⟩ := o
    simp only at hoc
    subst hoc
    have f1 := F.sub_dict_tuple
    wp_walk using wpAny_loadPart' hl, wpAny_loadPart' hb
    exact ⟨_, rfl, h⟩
section
variable {A : Around} {s : Shared}
theorem eqAt_dictTup {l b : Addr} {o : Obj} {its : Array Value} (hl : s.heap.get? l = some o) (hoc : o.cls = .type "dict") (hb : s.heap.IsTuple b its) (hu : A.units < cLine) : EqAt A s (.ref l) (.ref b) false := by
  obtain ⟨⟨c2, dd, dt, sl⟩, ho2, hc2, n, hd2⟩ := hb
  simp only at hc2 hd2
  subst hc2 hd2
  have hne : l ≠ b := fun z => by
    rw [z, ho2] at hl
    cases hl
    exact absurd hoc (by simp)
  refine EqAt.of_refs hne fun prog w E Q h => ?_
  exact rc_eq_decline_or (k := false) ⟨_, hl, hoc⟩ ⟨_, ho2, rfl⟩ (by decide) F.sub_tuple_dict F.slot_dict_eq F.slot_tuple_eq_refl
    (fun _ hq => call_meets F.slot_dict_eq ⟨_, hl, hoc⟩ F.entry_dict_eq (F.args_dict_eq_2 _ _) (dictEqTup l b o hoc its n dd sl) ⟨hl, ho2, hq⟩)
    (fun _ hq => call_meets F.slot_tuple_eq_refl ⟨_, ho2, rfl⟩ F.entry_tuple_eq (F.args_tuple_eq_2 _ _) (tupEqDict l b o hoc its n dd sl) ⟨ho2, hl, hq⟩)
    (fun _ hq => wpAny_isSame_ref_other hne hl ho2 (by rw [hoc]; simp) hq) (.inr hu) h
end
/-- an item of an edited row -/
def Itm (d : PyData) : Prop := d = .dict [] ∨ (d.canLay0 = true ∧ d.depth ≤ 8)
section
variable {X : Cx}
/-- x not in l, l a list of such items, x a tuple: a flag -/
def rNotInX (K : PySem.W.Frag) : R2 := fun x y H Q => ∃ a p ds vs es, x = .ref a ∧ y = .ref p ∧ H p = some (.lst vs) ∧ DqA H vs ds ∧ (∀ d ∈ ds, Itm d) ∧ Dq H (.ref a) (.tuple es) ∧ PyData.canLay0 (.tuple es) = true ∧ ∀ b : Bool, Q (.bl b) H
theorem op_notInX (hu : X.A.units + 66 < cLine) : OpR X (compareOp .NotIn) (rNotInX X.K) := fun pins s σ H x y v u Q I rx ry h => by
  obtain ⟨a, p, ds, vs, es, rfl, rfl, hp, hds, hi, hx, cx, q⟩ := h
  cases rx
  cases ry
  obtain ⟨its, r1, p1, _⟩ := I.list (sq_of hp)
  have hxp := hx
  cases hxp with
  | tup h1 h2 =>
    obtain ⟨as, rx⟩ := Dp.reads I (.tuple es) (.ref a) (.ref a) (Dq.dp (K := X.K) cx hx) rfl
    obtain ⟨its2, r2, p2, _⟩ := I.tuple (st_of h1)
    have key : ∀ y ∈ its, ∃ b, EqAt X.A.in1 s y (.ref a) b := fun y hy => by
      obtain ⟨i, hiy⟩ := List.mem_iff_getElem?.mp hy
      have hil : i < vs.length := by
        have := (List.getElem?_eq_some_iff.mp hiy).1
        rw [r1.length]; exact this
      have hv : vs[i]? = some vs[i] := List.getElem?_eq_getElem hil
      obtain ⟨u2, hu2, ru⟩ := r1.get hv
      rw [hiy] at hu2
      cases hu2
      obtain ⟨d, ed, hd⟩ := hds.get hv
      rcases hi d (List.mem_of_getElem? ed) with z | ⟨z, zd⟩
      · subst z
        generalize hvv : vs[i] = vv at *
        cases hd with
        | dic hdd =>
          cases ru
          obtain ⟨_, _, vs2, _, o, es2, ep, g1, g2, _⟩ := (show ObjOk X.prog X.w H s.heap _ (.dK []) from I.hok _ _ hdd)
          exact ⟨false, eqAt_dictTup g1 g2.1 p2 (by show X.A.in1.units < cLine; simp; omega)⟩
      · obtain ⟨bs, ry⟩ := Dp.reads I d vs[i] y (Dq.dp (K := X.K) z hd) ru
        exact ⟨_, eqAt_reads d (.tuple es) X.A.in1 s y (.ref a) bs as ry rx z cx (by
          have hm := Nat.min_le_left d.depth (PyData.tuple es).depth
          show X.A.in1.units + _ < cLine
          simp
          omega)⟩
    have key2 : ∃ e : Value → Bool, ∀ y, y ∈ its.toArray → EqAt X.A.in1 s y (.ref a) (e y) := by
      refine ⟨fun y => @decide (EqAt X.A.in1 s y (.ref a) true) (Classical.propDecidable _), fun y hy => ?_⟩
      obtain ⟨b, hb⟩ := key y (by simpa using hy)
      by_cases c : EqAt X.A.in1 s y (.ref a) true
      · simp only [c, decide_true]
      · simp only [c, decide_false]
        cases b with
        | false => exact hb
        | true => exact absurd hb c
    obtain ⟨e, he⟩ := key2
    exact notIn_listAt e p1.isList he ⟨.bl _, H, I, rfl, q _⟩
end
end Wk

set_option Elab.async false
set_option linter.all false
set_option maxRecDepth 100000
set_option maxHeartbeats 4000000
namespace Wk
open PySem PySem.Spec PyProof.Rows L2 Evl
/-! how many are unlike -/
theorem nd_le {α : Type} [DecidableEq α] : ∀ (l D : List α), l.Nodup → (∀ x ∈ l, x ∈ D) → l.length ≤ D.length
  | [], _, _, _ => Nat.zero_le _
  | x :: l, D, hn, hs => by
    have hn' := List.nodup_cons.mp hn
    have hx : x ∈ D := hs x List.mem_cons_self
    have ih := nd_le l (D.erase x) hn'.2 fun y hy => (List.mem_erase_of_ne (fun (e : y = x) => hn'.1 (by rw [← e]; exact hy))).2 (hs y (List.mem_cons_of_mem _ hy))
    have e := List.length_erase_of_mem hx
    have hp : 0 < D.length := List.length_pos_of_mem hx
    simp only [List.length_cons]
    omega
theorem dup_less {α : Type} [DecidableEq α] : ∀ (D : List α), ¬ D.Nodup → ∃ D' : List α, (∀ x ∈ D, x ∈ D') ∧ D'.length < D.length
  | [], h => absurd List.nodup_nil h
  | x :: D, h => by
    by_cases hx : x ∈ D
    · exact ⟨D, fun y hy => (List.mem_cons.mp hy).elim (fun e => by rw [e]; exact hx) id, Nat.lt_succ_self _⟩
    · have hD : ¬ D.Nodup := fun z => h (List.nodup_cons.mpr ⟨hx, z⟩)
      obtain ⟨D', h1, h2⟩ := dup_less D hD
      exact ⟨x :: D', fun y hy => (List.mem_cons.mp hy).elim (fun e => by rw [e]; exact List.mem_cons_self) (fun e => List.mem_cons_of_mem _ (h1 y e)), Nat.succ_lt_succ h2⟩
theorem nd_iff {α : Type} [DecidableEq α] {l D : List α} (hn : l.Nodup) (h : ∀ x, x ∈ l ↔ x ∈ D) : l.length = D.length ↔ D.Nodup := by
  constructor
  · intro e
    apply Classical.byContradiction
    intro hD
    obtain ⟨D', h1, h2⟩ := dup_less D hD
    have := nd_le l D' hn fun x hx => h1 x ((h x).mp hx)
    omega
  · intro hD
    have h1 := nd_le l D hn fun x hx => (h x).mp hx
    have h2 := nd_le D l hD fun x hx => (h x).mpr hx
    omega
section
variable {X : Cx}
/-- len(set(t)), t a tuple of ints -/
def tLenSU (K : PySem.W.Frag) (ta : TE) : TE := fun σ H Q => ta σ H fun x H1 => ∃ (l : Addr) (ns : List Int), x = V.ref l ∧ SqT K H1 l (ns.map V.int) ∧ ns.length < 64 ∧ ∀ n : Nat, (n = ns.length ↔ ns.Nodup) → Q (.int n) H1
theorem pe_lenSU {a : Expr} {ta : TE} {p p2 q pos : Pos} (hc : X.calm = true) (hg : Gl X "len") (hm : X.mg "len" = none) (hg2 : Gl X "set") (hm2 : X.mg "set" = none) (ha : PE X a ta)
    (na : starEach [a] X.env = (false, eval a X.env) :: starEach [] X.env := by rfl) : PE X (.Call (.Name "len" p) [.Call (.Name "set" p2) [a] [] q] [] pos) (tLenSU X.K ta) := by
  refine ⟨fun pins s σ H Q I h => ?_⟩
  refine Call_ (ld_blt I hg hm PySem.boot_len ?_)
  refine PyProof.Rows.callWith_builtin1 (PyProof.Rows.args_cons ?_ rfl) rfl rfl
  refine Call_ (ld_blt I hg2 hm2 PyProof.Rows.boot_set ?_)
  refine PyProof.Rows.callWith_type1 (PyProof.Rows.args_cons (thn (ha.run pins s σ H _ I h) fun v s1 hh => PyProof.Rows.args_nil ?_) na) na rfl
  obtain ⟨x, H1, I1, r1, l, ns, rfl, hq, hlt, q1⟩ := hh
  cases r1
  obtain ⟨its, r, pl, hz⟩ := I1.tuple hq
  refine call_set_tupI (w := X.w) ns (I1.ok.hd hc) pl (by simpa using r.ints) (by unfold scanBound; omega) fun h' tk c hS hc2 hk => ?_
  refine PyProof.Rows.args_nil ?_
  obtain ⟨o, es, ep, t, ho, hex, hd, _, hnd, hiff, _, hf, hn, _⟩ := hS
  have I2 : Inv X pins σ H1 { s1 with heap := h', toks := tk } := I1.kept fun b o e => hk b o e
  refine call_len_set ho hex hd hf (by rw [hn] <;> omega) ⟨.int es.size, H1, I2.tok _, ⟨_, rfl⟩, q1 es.size ?_⟩
  have hl : (es.toList.map keyOf).length = es.size := by simp
  rw [← hl]
  exact nd_iff hnd fun k => by
    have := hiff k
    simp only [decide_eq_true_eq] at this
    exact this.symm
end
/-- the set that set() lays -/
abbrev sO (w : World) : Obj := { cls := .type "set", dict := none, data := .set #[] 0 (.fresh 0 0 (!w.params.followText "set-order")) }
section
variable {P : Program} {w : World} {A : Around} {E : Value → Shared → Prop} {s : Shared}
/-- set(t), t a tuple of tuples of ints -/
theorem set_of_tup2 {l : Addr} {its : Array Value} (ks : List (Addr × List Int)) {Q : Value → Shared → Prop} (nh : A.handled = none) (tl : s.heap.IsTuple l its) (eq : its.toList = ks.map fun p => Value.ref p.1)
    (ki : ∀ p ∈ ks, IsT P w s.heap p.2 p.1) (few : ks.length < 64) (un : A.units + 3 < cLine)
    (fin : ∀ (h' : Heap) (tk : Nat) L es ep t, SetTR P w h' s.heap.objs.size L es ep t → Got ks ks.length L → (∀ b o, s.heap.get? b = some o → h'.get? b = some o) → Q (.ref s.heap.objs.size) { s with heap := h', toks := tk }) :
    wpAny (model P w) A (call (.type "set") [.ref l]) Q E s := by
  have size : its.size = ks.length := by have q := congrArg List.length eq; simpa using q
  obtain ⟨c, rest, mro⟩ := F.called_set.mro
  have made := F.called_set.made; have sub := F.called_set.sub
  refine wpAny_call (codeAny_of_tree (show wpAny _ _ (callAny (.type "set") _) _ _ _ from ?_))
  refine wpAny_pure ⟨Code.quiet_builtin _ (by decide +kernel), codeAny_builtin F.entry_type_call (by
    rw [Around.under_plain (weight_type_call_type "set" [.ref l] []) rfl]
    have nt := F.called_set.notType; have cc := F.called_set.canCreate; have tc := F.typeCall_set_1 (.ref l)
    repeat (any_goals (first | assumption | wp_step))
    refine codeAny_mono (code_set_led1 (.ref l) (E := E) (Q₁ := fun ob s1 => ob = .ref s.heap.objs.size ∧ s1 = { s with heap := s.heap.push (sO w) }) ⟨rfl, rfl⟩) fun r s1 hr => ?_
    cases r with
    | error e => exact hr
    | ok fl =>
      cases fl with
      | ret ob =>
        obtain ⟨rfl, rfl⟩ := hr
        have hS : (s.heap.push (sO w)).get? s.heap.objs.size = some (sO w) := Heap.get?_push_size _ rfl
        have hT : Shared.TypeIs { s with heap := s.heap.push (sO w) } (.ref s.heap.objs.size) "set" := ⟨_, hS, rfl⟩
        have li := F.called_set.init.lookup; have bi := F.called_set.init.bind (.ref s.heap.objs.size)
        repeat (any_goals (first | assumption | wp_step))
        refine codeAny_mono (codeAny_call_builtin (R := wants (fun r s2 => r = .none ∧ ∃ h' tk L es ep t, s2 = { s with heap := h', toks := tk } ∧ SetTR P w h' s.heap.objs.size L es ep t ∧ Got ks ks.length L ∧ (∀ b o, s.heap.get? b = some o → h'.get? b = some o)) E)
          F.called_set.init.plain F.entry_set_init (check_set_init_1 hT ?_)) fun r2 s2 hr2 => ?_
        · obtain ⟨⟨oc, od, dt, sl⟩, ol, cl, n, dl⟩ := tl
          simp only at cl dl; subst cl; subst dl
          have ol1 : (s.heap.push (sO w)).get? l = some { cls := .type "tuple", dict := od, data := .seq its n, slots := sl } := Heap.get?_push_of_some _ ol
          have b1 := F.sub_tuple_set; have b2 := F.sub_tuple_frozenset
          have b3 : (Value.type "tuple" == Value.type "dict") = false := by decide
          have tl1 : (s.heap.push (sO w)).IsTuple l its := ⟨_, ol1, rfl, n, rfl⟩
          unfold Builtin.«set.__init__» noKeywords Builtin.Frozenset.updateFrom
          generalize hPI : pyIter = PI
          wp_walk
          subst hPI
          refine wpAny_pyIter_tuple tl1 (wpAny_bind (wpAny_runValue ?_))
          have lt : l < s.heap.objs.size := Heap.lt_size ol
          have nh3 : A.in1.in1.in1.handled = none := by simp [nh]
          have ne1 : l ≠ (s.heap.push (sO w)).objs.size := by rw [Heap.size_push]; exact Nat.ne_of_lt (Nat.lt_succ_of_lt lt)
          have nin : s.heap.objs.size ∉ [(s.heap.push (sO w)).objs.size, l] := by
            rw [Heap.size_push]
            intro z
            rcases List.mem_cons.mp z with z | z
            · exact absurd z (Nat.ne_of_lt (Nat.lt_succ_self _))
            · exact absurd (List.mem_singleton.mp z) (Nat.ne_of_gt lt)
          have val : ∀ (i : Nat) (v : Value), its[i]? = some v → ∃ p, ks[i]? = some p ∧ v = .ref p.1 := fun i v hv => by
            have q : its.toList[i]? = some v := (Array.getElem?_toList ..).trans hv
            rw [eq, List.getElem?_map] at q
            cases hq : ks[i]? with
            | none => rw [hq] at q; cases q
            | some p => rw [hq] at q; exact ⟨p, rfl, (Option.some.inj q).symm⟩
          have out : ∀ b, s.heap.objs.size ≤ b → s.heap.get? b = none := fun b hb => by
            cases q : s.heap.get? b with
            | none => rfl
            | some o => exact absurd (Nat.lt_of_lt_of_le (Heap.lt_size q) hb) (Nat.lt_irrefl _)
          refine set_update_tups ((Walks.tuple nh3 _ l ne1 its).toS) s.heap.objs.size nin ks size few val s.heap ki (out _ (Nat.le_refl _)) (fun b hb => out b (by rw [List.mem_singleton.mp hb, Heap.size_push]; exact Nat.le_succ _)) un (its.size - 0) 0 _ (by omega) (Nat.zero_le _)
            ⟨⟨_, Heap.get?_push_size _ rfl, rfl, rfl⟩, (tl1.push _)⟩ (fun b o e => Heap.get?_push_of_some _ (Heap.get?_push_of_some _ e)) ⟨[], #[], 0, _, setTR_fresh (Heap.get?_push_of_some _ hS), Got.zero ks⟩ ?_
          intro s' L es ep t hm hS' g' kp
          obtain ⟨h', g2, d', tk', os'⟩ := s'
          have eg : g2 = s.gens := hm.gens
          have ed : d' = s.drawn := hm.drawn
          have eo : os' = s.os := hm.os
          subst eg; subst ed; subst eo
          show wpAny _ _ _ _ _ _
          refine wpAny_pure (show wpAny _ _ (ret Value.none) _ _ _ from ?_)
          rw [size] at g'
          exact wpAny_pure ⟨rfl, h', tk', L, es, ep, t, rfl, hS', g', kp⟩
        · cases r2 with
          | error e => exact hr2
          | ok fl2 =>
            cases fl2 with
            | ret r =>
              obtain ⟨rfl, h', tk, L, es, ep, t, rfl, hS', g', k'⟩ := hr2
              repeat (any_goals (first | assumption | wp_step))
              exact fin _ _ _ _ _ _ hS' g' k'
            | _ => exact hr2.elim
      | _ => exact hr.elim)⟩
end
section
variable {X : Cx}
/-- len(set(t)), t a tuple of tuples of ints -/
def tLenSUU (K : PySem.W.Frag) (ta : TE) : TE := fun σ H Q => ta σ H fun x H1 => ∃ (l : Addr) (ks : List (Addr × List Int)), x = V.ref l ∧ SqT K H1 l (ks.map fun p => V.ref p.1) ∧ (∀ p ∈ ks, SqT K H1 p.1 (p.2.map V.int)) ∧ ks.length < 64 ∧
  ∀ n : Nat, (n = ks.length ↔ (ks.map (·.2)).Nodup) → Q (.int n) H1
theorem pe_lenSUU {a : Expr} {ta : TE} {p p2 q pos : Pos} (hc : X.calm = true) (hu : X.A.units + 64 < cLine) (hg : Gl X "len") (hm : X.mg "len" = none) (hg2 : Gl X "set") (hm2 : X.mg "set" = none) (ha : PE X a ta)
    (na : starEach [a] X.env = (false, eval a X.env) :: starEach [] X.env := by rfl) : PE X (.Call (.Name "len" p) [.Call (.Name "set" p2) [a] [] q] [] pos) (tLenSUU X.K ta) := by
  refine ⟨fun pins s σ H Q I h => Call_ (ld_blt I hg hm PySem.boot_len (PyProof.Rows.callWith_builtin1 (PyProof.Rows.args_cons (Call_ (ld_blt I hg2 hm2 PyProof.Rows.boot_set ?_)) rfl) rfl rfl))⟩
  refine PyProof.Rows.callWith_type1 (PyProof.Rows.args_cons (thn (ha.run pins s σ H _ I h) fun v s1 hh => PyProof.Rows.args_nil ?_) na) na rfl
  obtain ⟨x, H1, I1, r1, l, ks, rfl, hq, hk, few, q1⟩ := hh
  cases r1
  obtain ⟨its, r, pl, hz⟩ := I1.tuple hq
  refine set_of_tup2 (P := X.prog) (w := X.w) ks (I1.ok.hd hc) pl (by simpa using refs_of_vals r) (fun p hp => I1.isT (hk p hp)) few (by omega) fun h' tk L es ep t R g k => PyProof.Rows.args_nil ?_
  have I2 : Inv X pins σ H1 { s1 with heap := h', toks := tk } := I1.kept fun b o e => k b o e
  have hes : es.size = L.length := R.size (s := { s1 with heap := h', toks := tk })
  have hf := R.fits (s := { s1 with heap := h', toks := tk })
  obtain ⟨o, ho, hex, hd⟩ := R.ob
  refine call_len_set (s := { s1 with heap := h', toks := tk }) ho hex hd hf (by have := R.few; omega) ⟨.int es.size, H1, I2.tok _, ⟨_, rfl⟩, q1 es.size ?_⟩
  have e1 : (L.map (·.2)).length = es.size := by simp [hes]
  have e2 : (ks.map (·.2)).length = ks.length := by simp
  rw [← e1, ← e2]
  refine nd_iff R.nd fun k => ⟨fun z => ?_, fun z => ?_⟩
  · obtain ⟨p, hp, rfl⟩ := List.mem_map.mp z
    exact List.mem_map.mpr ⟨p, List.mem_of_mem_take (g.sub p hp), rfl⟩
  · obtain ⟨p, hp, rfl⟩ := List.mem_map.mp z
    exact g.all p (by rw [List.take_length]; exact hp)
end
end Wk

set_option Elab.async false
set_option linter.all false
set_option maxRecDepth 100000
set_option maxHeartbeats 2000000
namespace Wk
open PySem PySem.Spec PyProof.Rows L2 Evl
def top (i : Nat) : Stmt := PySem.Challenge.pw_wishreels_k02_equal_and_kept.main.body.getD i (.Pass ⟨0, 0, 0, 0⟩)
abbrev FnP (K : PySem.W.Frag) (x : Str) (st : Stmt) (f : Addr) (fd : FuncData) : Prop := FunD K x x (defArgs st) (defBody st) (defScope st) [] [] f fd
/-- names that are the built-in ones -/
structure Bl (mg : Str → Option Value) : Prop where
  isi : mg "isinstance" = none
  len : mg "len" = none
  tuple : mg "tuple" = none
  list : mg "list" = none
  int : mg "int" = none
  bool : mg "bool" = none
  str : mg "str" = none
  all : mg "all" = none
  set : mg "set" = none
  enum : mg "enumerate" = none
  range : mg "range" = none
  abs : mg "abs" = none
  min : mg "min" = none
  repr : mg "repr" = none
/-- a pure promise: a plain value, what stood stays -/
def spP (R : Hp → List V → V → Prop) : Sp := fun vs H Q _ => ∃ z, R H vs z ∧ ∀ H', Ex H H' → Q z H'
theorem spP_v {R : Hp → List V → V → Prop} {vs : List V} {H : Hp} {z : V} (h : ∀ H1, Ex H H1 → R H1 vs z) : SpV (spP R) vs H z := fun H1 e Q q E => ⟨z, h H1 e, fun H2 e2 => q H2 e2⟩
def isI : PyData → Bool
  | .int _ => true
  | _ => false
/-- what a datum is worth as an int -/
def valI : PyData → Int
  | .int i => i
  | _ => 0
theorem isI_eq {d : PyData} (h : isI d = true) : d = .int (valI d) := by
  cases d <;> first | rfl | (simp [isI] at h)
theorem kit_int (d : PyData) : ∃ b, kitB (tyN d) "int" = some b ∧ (b = true → ∃ c, kitB (tyN d) "bool" = some c ∧ (b && !c) = isI d) ∧ (b = false → isI d = false) := by
  cases d with
  | none => exact ⟨false, show kitB "NoneType" "int" = some false by decide +kernel, fun h => (by cases h), fun _ => rfl⟩
  | bool b => exact ⟨true, show kitB "bool" "int" = some true by decide +kernel, fun _ => ⟨true, show kitB "bool" "bool" = some true by decide +kernel, rfl⟩, fun h => (by cases h)⟩
  | int i => exact ⟨true, show kitB "int" "int" = some true by decide +kernel, fun _ => ⟨false, show kitB "int" "bool" = some false by decide +kernel, rfl⟩, fun h => (by cases h)⟩
  | str z => exact ⟨false, show kitB "str" "int" = some false by decide +kernel, fun h => (by cases h), fun _ => rfl⟩
  | list ds => exact ⟨false, show kitB "list" "int" = some false by decide +kernel, fun h => (by cases h), fun _ => rfl⟩
  | tuple ds => exact ⟨false, show kitB "tuple" "int" = some false by decide +kernel, fun h => (by cases h), fun _ => rfl⟩
  | dict ds => exact ⟨false, show kitB "dict" "int" = some false by decide +kernel, fun h => (by cases h), fun _ => rfl⟩
def isTu : PyData → Bool
  | .tuple _ => true
  | _ => false
def itemsT : PyData → List PyData
  | .tuple ds => ds
  | _ => []
theorem kit_tup (d : PyData) : kitB (tyN d) "tuple" = some (isTu d) := by
  cases d with
  | none => exact show kitB "NoneType" "tuple" = some false by decide +kernel
  | bool b => exact show kitB "bool" "tuple" = some false by decide +kernel
  | int i => exact show kitB "int" "tuple" = some false by decide +kernel
  | str z => exact show kitB "str" "tuple" = some false by decide +kernel
  | list ds => exact show kitB "list" "tuple" = some false by decide +kernel
  | tuple ds => exact show kitB "tuple" "tuple" = some true by decide +kernel
  | dict ds => exact show kitB "dict" "tuple" = some false by decide +kernel
def isR (n : Int) (d : PyData) : Bool := isI d && (decide (0 ≤ valI d) && decide (valI d ≤ n - 1))
/-- a way of router r through routers below n -/
def wayB (n r : Int) (d : PyData) : Bool := isTu d && (decide (2 ≤ (itemsT d).length) && decide ((itemsT d).length ≤ 8)) && ((itemsT d).all (isR n) && (decide (((itemsT d).map valI)[0]? = some r) && (decide (((itemsT d).map valI).getLast? = some 0) && decide ((itemsT d).map valI).Nodup)))
section
variable {P : Program} {w : World} {K : PySem.W.Frag} {mg : Str → Option Value} {base : Heap} {f : Addr} {fd : FuncData}
/-! is_integer, _law_is_int -/
abbrev spIsInt : Sp := spP fun H vs z => ∃ v d, vs = [v] ∧ Dq H v d ∧ z = .bl (isI d)
abbrev sIsInt : Stmt := top 8
theorem scIsInt : FnScope ["thing"] ["thing"] (defScope sIsInt) := ⟨rfl, rfl, rfl, by decide +kernel, rfl, by decide +kernel, by decide +kernel⟩
theorem ok_isInt (B : Bl mg) (F : FnP K "is_integer" sIsInt f fd) : FnOk P w K mg base CX0 1 f fd ["thing"] spIsInt := by
  refine F.ok scIsInt (fun vs H Q E h => ?_) (fun cdv A outer s H vs Q E hr h => ?_)
  · obtain ⟨z, ⟨v, d, rfl, _⟩, _⟩ := h
    rfl
  · obtain ⟨z, ⟨v, d, rfl, hd, rfl⟩, k⟩ := h
    refine ⟨_, pss_one (ps_ret (pe_and (pe_callB call_isi (by rfl) B.isi boot_isinstance (pa_cons (pv 0) (pa_cons (pe_bltn (v := .ty "int") (by rfl) B.int PyProof.Rows.boot_int rfl) pa_nil)))
      (pe_one (pe_not (pe_callB call_isi (by rfl) B.isi boot_isinstance (pa_cons (pv 0) (pa_cons (pe_bltn (v := .ty "bool") (by rfl) B.bool PyProof.Rows.boot_bool rfl) pa_nil))))))), ?_⟩
    obtain ⟨b, hb, h1, h2⟩ := kit_int d
    have v0 : Ev (tVar 0) (start ["thing"] [v]) H v := ev_var rfl
    cases b with
    | true =>
      obtain ⟨c, hc, e⟩ := h1 rfl
      rw [← e] at k
      exact s_ret (ev_andV (ev_isi v0 hd hb) fun _ => ev_notV (ev_isi v0 hd hc)) k
    | false =>
      rw [h2 rfl] at k
      exact s_ret (ev_andV (b := false) (ev_isi v0 hd hb) fun z => (by cases z)) k

/-! is_between, is_router -/
abbrev spBetween : Sp := spP fun H vs z => ∃ (a b : Int) (v : V) (d : PyData), vs = [.int a, .int b, v] ∧ Dq H v d ∧ z = .bl (isI d && (decide (a ≤ valI d) && decide (valI d ≤ b)))
abbrev sBetween : Stmt := top 9
theorem scBetween : FnScope ["least", "most", "thing"] ["least", "most", "thing"] (defScope sBetween) := ⟨rfl, rfl, rfl, by decide +kernel, rfl, by decide +kernel, by decide +kernel⟩
theorem ok_between (B : Bl mg) (C : Cal P w K mg base "is_integer" ["thing"] 1 spIsInt) (F : FnP K "is_between" sBetween f fd) : FnOk P w K mg base CX0 2 f fd ["least", "most", "thing"] spBetween := by
  refine F.ok scBetween (fun vs H Q E h => ?_) (fun cdv A outer s H vs Q E hr h => ?_)
  · obtain ⟨z, ⟨a, b, v, d, rfl, _⟩, _⟩ := h
    rfl
  · obtain ⟨z, ⟨a, b, v, d, rfl, hd, rfl⟩, k⟩ := h
    refine ⟨_, pss_one (ps_ret (pe_and (pe_cal C hr (by rfl) (pa_cons (pv 2) pa_nil)) (pe_one (pe_chain op_le op_le (pv 0) (pv 2) (pv 1))))), ?_⟩
    have v0 : Ev (tVar 0) (start ["least", "most", "thing"] [.int a, .int b, v]) H (.int a) := ev_var rfl
    have v1 : Ev (tVar 1) (start ["least", "most", "thing"] [.int a, .int b, v]) H (.int b) := ev_var rfl
    have v2 : Ev (tVar 2) (start ["least", "most", "thing"] [.int a, .int b, v]) H v := ev_var rfl
    refine s_ret (ev_andV (a := isI d) (ev_call (ea_cons v2 ea_nil) (spP_v fun H1 e => ⟨v, d, rfl, hd.mono e, rfl⟩)) fun hi => ?_) k
    rw [isI_eq hi] at hd
    cases hd
    exact ev_chain v0 v2 v1 rv_I0 rv_I0
abbrev spRouter : Sp := spP fun H vs z => ∃ (n : Int) (v : V) (d : PyData), vs = [.int n, v] ∧ Dq H v d ∧ z = .bl (isR n d)
abbrev sRouter : Stmt := top 13
theorem scRouter : FnScope ["size", "thing"] ["size", "thing"] (defScope sRouter) := ⟨rfl, rfl, rfl, by decide +kernel, rfl, by decide +kernel, by decide +kernel⟩
theorem ok_router (C : Cal P w K mg base "is_between" ["least", "most", "thing"] 2 spBetween) (F : FnP K "is_router" sRouter f fd) : FnOk P w K mg base CX0 3 f fd ["size", "thing"] spRouter := by
  refine F.ok scRouter (fun vs H Q E h => ?_) (fun cdv A outer s H vs Q E hr h => ?_)
  · obtain ⟨z, ⟨n, v, d, rfl, _⟩, _⟩ := h
    rfl
  · obtain ⟨z, ⟨n, v, d, rfl, hd, rfl⟩, k⟩ := h
    refine ⟨_, pss_one (ps_ret (pe_cal C hr (by rfl) (pa_cons pe_int (pa_cons (pe_op op_sub (pv 0) pe_int) (pa_cons (pv 1) pa_nil))))), ?_⟩
    exact s_ret (ev_call (ea_cons ev_c (ea_cons (ev_op (ev_var rfl) ev_c rv_I0) (ea_cons (ev_var rfl) ea_nil))) (spP_v fun H1 e => ⟨0, n - 1, v, d, rfl, hd.mono e, rfl⟩)) k
/-! is_way -/
abbrev spWay : Sp := spP fun H vs z => ∃ (n r : Int) (v : V) (d : PyData), vs = [.int n, .int r, v] ∧ Dq H v d ∧ z = .bl (wayB n r d)
abbrev sWay : Stmt := top 17
theorem scWay : FnScope ["size", "router", "thing", "item"] ["size", "router", "thing"] (defScope sWay) := ⟨rfl, rfl, rfl, by decide +kernel, rfl, by decide +kernel, by decide +kernel⟩
end
end Wk

set_option Elab.async false
set_option linter.all false
set_option maxRecDepth 100000
set_option maxHeartbeats 2000000
namespace Wk
open PySem PySem.Spec PyProof.Rows L2 Evl
theorem ints_of {n : Int} : ∀ {ds : List PyData}, ds.all (isR n) = true → ds = (ds.map valI).map PyData.int
  | [], _ => rfl
  | d :: ds, h => by
    have h' : isR n d = true ∧ ds.all (isR n) = true := by simpa using h
    have h1 : isI d = true := (Bool.and_eq_true_iff.mp h'.1).1
    show d :: ds = .int (valI d) :: (ds.map valI).map PyData.int
    rw [← ints_of h'.2, ← isI_eq h1]
section
variable {K : PySem.W.Frag} {σ : L2.St} {H : Hp} {ta tb te : TE}
theorem ev_lenSU {l : Addr} {ns : List Int} (ha : Ev ta σ H (.ref l)) (h : SqT K H l (ns.map V.int)) (hl : ns.length < 64) (hb : Ev tb σ H (.int (ns.length : Int))) :
    Ev (tOp rEq (tLenSU K ta) tb) σ H (.bl (decide ns.Nodup)) := fun H1 e Q q =>
  ha H1 e _ fun H2 e2 => ⟨l, ns, rfl, ex_t (e.trans e2) h, hl, fun m hm => hb H2 (e.trans e2) _ fun H3 e3 => ⟨rfl, by
    have ed : decide (V.int (m : Int) = V.int (ns.length : Int)) = decide ns.Nodup := by
      rw [decide_eq_decide]
      constructor
      · intro z
        injection z with z
        exact hm.mp (by omega)
      · intro z
        rw [hm.mpr z]
    rw [ed]
    exact q H3 (e2.trans e3)⟩⟩
theorem ev_lenSUU {l : Addr} {ks : List (Addr × List Int)} (ha : Ev ta σ H (.ref l)) (h : SqT K H l (ks.map fun p => V.ref p.1)) (hk : ∀ p ∈ ks, SqT K H p.1 (p.2.map V.int)) (hl : ks.length < 64) (hb : Ev tb σ H (.int (ks.length : Int))) :
    Ev (tOp rEq (tLenSUU K ta) tb) σ H (.bl (decide (ks.map (·.2)).Nodup)) := fun H1 e Q q =>
  ha H1 e _ fun H2 e2 => ⟨l, ks, rfl, ex_t (e.trans e2) h, fun p hp => ex_t (e.trans e2) (hk p hp), hl, fun m hm => hb H2 (e.trans e2) _ fun H3 e3 => ⟨rfl, by
    have ed : decide (V.int (m : Int) = V.int (ks.length : Int)) = decide (ks.map (·.2)).Nodup := by
      rw [decide_eq_decide]
      constructor
      · intro z
        injection z with z
        exact hm.mp (by omega)
      · intro z
        rw [hm.mpr z]
    rw [ed]
    exact q H3 (e2.trans e3)⟩⟩
end
theorem getLast_atI {α : Type} {xs : List α} {x : α} (h : xs.getLast? = some x) : atI xs (-1) = some x := by
  obtain ⟨ys, rfl⟩ : ∃ ys, xs = ys ++ [x] := by
    cases xs with
    | nil => cases h
    | cons y l =>
      refine ⟨(y :: l).dropLast, ?_⟩
      have := List.dropLast_concat_getLast (l := y :: l) (by simp)
      rw [List.getLast?_eq_some_getLast (by simp)] at h
      cases h
      exact this.symm
  exact atI_last ys x
section
variable {P : Program} {w : World} {K : PySem.W.Frag} {mg : Str → Option Value} {base : Heap} {f : Addr} {fd : FuncData}
theorem ok_way (B : Bl mg) {t8 : Tok} (m8 : mg "MOST_ROUTERS" = some (.int 8 t8)) (C : Cal P w K mg base "is_router" ["size", "thing"] 3 spRouter) (F : FnP K "is_way" sWay f fd) : FnOk P w K mg base CX0 5 f fd ["size", "router", "thing"] spWay := by
  refine F.ok scWay (fun vs H Q E h => ?_) (fun cdv A outer s H vs Q E hr h => ?_)
  · obtain ⟨z, ⟨n, r, v, d, rfl, _⟩, _⟩ := h
    rfl
  · obtain ⟨z, ⟨n, r, v, d, rfl, hd, rfl⟩, k⟩ := h
    refine ⟨_, pss_cons (ps_if (PW.pt (pw_or (pt_not (pt_val (pe_callB call_isi (by rfl) B.isi boot_isinstance (pa_cons (pv 2) (pa_cons (pe_bltn (v := .ty "tuple") (by rfl) B.tuple PyProof.Rows.boot_tuple rfl) pa_nil)))))
        (pw_or1 (pt_not (pt_chain op_le op_le pe_int (pe_callB call_len_seq (by rfl) B.len PySem.boot_len (pa_cons (pv 2) pa_nil)) (pe_glob (v := .int 8) (by rfl) m8 ⟨_, rfl⟩)))))) (pss_one (ps_ret pe_bl)) pss_nil)
      (pss_cons (ps_if (pt_not (pt_val (pe_callB (cr_all rfl) (by rfl) B.all boot_all (pa_cons (pe_lc (own := [("item", 3)]) (g := gName 3) (tt := tYes) rfl scWay.nd (pi_tup (pv 2)) (blkOk_by (N := ["size", "router", "thing", "item"]) (sc := defScope sWay) (by decide +kernel))
          (fun _ _ _ _ _ => pg_name (i := 3) scWay.nd rfl (Or.inl rfl)) (fun _ _ _ _ _ => pts_nil) (fun _ _ _ _ _ => pe_cal C hr (by rfl) (pa_cons (pv 0) (pa_cons (pv 3) pa_nil)))) pa_nil)))) (pss_one (ps_ret pe_bl)) pss_nil)
      (pss_one (ps_ret (pe_and (pe_cmpR op_eq (pe_ix ix_tup (pv 2) pe_int (fun _ _ => rfl)) (pv 1) (nomark _)) (pe_and (pe_cmpR op_eq (pe_ix ix_tup (pv 2) (pe_un un_neg pe_int) (fun _ _ => rfl)) pe_int (nomark _))
        (pe_one (pe_cmpR op_eq (pe_lenSU rfl (by rfl) B.len (by rfl) B.set (pv 2)) (pe_callB call_len_seq (by rfl) B.len PySem.boot_len (pa_cons (pv 2) pa_nil)) (nomark _)))))))), ?_⟩
    have v0 : ∀ {o : Option V} {H1 : Hp}, Ev (tVar 0) [some (.int n), some (.int r), some v, o] H1 (.int n) := ev_var rfl
    have v1 : ∀ {H1 : Hp}, Ev (tVar 1) (start ["size", "router", "thing", "item"] [.int n, .int r, v]) H1 (.int r) := ev_var rfl
    have v2 : ∀ {H1 : Hp}, Ev (tVar 2) (start ["size", "router", "thing", "item"] [.int n, .int r, v]) H1 v := ev_var rfl
    have hlen : ∀ {H1 : Hp}, Ex H H1 → isTu d = true → Ev (tCB (rLenS K) (tCons (tVar 2) tNil)) (start ["size", "router", "thing", "item"] [.int n, .int r, v]) H1 (.int ((itemsT d).length : Int)) := fun {H1} e ht => by
      cases hd <;> first | (simp [isTu] at ht; done) | skip
      rename_i a xs ds h1 h2
      rw [show (itemsT (.tuple ds)).length = xs.length from h2.length.symm]
      exact ev_lenT v2 (st_of (e _ _ h1))
    refine q_when (b := !isTu d || !(decide (2 ≤ ((itemsT d).length : Int)) && decide (((itemsT d).length : Int) ≤ 8))) (et_or (et_not (et_B (ev_isi v2 hd (kit_tup d)))) fun ht => et_not (et_test (ev_chain ev_c (hlen (Ex.refl H) (by simpa using ht)) ev_c rv_I0 rv_I0)))
      (fun hb H1 e => s_ret ev_c fun H2 e2 => ?_) (fun hb H1 e => ?_)
    · have ez : wayB n r d = false := by
        unfold wayB
        cases ht : isTu d
        · simp
        · simp [ht] at hb
          have : (decide (2 ≤ (itemsT d).length) && decide ((itemsT d).length ≤ 8)) = false := by simp; omega
          rw [this]
          simp
      rw [ez] at k
      exact k _ (e.trans e2)
    · have ht : isTu d = true := by simp at hb; exact hb.1
      have hl : 2 ≤ (itemsT d).length ∧ (itemsT d).length ≤ 8 := by simp [ht] at hb; omega
      have hd1 := hd.mono e
      clear hd
      cases hd1 <;> first | (simp [isTu] at ht; done) | skip
      rename_i a xs ds h1 h2
      have hxl := h2.length
      have hl' : 2 ≤ ds.length ∧ ds.length ≤ 8 := hl
      refine q_when (b := !ds.all (isR n)) (et_not (et_B ?_)) (fun hb H2 e2 => s_ret ev_c fun H3 e3 => ?_) (fun hb H2 e2 => ?_)
      · have q := ev_allT (K := K) (H := H1) (j := 3) (vs := [3]) (σ := start ["size", "router", "thing", "item"] [.int n, .int r, .ref a]) (te := tCall spRouter [] E0 (tCons (tVar 0) (tCons (tVar 3) tNil))) (fun i => ((ds[i]?).map (isR n)).getD false) v2 (st_of h1) (by omega) (fun x => rfl)
          (fun i x H2 e2 hx => by
            obtain ⟨dx, e3, e4⟩ := h2.get hx
            rw [e3]
            exact ev_call (ea_cons (ev_var rfl) (ea_cons (ev_var rfl) ea_nil)) (spP_v fun H3 e5 => ⟨n, x, dx, rfl, (e4.mono e2).mono e5, rfl⟩))
        rw [hxl, all_get] at q
        exact q
      · have ez : wayB n r (.tuple ds) = false := by
          have hb' : ds.all (isR n) = false := by simpa using hb
          unfold wayB
          show (true && _ && (ds.all (isR n) && _)) = false
          rw [hb']
          simp
        rw [ez] at k
        exact k _ ((e.trans e2).trans e3)
      · have hall : ds.all (isR n) = true := by simpa using hb
        have eds := ints_of hall
        have exs : xs = (ds.map valI).map V.int := by rw [eds] at h2; exact h2.int_inv
        generalize hns : ds.map valI = ns at *
        have hnl : ns.length = ds.length := by rw [← hns, List.length_map]
        subst exs
        have h1' := e2 _ _ h1
        have ez : wayB n r (.tuple ds) = (decide (V.int (ns.getD 0 0) = V.int r) && (decide (V.int (ns.getLast?.getD 0) = V.int 0) && decide ns.Nodup)) := by
          unfold wayB
          show (true && (decide (2 ≤ ds.length) && decide (ds.length ≤ 8)) && (ds.all (isR n) && (decide ((ds.map valI)[0]? = some r) && (decide ((ds.map valI).getLast? = some 0) && decide (ds.map valI).Nodup)))) = _
          rw [hall, hns, decide_eq_true hl'.1, decide_eq_true hl'.2]
          cases ns with
          | nil => simp at hnl; omega
          | cons x l =>
            simp only [Bool.true_and, Bool.and_true, List.getElem?_cons_zero, List.getD_cons_zero, V.int.injEq, Option.some.injEq]
            rw [List.getLast?_eq_some_getLast (by simp)]
            simp
        rw [ez] at k
        have hg : ∃ z, ns.getLast? = some z := by
          cases ns with
          | nil => simp at hnl; omega
          | cons x l => exact ⟨_, List.getLast?_eq_some_getLast (by simp)⟩
        obtain ⟨z, hz⟩ := hg
        rw [hz] at k
        refine s_ret (ev_andV (ev_op (ev_op v2 ev_c (rv_ixT (st_of h1') (v := .int (ns.getD 0 0)) ?_)) v1 (rv_eq rfl)) fun _ => ev_andV (ev_op (ev_op v2 (ev_un ev_c ru_neg) (rv_ixT (st_of h1') (v := .int z) ?_)) ev_c (rv_eq rfl)) fun _ => ev_lenSU v2 (st_of h1') (by omega) ?_) fun H3 e3 => k _ ((e.trans e2).trans e3)
        · cases ns with
          | nil => simp at hnl; omega
          | cons x l => exact atI_nat (j := 0) (by simp)
        · exact getLast_atI (by rw [List.getLast?_map, hz]; rfl)
        · have q := ev_lenT (K := K) (ta := tVar 2) (σ := start ["size", "router", "thing", "item"] [.int n, .int r, .ref a]) (H := H2) v2 (st_of h1')
          rw [List.length_map] at q
          exact q
end
end Wk

set_option Elab.async false
set_option linter.all false
set_option maxRecDepth 100000
set_option maxHeartbeats 2000000
namespace Wk
open PySem PySem.Spec PyProof.Rows L2 Evl
/-- the routers of a way -/
def rts (d : PyData) : List Int := (itemsT d).map valI
/-- the item of a router -/
def rowB (n r : Int) (d : PyData) : Bool := isTu d && decide ((itemsT d).length ≤ 6) && (if r = 0 then decide ((itemsT d).length = 0) else ((itemsT d).all (wayB n r) && decide ((itemsT d).map rts).Nodup))
theorem way_ints {n r : Int} {d : PyData} (h : wayB n r d = true) : d = .tuple ((rts d).map PyData.int) ∧ (itemsT d).all (isR n) = true ∧ 2 ≤ (rts d).length ∧ (rts d).length ≤ 8 ∧ (rts d)[0]? = some r ∧ (rts d).getLast? = some 0 ∧ (rts d).Nodup := by
  unfold wayB at h
  simp only [Bool.and_eq_true, decide_eq_true_eq] at h
  obtain ⟨⟨ht, h1, h2⟩, h3, h4, h5, h6⟩ := h
  cases d <;> first | (simp [isTu] at ht; done) | skip
  rename_i ds
  have e := ints_of (ds := ds) h3
  have el : (rts (.tuple ds)).length = ds.length := List.length_map ..
  exact ⟨congrArg PyData.tuple e, h3, by rw [el]; exact h1, by rw [el]; exact h2, h4, h5, h6⟩
theorem ways_keys {G : Hp} {n r : Int} : ∀ {ds : List PyData} {vs : List V}, DqA G vs ds → ds.all (wayB n r) = true → ∃ ks : List (Addr × List Int), vs = ks.map (fun p => V.ref p.1) ∧ (∀ p ∈ ks, G p.1 = some (.tup (p.2.map V.int))) ∧ ks.map (·.2) = ds.map rts
  | [], _, .nil, _ => ⟨[], rfl, fun p hp => (by cases hp), rfl⟩
  | d :: ds, _, .cons h t, c => by
    have c' : wayB n r d = true ∧ ds.all (wayB n r) = true := by simpa using c
    obtain ⟨ks, e1, e2, e3⟩ := ways_keys t c'.2
    have ed := (way_ints c'.1).1
    generalize rts d = ns at ed
    have er : rts d = ns := by
      rw [ed]
      simp [rts, itemsT, valI, Function.comp_def]
    subst ed
    cases h with
    | tup ha hx =>
      rename_i a xs
      have ex := hx.int_inv
      subst ex
      refine ⟨(a, ns) :: ks, by rw [e1]; rfl, fun p hp => ?_, by simp [e3, er]⟩
      rcases List.mem_cons.mp hp with z | z
      · rw [z]; exact ha
      · exact e2 p z
section
variable {P : Program} {w : World} {K : PySem.W.Frag} {mg : Str → Option Value} {base : Heap} {f : Addr} {fd : FuncData}
abbrev spRow : Sp := spP fun H vs z => ∃ (n r : Int) (v : V) (d : PyData), vs = [.int n, .int r, v] ∧ Dq H v d ∧ z = .bl (rowB n r d)
abbrev sRow : Stmt := top 23
theorem scRow : FnScope ["size", "router", "thing", "way"] ["size", "router", "thing"] (defScope sRow) := ⟨rfl, rfl, rfl, by decide +kernel, rfl, by decide +kernel, by decide +kernel⟩
theorem ok_row (B : Bl mg) {t6 : Tok} (hM : mg "MOST_WAYS" = some (.int 6 t6)) (C : Cal P w K mg base "is_way" ["size", "router", "thing"] 5 spWay) (F : FnP K "is_way_list" sRow f fd) : FnOk P w K mg base CX0 6 f fd ["size", "router", "thing"] spRow := by
  refine F.ok scRow (fun vs H Q E h => ?_) (fun cdv A outer s H vs Q E hr h => ?_)
  · obtain ⟨z, ⟨n, r, v, d, rfl, _⟩, _⟩ := h
    rfl
  · obtain ⟨z, ⟨n, r, v, d, rfl, hd, rfl⟩, k⟩ := h
    have hu : (A.deeper (envOfC "is_way_list" (defScope sRow) s.heap.objs.size f cdv)).units + 64 < cLine := by have := hr.un; omega
    refine ⟨_, pss_cons (ps_if (PW.pt (pw_or (pt_not (pt_val (pe_callB call_isi (by rfl) B.isi boot_isinstance (pa_cons (pv 2) (pa_cons (pe_bltn (v := .ty "tuple") (by rfl) B.tuple PyProof.Rows.boot_tuple rfl) pa_nil)))))
        (pw_or1 (pt_cmpR op_gt (pe_callB call_len_seq (by rfl) B.len PySem.boot_len (pa_cons (pv 2) pa_nil)) (pe_glob (v := .int 6) (by rfl) hM ⟨_, rfl⟩) (nomark _))))) (pss_one (ps_ret pe_bl)) pss_nil)
      (pss_cons (ps_if (pt_cmpR op_eq (pv 1) pe_int (nomark _)) (pss_one (ps_ret (pe_cmpR op_eq (pe_callB call_len_seq (by rfl) B.len PySem.boot_len (pa_cons (pv 2) pa_nil)) pe_int (nomark _)))) pss_nil)
      (pss_one (ps_ret (pe_and (pe_callB (cr_all rfl) (by rfl) B.all boot_all (pa_cons (pe_lc (own := [("way", 3)]) (g := gName 3) (tt := tYes) rfl scRow.nd (pi_tup (pv 2)) (blkOk_by (N := ["size", "router", "thing", "way"]) (sc := defScope sRow) (by decide +kernel))
          (fun _ _ _ _ _ => pg_name (i := 3) scRow.nd rfl (Or.inl rfl)) (fun _ _ _ _ _ => pts_nil) (fun _ _ _ _ _ => pe_cal C hr (by rfl) (pa_cons (pv 0) (pa_cons (pv 1) (pa_cons (pv 3) pa_nil))))) pa_nil))
        (pe_one (pe_cmpR op_eq (pe_lenSUU rfl hu (by rfl) B.len (by rfl) B.set (pv 2)) (pe_callB call_len_seq (by rfl) B.len PySem.boot_len (pa_cons (pv 2) pa_nil)) (nomark _))))))), ?_⟩
    have v1 : ∀ {H1 : Hp}, Ev (tVar 1) (start ["size", "router", "thing", "way"] [.int n, .int r, v]) H1 (.int r) := ev_var rfl
    have v2 : ∀ {H1 : Hp}, Ev (tVar 2) (start ["size", "router", "thing", "way"] [.int n, .int r, v]) H1 v := ev_var rfl
    have hlen : ∀ {H1 : Hp}, Ex H H1 → isTu d = true → Ev (tCB (rLenS K) (tCons (tVar 2) tNil)) (start ["size", "router", "thing", "way"] [.int n, .int r, v]) H1 (.int ((itemsT d).length : Int)) := fun {H1} e ht => by
      cases hd <;> first | (simp [isTu] at ht; done) | skip
      rename_i a xs ds h1 h2
      rw [show (itemsT (.tuple ds)).length = xs.length from h2.length.symm]
      exact ev_lenT v2 (st_of (e _ _ h1))
    refine q_when (b := !isTu d || decide (((itemsT d).length : Int) > 6)) (et_or (et_not (et_B (ev_isi v2 hd (kit_tup d)))) fun ht => et_test (ev_op (hlen (Ex.refl H) (by simpa using ht)) ev_c rv_I0))
      (fun hb H1 e => s_ret ev_c fun H2 e2 => ?_) (fun hb H1 e => ?_)
    · have ez : rowB n r d = false := by
        unfold rowB
        cases ht : isTu d
        · simp
        · simp [ht] at hb
          have : decide ((itemsT d).length ≤ 6) = false := by simp; omega
          rw [this]
          simp
      rw [ez] at k
      exact k _ (e.trans e2)
    · have ht : isTu d = true := by simp at hb; exact hb.1
      have hl : (itemsT d).length ≤ 6 := by simp [ht] at hb; omega
      have er : rowB n r d = (if r = 0 then decide ((itemsT d).length = 0) else ((itemsT d).all (wayB n r) && decide ((itemsT d).map rts).Nodup)) := by
        unfold rowB
        rw [ht, decide_eq_true hl]
        simp
      rw [er] at k
      refine q_when (b := decide (V.int r = V.int 0)) (et_test (ev_op v1 ev_c (rv_eq rfl))) (fun hb H2 e2 => ?_) (fun hb H2 e2 => ?_)
      · have hr0 : r = 0 := by have := of_decide_eq_true hb; injection this
        rw [if_pos hr0] at k
        have q : Ev (tOp rEq (tCB (rLenS K) (tCons (tVar 2) tNil)) (tC (.int 0))) (start ["size", "router", "thing", "way"] [.int n, .int r, v]) H2 (.bl (decide (V.int ((itemsT d).length : Int) = V.int 0))) := ev_op (hlen (e.trans e2) ht) ev_c (rv_eq rfl)
        have ed : decide (V.int ((itemsT d).length : Int) = V.int 0) = decide ((itemsT d).length = 0) := by
          rw [decide_eq_decide]
          constructor
          · intro z
            injection z with z
            omega
          · intro z
            rw [z]
            rfl
        rw [ed] at q
        exact s_ret q fun H3 e3 => k _ ((e.trans e2).trans e3)
      · have hr0 : ¬ r = 0 := fun z => by rw [z] at hb; simp at hb
        rw [if_neg hr0] at k
        have hd1 := hd.mono (e.trans e2)
        clear hd er hlen
        cases hd1 <;> first | (simp [isTu] at ht; done) | skip
        rename_i a xs ds h1 h2
        have hxl := h2.length
        have hl' : ds.length ≤ 6 := hl
        refine s_ret (ev_andV (a := ds.all (wayB n r)) ?_ fun hall => ?_) fun H3 e3 => k _ ((e.trans e2).trans e3)
        · have q := ev_allT (K := K) (H := H2) (j := 3) (vs := [3]) (σ := start ["size", "router", "thing", "way"] [.int n, .int r, .ref a]) (te := tCall spWay [] E0 (tCons (tVar 0) (tCons (tVar 1) (tCons (tVar 3) tNil)))) (fun i => ((ds[i]?).map (wayB n r)).getD false) v2 (st_of h1) (by omega) (fun x => rfl)
            (fun i x H3 e3 hx => by
              obtain ⟨dx, e5, e4⟩ := h2.get hx
              rw [e5]
              exact ev_call (ea_cons (ev_var rfl) (ea_cons (ev_var rfl) (ea_cons (ev_var rfl) ea_nil))) (spP_v fun H4 e6 => ⟨n, r, x, dx, rfl, (e4.mono e3).mono e6, rfl⟩))
          rw [hxl, all_get] at q
          exact q
        · obtain ⟨ks, ek1, ek2, ek3⟩ := ways_keys h2 hall
          have hkl : ks.length = xs.length := by rw [ek1, List.length_map]
          have q := ev_lenSUU (K := K) (σ := start ["size", "router", "thing", "way"] [.int n, .int r, .ref a]) (H := H2) (ta := tVar 2) (tb := tCB (rLenS K) (tCons (tVar 2) tNil)) (l := a) (ks := ks) v2 (st_of (by rw [← ek1]; exact h1)) (fun p hp => st_of (ek2 p hp)) (by omega) (by rw [hkl]; exact ev_lenT v2 (st_of h1))
          rw [ek3] at q
          exact q
end
end Wk

set_option Elab.async false
set_option linter.all false
set_option maxRecDepth 100000
set_option maxHeartbeats 2000000
namespace Wk
open PySem PySem.Spec PyProof.Rows L2 Evl
theorem lay_ints : ∀ ns : List Int, PyData.canLayAll0 (ns.map PyData.int) = true
  | [] => by simp [PyData.canLayAll0]
  | n :: ns => by
    have h := lay_ints ns
    simp [PyData.canLayAll0, PyData.canLay0, h]
theorem depth_ints : ∀ ns : List Int, PyData.depthAll (ns.map PyData.int) = 0
  | [] => by simp [PyData.depthAll]
  | n :: ns => by
    have h := depth_ints ns
    simp [PyData.depthAll, PyData.depth, h]
theorem shaped_ints (ns : List Int) : SeqAt.shaped (.tuple (ns.map PyData.int)) = true := by
  unfold SeqAt.shaped
  have h1 := lay_ints ns
  have h2 := depth_ints ns
  simp [PyData.canLay0, PyData.depth, h1, h2]
theorem way_lay {n r : Int} {d : PyData} (h : wayB n r d = true) : d.canLay0 = true := by
  rw [(way_ints h).1]
  exact SeqAt.canLay_of_shaped (shaped_ints _)
theorem ways_lay {n r : Int} : ∀ {ds : List PyData}, ds.all (wayB n r) = true → PyData.canLayAll0 ds = true
  | [], _ => by simp [PyData.canLayAll0]
  | d :: ds, h => by
    have h' : wayB n r d = true ∧ ds.all (wayB n r) = true := by simpa using h
    simp [PyData.canLayAll0, way_lay h'.1, ways_lay h'.2]
theorem row_lay {n r : Int} {d : PyData} (h : rowB n r d = true) : ∃ ws, d = .tuple ws ∧ PyData.canLayAll0 ws = true ∧ ws.length ≤ 6 ∧ (r ≠ 0 → ws.all (wayB n r) = true) ∧ (r = 0 → ws = []) := by
  unfold rowB at h
  simp only [Bool.and_eq_true, decide_eq_true_eq] at h
  obtain ⟨⟨ht, h1⟩, h2⟩ := h
  cases d <;> first | (simp [isTu] at ht; done) | skip
  rename_i ws
  by_cases hr : r = 0
  · rw [if_pos hr] at h2
    have e : ws = [] := List.length_eq_zero_iff.mp (of_decide_eq_true h2)
    refine ⟨ws, rfl, by rw [e]; simp [PyData.canLayAll0], h1, fun z => absurd hr z, fun _ => e⟩
  · rw [if_neg hr] at h2
    have h3 := (Bool.and_eq_true_iff.mp h2).1
    exact ⟨ws, rfl, ways_lay h3, h1, fun _ => h3, fun z => absurd z hr⟩
/-- the rest of a way stands in the list of its router, or is the goal's -/
def restB (rows : List PyData) (w : PyData) : Bool := decide ((rts w).getD 1 0 = 0) || (itemsT (rows.getD ((rts w).getD 1 0).toNat .none)).any (fun z => PyData.eqv z (.tuple (((rts w).drop 1).map PyData.int)))
def Good (rows : List PyData) : Prop := ∀ (i : Nat) (row : PyData), rows[i]? = some row → rowB (rows.length : Int) (i : Int) row = true
theorem way_at {n r : Int} {w : PyData} {i : Nat} {x : Int} (h : wayB n r w = true) (e : (rts w)[i]? = some x) : 0 ≤ x ∧ x < n := by
  have hall := (way_ints h).2.1
  unfold rts at e
  rw [List.getElem?_map] at e
  cases hd : (itemsT w)[i]? with
  | none => rw [hd] at e; cases e
  | some d =>
    rw [hd] at e
    have hm : d ∈ itemsT w := List.mem_of_getElem? hd
    have hr : isR n d = true := List.all_eq_true.mp hall d hm
    unfold isR at hr
    simp only [Bool.and_eq_true, decide_eq_true_eq] at hr
    have ex : valI d = x := Option.some.inj e
    omega
theorem drop1 (ns : List Int) : cutV (ns.map V.int) (some 1) none = (ns.drop 1).map V.int := by
  unfold cutV
  have e1 : HT.sIx (ns.map V.int).length 0 (some 1) = min 1 (ns.map V.int).length := HT.sIx_nat _ _ 1
  rw [e1, HT.sIx_none]
  cases ns with
  | nil => rfl
  | cons x l =>
    simp
    exact List.take_of_length_le (by simp)
section
variable {P : Program} {w : World} {K : PySem.W.Frag} {mg : Str → Option Value} {base : Heap} {f : Addr} {fd : FuncData}
abbrev spRest : Sp := spP fun H vs z => ∃ (lv wv : V) (rows : List PyData) (w : PyData) (r : Int), vs = [lv, wv] ∧ Dq H lv (.tuple rows) ∧ Dq H wv w ∧ wayB (rows.length : Int) r w = true ∧ Good rows ∧ z = .bl (restB rows w)
abbrev sRest : Stmt := top 24
theorem scRest : FnScope ["lists", "way"] ["lists", "way"] (defScope sRest) := ⟨rfl, rfl, rfl, by decide +kernel, rfl, by decide +kernel, by decide +kernel⟩
theorem ok_rest (F : FnP K "has_let_rest" sRest f fd) : FnOk P w K mg base CX0 1 f fd ["lists", "way"] spRest := by
  refine F.ok scRest (fun vs H Q E h => ?_) (fun cdv A outer s H vs Q E hr h => ?_)
  · obtain ⟨z, ⟨lv, wv, rows, w, r, rfl, _⟩, _⟩ := h
    rfl
  · obtain ⟨z, ⟨lv, wv, rows, w, r, rfl, hl, hw, hway, hg, rfl⟩, k⟩ := h
    have hu : (A.deeper (envOfC "has_let_rest" (defScope sRest) s.heap.objs.size f cdv)).units + 66 < cLine := by have := hr.un; omega
    refine ⟨_, pss_one (ps_ret (pe_or (pe_cmpR op_eq (pe_ix ix_tup (pv 1) pe_int (fun _ _ => rfl)) pe_int (nomark _)) (pe_one (pe_cmpR (op_inU hu) (pe_slice sl_tupA (pv 1) (po_some pe_int) po_none) (pe_ix ix_tup (pv 0) (pe_ix ix_tup (pv 1) pe_int (fun _ _ => rfl)) (fun _ _ => rfl)) rfl)))), ?_⟩
    obtain ⟨ew, _, h2, _, _, _, _⟩ := way_ints hway
    unfold restB at k
    have hn1 : ∃ j, (rts w)[1]? = some j := ⟨_, List.getElem?_eq_getElem (by omega)⟩
    obtain ⟨j, hj⟩ := hn1
    obtain ⟨hj0, hjn⟩ := way_at hway hj
    have ejd : (rts w).getD 1 0 = j := by rw [List.getD_eq_getElem?_getD, hj]; rfl
    rw [ejd] at k
    generalize rts w = ns at *
    subst ew
    cases hw with
    | tup ha hx =>
      rename_i a xs
      have ex := hx.int_inv
      subst ex
      cases hl with
      | tup hb hy =>
        rename_i b ys
        have v0 : Ev (tVar 0) (start ["lists", "way"] [.ref b, .ref a]) H (.ref b) := ev_var rfl
        have v1 : Ev (tVar 1) (start ["lists", "way"] [.ref b, .ref a]) H (.ref a) := ev_var rfl
        have hat : atI (ns.map V.int) 1 = some (.int j) := atI_nat (j := 1) (by rw [List.getElem?_map, hj]; rfl)
        have i1 : Ev (tOp (rIxT K) (tVar 1) (tC (.int 1))) (start ["lists", "way"] [.ref b, .ref a]) H (.int j) := ev_op v1 ev_c (rv_ixT (st_of ha) hat)
        have ed : decide (V.int j = V.int 0) = decide (j = 0) := by rw [decide_eq_decide]; exact ⟨fun z => by injection z, fun z => by rw [z]⟩
        refine s_ret (ev_is (ev_orV (a := decide (V.int j = V.int 0)) (ev_op i1 ev_c (rv_eq rfl)) fun hne => ?_) (by rw [ed])) k
        have hjl : j.toNat < rows.length := by omega
        have hrow : rows[j.toNat]? = some rows[j.toNat] := List.getElem?_eq_getElem hjl
        have hgd : rows.getD j.toNat .none = rows[j.toNat] := by rw [List.getD_eq_getElem?_getD, hrow]; rfl
        obtain ⟨ws, ew, lay, _⟩ := row_lay (hg _ _ hrow)
        obtain ⟨rv, hrv, hdr⟩ := hy.at hrow
        rw [hgd, ew]
        rw [ew] at hdr
        have hat2 : atI ys j = some rv := by
          have q := atI_nat (j := j.toNat) hrv
          rw [Int.toNat_of_nonneg hj0] at q
          exact q
        intro H1 e Q2 q
        refine es_sl (K := K) v1 (eo_some ev_c) eo_none ha H1 e _ fun p H2 e2 hp => ?_
        rw [drop1] at hp
        refine ev_op (Ev.mono (e.trans e2) v0) (Ev.mono (e.trans e2) i1) (rv_ixT (st_of ((e.trans e2) _ _ hb)) hat2) H2 (Ex.refl H2) _ fun H3 e3 => ?_
        refine ⟨.tuple ((ns.drop 1).map PyData.int), ws, .tup (st_of (e3 _ _ hp)) (DqA.dp (lay_ints _) (DqA.ints _)), Dq.dp (by simpa [PyData.canLay0] using lay) (hdr.mono ((e.trans e2).trans e3)), shaped_ints _, lay, q H3 (e2.trans e3)⟩
end
end Wk

set_option Elab.async false
set_option linter.all false
set_option maxRecDepth 100000
set_option maxHeartbeats 2000000
namespace Wk
open PySem PySem.Spec PyProof.Rows L2 Evl
/-- what the text tells of an error class with one field, at C, its __init__ at fI -/
structure Err (P : Program) (w : World) (K : PySem.W.Frag) (mg : Str → Option Value) (base : Heap) (x : Str) (C : Addr) : Prop where
  g : mg x = some (.ref C)
  oex : OexC K C
  xf : XfC K C
  no : PySem.W.findIn K (.ref C) "router" = some none
  te : PySem.W.exmOne K (.ref C) (.ref C) = some true
  ini : ∃ (fI : Addr) (fd : FuncData), PySem.W.findIn K (.ref C) "__init__" = some (some (.ref fI)) ∧ PySem.W.typeIn K (.ref fI) = some (.type "function") ∧ FnOk P w K mg base CX0 1 fI fd ["self", "router"] (spXI C) ∧ Binds K fd ["self", "router"] []
theorem pmk_err {X : Cx} {x : Str} {C : Addr} {e : Expr} {ta : TA} {p pos : Pos} (T : Err X.prog X.w X.K X.mg X.base x C) (hr : Room 2 X.A) (hg : Gl X x) (ha : PA X [e] ta)
    (hdb : (x == ("__debug__" : Str)) = false := by decide) (he : starEach [e] X.env = (false, eval e X.env) :: starEach [] X.env := by rfl) (hpl : (backTo pos (starEach [] X.env)).any (·.1) = false := by rfl) : PMk X (.Call (.Name x p) [e] [] pos) (tMkO C (spXI C) [] ta) := by
  obtain ⟨fI, fd, h1, h2, h3, h4⟩ := T.ini
  exact pmk_oex T.oex h1 h2 h3 hr h4 .nil pass0 hg T.g ha hdb he hpl
/-- the first router whose item is wrong; the first with a way whose rest is not let -/
def fb (n : Int) : Nat → List PyData → Option Int
  | _, [] => none
  | i, d :: ds => if rowB n (i : Int) d = true then fb n (i + 1) ds else some (i : Int)
def sb (rows : List PyData) : Nat → List PyData → Option Int
  | _, [] => none
  | i, d :: ds => if (itemsT d).all (restB rows) = true then sb rows (i + 1) ds else some (i : Int)
def due2 (rows : List PyData) : Option Int := match fb (rows.length : Int) 0 rows with
  | some r => some r
  | none => sb rows 0 rows
def dueD (d : PyData) : Option Int := if isTu d = true ∧ 2 ≤ (itemsT d).length ∧ (itemsT d).length ≤ 8 then due2 (itemsT d) else some (-1)
theorem fb_drop {n : Int} : ∀ {ds : List PyData} {i j : Nat} {d : PyData}, ds[i]? = some d → fb n (j + i) (ds.drop i) = if rowB n ((j + i : Nat) : Int) d = true then fb n (j + (i + 1)) (ds.drop (i + 1)) else some ((j + i : Nat) : Int)
  | [], i, j, d, h => by simp at h
  | x :: ds, 0, j, d, h => by
    simp at h
    subst h
    rfl
  | x :: ds, i + 1, j, d, h => by
    have q := fb_drop (n := n) (ds := ds) (i := i) (j := j + 1) (d := d) (by simpa using h)
    simp only [List.drop_succ_cons]
    rw [show j + (i + 1) = j + 1 + i by omega, show j + (i + 1 + 1) = j + 1 + (i + 1) by omega]
    exact q
theorem sb_drop {rows : List PyData} : ∀ {ds : List PyData} {i j : Nat} {d : PyData}, ds[i]? = some d → sb rows (j + i) (ds.drop i) = if (itemsT d).all (restB rows) = true then sb rows (j + (i + 1)) (ds.drop (i + 1)) else some ((j + i : Nat) : Int)
  | [], i, j, d, h => by simp at h
  | x :: ds, 0, j, d, h => by
    simp at h
    subst h
    rfl
  | x :: ds, i + 1, j, d, h => by
    have q := sb_drop (rows := rows) (ds := ds) (i := i) (j := j + 1) (d := d) (by simpa using h)
    simp only [List.drop_succ_cons]
    rw [show j + (i + 1) = j + 1 + i by omega, show j + (i + 1 + 1) = j + 1 + (i + 1) by omega]
    exact q
theorem fb_good {n : Int} : ∀ {ds : List PyData} {j : Nat}, fb n j ds = none → ∀ (i : Nat) (d : PyData), ds[i]? = some d → rowB n ((j + i : Nat) : Int) d = true
  | [], _, _, i, d, h => by simp at h
  | x :: ds, j, hf, i, d, h => by
    unfold fb at hf
    by_cases hx : rowB n (j : Int) x = true
    · rw [if_pos hx] at hf
      cases i with
      | zero => simp at h; subst h; exact hx
      | succ i =>
        have q := fb_good hf i d (by simpa using h)
        rw [show j + (i + 1) = j + 1 + i by omega]
        exact q
    · rw [if_neg hx] at hf
      cases hf
theorem fb_Good {rows : List PyData} (h : fb (rows.length : Int) 0 rows = none) : Good rows := fun i row e => by
  have q := fb_good h i row e
  rw [Nat.zero_add] at q
  exact q
theorem g_two {i j : Nat} {x y : V} {σ : L2.St} {H : Hp} {k : L2.St → Hp → Prop} (h : k ((σ.set i (some x)).set j (some y)) H) : gCons (gName i) (gCons (gName j) gNil) [x, y] σ H k := ⟨_, _, rfl, ⟨_, _, rfl, ⟨rfl, h⟩⟩⟩
section
variable {P : Program} {w : World} {K : PySem.W.Frag} {mg : Str → Option Value} {base : Heap} {f : Addr} {fd : FuncData}
abbrev spSize : Sp := spP fun H vs z => ∃ (a : Int) (v : V) (d : PyData), vs = [.int a, v] ∧ Dq H v d ∧ z = .bl (isI d && (decide (a ≤ valI d) && decide (valI d ≤ 8)))
abbrev sSize : Stmt := top 15
theorem scSize : FnScope ["least", "thing"] ["least", "thing"] (defScope sSize) := ⟨rfl, rfl, rfl, by decide +kernel, rfl, by decide +kernel, by decide +kernel⟩
theorem ok_size {t8 : Tok} (hM : mg "MOST_ROUTERS" = some (.int 8 t8)) (C : Cal P w K mg base "is_between" ["least", "most", "thing"] 2 spBetween) (F : FnP K "is_size" sSize f fd) : FnOk P w K mg base CX0 3 f fd ["least", "thing"] spSize := by
  refine F.ok scSize (fun vs H Q E h => ?_) (fun cdv A outer s H vs Q E hr h => ?_)
  · obtain ⟨z, ⟨n, v, d, rfl, _⟩, _⟩ := h
    rfl
  · obtain ⟨z, ⟨n, v, d, rfl, hd, rfl⟩, k⟩ := h
    refine ⟨_, pss_one (ps_ret (pe_cal C hr (by rfl) (pa_cons (pv 0) (pa_cons (pe_glob (v := .int 8) (by rfl) hM ⟨_, rfl⟩) (pa_cons (pv 1) pa_nil))))), ?_⟩
    exact s_ret (ev_call (ea_cons (ev_var rfl) (ea_cons ev_c (ea_cons (ev_var rfl) ea_nil))) (spP_v fun H1 e => ⟨n, 8, v, d, rfl, hd.mono e, rfl⟩)) k
def spRefuse (CB : Addr) : Sp := fun vs H Q E => ∃ v d, vs = [v] ∧ Dq H v d ∧ (dueD d = none → ∀ H', Ex H H' → Q .non H') ∧ ∀ r, dueD d = some r → ∀ dx H', H dx = none → Ex H H' → H' dx = some (.xd [("router", .int r)]) → E (.ref CB) (some dx) H'
abbrev sRefuse : Stmt := top 22
abbrev nRefuse : List Str := ["lists", "router", "item", "way"]
theorem scRefuse : FnScope nRefuse ["lists"] (defScope sRefuse) := ⟨rfl, rfl, rfl, by decide +kernel, rfl, by decide +kernel, by decide +kernel⟩
theorem ok_refuse {CB : Addr} (B : Bl mg) {t2 : Tok} (hM : mg "LEAST_ROUTERS" = some (.int 2 t2)) (CS : Cal P w K mg base "is_size" ["least", "thing"] 3 spSize) (T : Err P w K mg base "BadWishes" CB) (C : Cal P w K mg base "is_way_list" ["size", "router", "thing"] 6 spRow) (C2 : Cal P w K mg base "has_let_rest" ["lists", "way"] 1 spRest)
    (F : FnP K "refuse_wrong_lists" sRefuse f fd) : FnOk P w K mg base (L2.CX P w) 7 f fd ["lists"] (spRefuse CB) := by
  refine F.ok scRefuse (fun vs H Q E h => ?_) (fun cdv A outer s H vs Q E hr h => ?_)
  · obtain ⟨v, d, rfl, _⟩ := h
    rfl
  · obtain ⟨v, d, rfl, hd, kN, kE⟩ := h
    have hr2 : Room 2 _ := hr.mono (by decide)
    have hr1 : Room 1 _ := hr.mono (by decide)
    refine ⟨_, pss_cons (ps_if (PW.pt (pw_or (pt_not (pt_val (pe_callB call_isi (by rfl) B.isi boot_isinstance (pa_cons (pv 0) (pa_cons (pe_bltn (v := .ty "tuple") (by rfl) B.tuple PyProof.Rows.boot_tuple rfl) pa_nil)))))
        (pw_or1 (pt_not (pt_val (pe_cal CS hr (by rfl) (pa_cons (pe_glob (v := .int 2) (by rfl) hM ⟨_, rfl⟩) (pa_cons (pe_callB call_len_seq (by rfl) B.len PySem.boot_len (pa_cons (pv 0) pa_nil)) pa_nil)))))))) (pss_one (ps_raise rfl (takes_of rfl rfl rfl rfl) (pmk_err T hr2 (by rfl) (pa_cons (pe_un un_neg pe_int) pa_nil)))) pss_nil)
      (pss_cons (ps_for (passes_of rfl) rfl (pi_enumT (by rfl) B.enum (pa_cons (pv 0) pa_nil)) (pg_tup rfl (pgs_cons (pg_name (i := 1) scRefuse.nd rfl (.inl rfl)) (pgs_cons (pg_name (i := 2) scRefuse.nd rfl (.inl rfl)) pgs_nil)))
        (pss_one (ps_if (pt_not (pt_val (pe_cal C hr (by rfl) (pa_cons (pe_callB call_len_seq (by rfl) B.len PySem.boot_len (pa_cons (pv 0) pa_nil)) (pa_cons (pv 1) (pa_cons (pv 2) pa_nil)))))) (pss_one (ps_raise rfl (takes_of rfl rfl rfl rfl) (pmk_err T hr2 (by rfl) (pa_cons (pv 1) pa_nil)))) pss_nil)))
      (pss_one (ps_for (passes_of rfl) rfl (pi_enumT (by rfl) B.enum (pa_cons (pv 0) pa_nil)) (pg_tup rfl (pgs_cons (pg_name (i := 1) scRefuse.nd rfl (.inl rfl)) (pgs_cons (pg_name (i := 2) scRefuse.nd rfl (.inl rfl)) pgs_nil)))
        (pss_one (ps_if (pt_not (pt_val (pe_callB (cr_all rfl) (by rfl) B.all boot_all (pa_cons (pe_lc (own := [("way", 3)]) (g := gName 3) (tt := tYes) rfl scRefuse.nd (pi_tup (pv 2)) (blkOk_by (N := nRefuse) (sc := defScope sRefuse) (by decide +kernel))
          (fun _ _ _ _ _ => pg_name (i := 3) scRefuse.nd rfl (Or.inl rfl)) (fun _ _ _ _ _ => pts_nil) (fun _ _ _ _ _ => pe_cal C2 hr1 (by rfl) (pa_cons (pv 0) (pa_cons (pv 3) pa_nil)))) pa_nil)))) (pss_one (ps_raise rfl (takes_of rfl rfl rfl rfl) (pmk_err T hr2 (by rfl) (pa_cons (pv 1) pa_nil)))) pss_nil))))), ?_⟩
    have v0 : ∀ {H1 : Hp} {o1 o2 o3 : Option V}, Ev (tVar 0) [some v, o1, o2, o3] H1 v := ev_var rfl
    have hlen : ∀ {H1 : Hp} {o1 o2 o3 : Option V}, Ex H H1 → isTu d = true → Ev (tCB (rLenS K) (tCons (tVar 0) tNil)) [some v, o1, o2, o3] H1 (.int ((itemsT d).length : Int)) := fun {H1 o1 o2 o3} e ht => by
      cases hd <;> first | (simp [isTu] at ht; done) | skip
      rename_i a xs ds h1 h2
      rw [show (itemsT (.tuple ds)).length = xs.length from h2.length.symm]
      exact ev_lenT v0 (st_of (e _ _ h1))
    refine q_when (b := !isTu d || !(decide (2 ≤ ((itemsT d).length : Int)) && decide (((itemsT d).length : Int) ≤ 8))) (et_or (et_not (et_B (ev_isi (v0 (H1 := H)) hd (kit_tup d)))) fun ht => et_not (et_B (ev_call (ea_cons ev_c (ea_cons (hlen (Ex.refl H) (by simpa using ht)) ea_nil)) (spP_v fun H1 e => ⟨2, _, _, rfl, .int _, rfl⟩))))
      (fun hb H1 e => ?_) (fun hb H1 e => ?_)
    · refine mk_err (ev_un ev_c ru_neg) fun dx H' h0 e' hx => kE (-1) ?_ dx H' (fresh_back e h0) (e.trans e') hx
      unfold dueD
      rw [if_neg]
      intro z
      obtain ⟨z1, z2, z3⟩ := z
      simp [z1] at hb
      omega
    · have ht : isTu d = true := by simp at hb; exact hb.1
      have hl : 2 ≤ (itemsT d).length ∧ (itemsT d).length ≤ 8 := by simp [ht] at hb; omega
      have edue : dueD d = due2 (itemsT d) := by unfold dueD; rw [if_pos ⟨ht, hl⟩]
      rw [edue] at kN kE
      cases hd <;> first | (simp [isTu] at ht; done) | skip
      rename_i a xs rows h1 h2
      have hlen' : ∀ {H1 : Hp} {o1 o2 o3 : Option V}, Ex H H1 → Ev (tCB (rLenS K) (tCons (tVar 0) tNil)) [some (.ref a), o1, o2, o3] H1 (.int (rows.length : Int)) := fun {_ _ _ _} e => hlen e rfl
      have kN' : due2 rows = none → ∀ H', Ex H H' → Q .non H' := kN
      have kE' : ∀ r, due2 rows = some r → ∀ dx H', H dx = none → Ex H H' → H' dx = some (.xd [("router", .int r)]) → E (.ref CB) (some dx) H' := kE
      have hl' : 2 ≤ rows.length ∧ rows.length ≤ 8 := hl
      clear kN kE hlen edue hl hb
      have hxl := h2.length
      refine q_forEn (K := K) (v0 (H1 := H1)) (st_of (e _ _ h1)) (fun i σ H' => Ex H H' ∧ (∃ o1 o2, σ = [some (.ref a), o1, o2, none]) ∧ fb (rows.length : Int) 0 rows = fb (rows.length : Int) i (rows.drop i)) (fun H2 e2 => ⟨e.trans e2, ⟨none, none, rfl⟩, rfl⟩) (fun i σ H' _ p => st_of (p.1 _ _ h1)) ?_ ?_
      · rintro i z T σ H3 hz ⟨e3, ⟨o1, o2, rfl⟩, hf⟩ hT
        obtain ⟨dz, ed1, ed2⟩ := h2.get hz
        have e4 : Ex H3 (upd H3 T (.tup [.int (i : Nat), z])) := Ex.new hT
        refine ⟨T, _, rfl, st_of upd_same, rfl, g_two ?_⟩
        change tIfS _ _ _ _ [some (.ref a), some (.int (i : Nat)), some z, none] _
        have hdrop := fb_drop (n := (rows.length : Int)) (j := 0) ed1
        rw [Nat.zero_add, Nat.zero_add] at hdrop
        refine s_when (b := !rowB (rows.length : Int) (i : Int) dz) (et_not (et_B (ev_call (ea_cons (hlen' (e3.trans e4)) (ea_cons (ev_var rfl) (ea_cons (ev_var rfl) ea_nil))) (spP_v fun H5 e5 => ⟨_, _, z, dz, rfl, ed2.mono ((e3.trans e4).trans e5), rfl⟩)))) (fun hb H5 e5 => ?_) (fun hb H5 e5 => ?_)
        · refine mk_err (ev_var rfl) fun dx H' h0 e' hx => kE' (i : Int) ?_ dx H' (fresh_back ((e3.trans e4).trans e5) h0) (((e3.trans e4).trans e5).trans e') hx
          have hb' : rowB (rows.length : Int) (i : Int) dz = false := by simpa using hb
          unfold due2
          rw [hf, hdrop, hb']
          rfl
        · have hb' : rowB (rows.length : Int) (i : Int) dz = true := by simpa using hb
          refine ⟨(e3.trans e4).trans e5, ⟨_, _, rfl⟩, ?_⟩
          rw [hf, hdrop, hb']
          rfl
      · rintro σ H3 ⟨e3, ⟨o1, o2, rfl⟩, hf⟩
        have hfn : fb (rows.length : Int) 0 rows = none := by
          rw [hf, hxl, List.drop_length]
          rfl
        have hG := fb_Good hfn
        have edue : due2 rows = sb rows 0 rows := by unfold due2; rw [hfn]
        rw [edue] at kN' kE'
        refine s_forEn (K := K) (v0 (H1 := H3)) (st_of (e3 _ _ h1)) (fun i σ H' => Ex H H' ∧ (∃ o1 o2, σ = [some (.ref a), o1, o2, none]) ∧ sb rows 0 rows = sb rows i (rows.drop i)) (fun H4 e4 => ⟨e3.trans e4, ⟨_, _, rfl⟩, rfl⟩) (fun i σ H' _ p => st_of (p.1 _ _ h1)) ?_ ?_
        · rintro i z T σ H5 hz ⟨e5, ⟨p1, p2, rfl⟩, hs⟩ hT
          obtain ⟨dz, ed1, ed2⟩ := h2.get hz
          have e6 : Ex H5 (upd H5 T (.tup [.int (i : Nat), z])) := Ex.new hT
          refine ⟨T, _, rfl, st_of upd_same, rfl, g_two ?_⟩
          change tIfS _ _ _ _ [some (.ref a), some (.int (i : Nat)), some z, none] _
          have hdrop := sb_drop (rows := rows) (j := 0) ed1
          rw [Nat.zero_add, Nat.zero_add] at hdrop
          obtain ⟨ws, ew, lay, hwl, hways, hw0⟩ := row_lay (hG i dz ed1)
          subst ew
          have hwall : ∀ w ∈ ws, wayB (rows.length : Int) (i : Int) w = true := fun w hw => by
            by_cases hi0 : (i : Int) = 0
            · rw [hw0 hi0] at hw
              cases hw
            · exact List.all_eq_true.mp (hways hi0) w hw
          have ed3 := ed2.mono (e5.trans e6)
          cases ed3 with
          | tup hz1 hz2 =>
            rename_i az zs
            have hzl := hz2.length
            refine s_when (b := !ws.all (restB rows)) (et_not (et_B ?_)) (fun hb H7 e7 => ?_) (fun hb H7 e7 => ?_)
            · have q := ev_allT (K := K) (H := upd H5 T (.tup [.int (i : Nat), .ref az])) (j := 3) (vs := [3]) (σ := [some (.ref a), some (.int (i : Nat)), some (.ref az), none]) (tl := tVar 2) (te := tCall spRest [] E0 (tCons (tVar 0) (tCons (tVar 3) tNil))) (fun k => ((ws[k]?).map (restB rows)).getD false) (ev_var rfl) (st_of hz1) (by omega) (fun x => rfl)
                (fun k x H8 e8 hx => by
                  obtain ⟨dx, e9, e10⟩ := hz2.get hx
                  rw [e9]
                  exact ev_call (ea_cons (ev_var rfl) (ea_cons (ev_var rfl) ea_nil)) (spP_v fun H9 e11 => ⟨.ref a, x, rows, dx, (i : Int), rfl, .tup ((((e5.trans e6).trans e8).trans e11) _ _ h1) (h2.mono (((e5.trans e6).trans e8).trans e11)), (e10.mono e8).mono e11, hwall dx (List.mem_of_getElem? e9), hG, rfl⟩))
              rw [hzl, all_get] at q
              exact q
            · refine mk_err (ev_var rfl) fun dx H' h0 e' hx => kE' (i : Int) ?_ dx H' (fresh_back ((e5.trans e6).trans e7) h0) (((e5.trans e6).trans e7).trans e') hx
              have hb' : ws.all (restB rows) = false := by simpa using hb
              rw [hs, hdrop, show (itemsT (.tuple ws)).all (restB rows) = false from hb']
              rfl
            · have hb' : ws.all (restB rows) = true := by simpa using hb
              refine ⟨(e5.trans e6).trans e7, ⟨_, _, rfl⟩, ?_⟩
              rw [hs, hdrop, show (itemsT (.tuple ws)).all (restB rows) = true from hb']
              rfl
        · rintro σ H5 ⟨e5, ⟨p1, p2, rfl⟩, hs⟩
          refine kN' ?_ H5 e5
          rw [hs, hxl, List.drop_length]
          rfl
end
end Wk

set_option Elab.async false
set_option linter.all false
set_option maxRecDepth 100000
set_option maxHeartbeats 2000000
namespace Wk
open PySem PySem.Spec PyProof.Rows L2 Evl
abbrev FnM (K : PySem.W.Frag) (x q : Str) (st : Stmt) (f : Addr) (fd : FuncData) : Prop := FunD K x q (defArgs st) (defBody st) (defScope st) [] [] f fd
/-- the fields of wishes -/
def wf (n : Int) (v : V) : List (Str × V) := putF "_lists" v (putF "size" (.int n) [])
theorem wf_size (n : Int) (v : V) : (wf n v).lookup ("size" : Str) = some (.int n) := by
  unfold wf
  rw [lookup_putF, if_neg (by decide +kernel), lookup_putF, if_pos rfl]
theorem wf_lists (n : Int) (v : V) : (wf n v).lookup ("_lists" : Str) = some v := by
  unfold wf
  rw [lookup_putF, if_pos rfl]
theorem wf_no (n : Int) (v : V) {m : Str} (h1 : ¬ m = "_lists") (h2 : ¬ m = "size") : (wf n v).lookup m = none := by
  unfold wf
  rw [lookup_putF, if_neg h1, lookup_putF, if_neg h2]
  rfl
section
variable {P : Program} {w : World} {K : PySem.W.Frag} {mg : Str → Option Value} {base : Heap} {f : Addr} {fd : FuncData}
abbrev sXN : Stmt := inClass (top 2) 0
abbrev sXB : Stmt := inClass (top 3) 0
theorem scXN : FnScope ["self", "router"] ["self", "router"] (defScope sXN) := ⟨rfl, rfl, rfl, by decide +kernel, rfl, by decide +kernel, by decide +kernel⟩
theorem scXB : FnScope ["self", "router"] ["self", "router"] (defScope sXB) := ⟨rfl, rfl, rfl, by decide +kernel, rfl, by decide +kernel, by decide +kernel⟩
theorem ok_xn {C : Addr} (T : OexC K C) (no : PySem.W.findIn K (.ref C) "router" = some none) (F : FnM K "__init__" "NoRouter.__init__" sXN f fd) : FnOk P w K mg base CX0 1 f fd ["self", "router"] (spXI C) := by
  refine F.ok scXN (fun vs H Q E h => ?_) (fun cdv A outer s H vs Q E hr h => ?_)
  · obtain ⟨a, y, rfl, _⟩ := h
    rfl
  · obtain ⟨a, y, rfl, ha, k⟩ := h
    exact ⟨_, pss_one (ps_ost (pv 0) (pv 1)), y, rfl, .ref a, rfl, a, C, rfl, T, no, .inl ⟨ha, k⟩⟩
theorem ok_xb {C : Addr} (T : OexC K C) (no : PySem.W.findIn K (.ref C) "router" = some none) (F : FnM K "__init__" "BadWishes.__init__" sXB f fd) : FnOk P w K mg base CX0 1 f fd ["self", "router"] (spXI C) := by
  refine F.ok scXB (fun vs H Q E h => ?_) (fun cdv A outer s H vs Q E hr h => ?_)
  · obtain ⟨a, y, rfl, _⟩ := h
    rfl
  · obtain ⟨a, y, rfl, ha, k⟩ := h
    exact ⟨_, pss_one (ps_ost (pv 0) (pv 1)), y, rfl, .ref a, rfl, a, C, rfl, T, no, .inl ⟨ha, k⟩⟩
/-! Wishes.__init__ -/
structure CalX (P : Program) (w : World) (K : PySem.W.Frag) (mg : Str → Option Value) (base : Heap) (x : Str) (ps : List Str) (k : Nat) (sp : Sp) : Prop where
  ex : ∃ (f : Addr) (fd : FuncData), FnOk P w K mg base (L2.CX P w) k f fd ps sp ∧ mg x = some (.ref f) ∧ PySem.W.keepIn K (.ref f) = true ∧ Binds K fd ps []
def spWI (CW CB : Addr) : Sp := fun vs H Q E => ∃ (G : Hp) (p dx : Addr) (v : V) (d : PyData), vs = [.ref p, v] ∧ H p = some (.ins CW dx []) ∧ Ex G H ∧ G p = none ∧ Dq G v d ∧
  (dueD d = none → ∀ H', Ex G H' → H' p = some (.ins CW dx (wf ((itemsT d).length : Int) v)) → Q .non H') ∧ ∀ r, dueD d = some r → ∀ dx H', H dx = none → Ex H H' → H' dx = some (.xd [("router", .int r)]) → E (.ref CB) (some dx) H'
abbrev sWI : Stmt := inClass (top 21) 0
theorem scWI : FnScope ["self", "lists"] ["self", "lists"] (defScope sWI) := ⟨rfl, rfl, rfl, by decide +kernel, rfl, by decide +kernel, by decide +kernel⟩
theorem due_none {d : PyData} (h : dueD d = none) : isTu d = true ∧ 2 ≤ (itemsT d).length ∧ (itemsT d).length ≤ 8 ∧ due2 (itemsT d) = none := by
  unfold dueD at h
  by_cases c : isTu d = true ∧ 2 ≤ (itemsT d).length ∧ (itemsT d).length ≤ 8
  · rw [if_pos c] at h
    exact ⟨c.1, c.2.1, c.2.2, h⟩
  · rw [if_neg c] at h
    cases h
structure WTx (K : PySem.W.Frag) (mg : Str → Option Value) (CW : Addr) : Prop where
  cl : Cls K CW
  nS : NoAttr K CW "size"
  nL : NoAttr K CW "_lists"
  g : mg "Wishes" = some (.ref CW)
theorem ok_wi {CW CB : Addr} (B : Bl mg) (T : WTx K mg CW) (C : CalX P w K mg base "refuse_wrong_lists" ["lists"] 7 (spRefuse CB)) (F : FnM K "__init__" "Wishes.__init__" sWI f fd) : FnOk P w K mg base (L2.CX P w) 8 f fd ["self", "lists"] (spWI CW CB) := by
  obtain ⟨fR, fdR, FR, gR, kR, bR⟩ := C.ex
  refine F.ok scWI (fun vs H Q E h => ?_) (fun cdv A outer s H vs Q E hr h => ?_)
  · obtain ⟨G, p, dx, v, d, rfl, _⟩ := h
    rfl
  · obtain ⟨G, p, dx, v, d, rfl, hp, eG, gp, hd, kN, kE⟩ := h
    refine ⟨_, pss_cons (ps_expr (pe_call FR hr (by rfl) gR kR bR .nil (passes_call (takes_of rfl rfl rfl rfl) (fun _ _ _ _ h => h)) (pa_cons (pv 1) pa_nil)))
      (pss_cons (ps_fld (pv 0) (pe_callB call_len_seq (by rfl) B.len PySem.boot_len (pa_cons (pv 1) pa_nil)) rfl) (pss_one (ps_fld (pv 0) (pv 1) rfl))), ?_⟩
    refine ⟨v, rfl, v, d, rfl, hd.mono eG, fun hn H1 e1 => ?_, kE⟩
    obtain ⟨ht, hl2, hl8, hdu⟩ := due_none hn
    have hp1 := e1 _ _ hp
    have hd1 := hd.mono (eG.trans e1)
    have kN' := kN hn
    cases hd1 <;> first | (simp [isTu] at ht; done) | skip
    rename_i a xs rows h1 h2
    have npa : a ≠ p := fun z => by rw [z, hp1] at h1; cases h1
    refine ⟨.ref a, rfl, a, xs, rfl, .inr (st_of h1), .ref p, rfl, p, CW, dx, [], rfl, hp1, T.cl, T.nS, (by show 0 < 1000; decide), ?_⟩
    refine ⟨.ref a, rfl, .ref p, rfl, p, CW, dx, _, rfl, upd_same, T.cl, T.nL, (by show 1 < 1000; decide), ?_⟩
    refine kN' _ (fun b o hb => ?_) ?_
    · have nb : b ≠ p := fun z => by rw [z, gp] at hb; cases hb
      rw [upd_ne nb, upd_ne nb]
      exact e1 _ _ (eG _ _ hb)
    · rw [upd_same, h2.length]
      rfl
/-! refuse_no_router -/
def spNoRt (CN : Addr) : Sp := fun vs H Q E => ∃ (n : Int) (v : V) (d : PyData), vs = [.int n, v] ∧ Dq H v d ∧ (isR n d = true → ∀ H', Ex H H' → Q .non H') ∧ (isR n d = false → ∀ dx H', H dx = none → Ex H H' → H' dx = some (.xd [("router", v)]) → E (.ref CN) (some dx) H')
abbrev sNoRt : Stmt := top 14
theorem scNoRt : FnScope ["size", "thing"] ["size", "thing"] (defScope sNoRt) := ⟨rfl, rfl, rfl, by decide +kernel, rfl, by decide +kernel, by decide +kernel⟩
theorem ok_noRt {CN : Addr} (TN : Err P w K mg base "NoRouter" CN) (C : Cal P w K mg base "is_router" ["size", "thing"] 3 spRouter) (F : FnP K "refuse_no_router" sNoRt f fd) : FnOk P w K mg base (L2.CX P w) 4 f fd ["size", "thing"] (spNoRt CN) := by
  refine F.ok scNoRt (fun vs H Q E h => ?_) (fun cdv A outer s H vs Q E hr h => ?_)
  · obtain ⟨n, v, d, rfl, _⟩ := h
    rfl
  · obtain ⟨n, v, d, rfl, hd, kQ, kE⟩ := h
    have hr2 : Room 2 _ := hr.mono (by decide)
    refine ⟨_, pss_one (ps_if (pt_not (pt_val (pe_cal C hr (by rfl) (pa_cons (pv 0) (pa_cons (pv 1) pa_nil))))) (pss_one (ps_raise rfl (takes_of rfl rfl rfl rfl) (pmk_err TN hr2 (by rfl) (pa_cons (pv 1) pa_nil)))) pss_nil), ?_⟩
    refine s_when (b := !isR n d) (et_not (et_B (ev_call (ea_cons (ev_var rfl) (ea_cons (ev_var rfl) ea_nil)) (spP_v fun H1 e => ⟨_, v, d, rfl, hd.mono e, rfl⟩)))) (fun hb H1 e => ?_) (fun hb H1 e => ?_)
    · exact mk_err (ev_var rfl) fun dx H' h0 e' hx => kE (by simpa using hb) dx H' (fresh_back e h0) (e.trans e') hx
    · exact kQ (by simpa using hb) H1 e
/-! Wishes.ways -/
def spWays (CW CN : Addr) : Sp := fun vs H Q E => ∃ (p dx : Addr) (lv v : V) (d : PyData) (rows : List PyData), vs = [.ref p, v] ∧ H p = some (.ins CW dx (wf (rows.length : Int) lv)) ∧ Dq H lv (.tuple rows) ∧ Dq H v d ∧
  (isR (rows.length : Int) d = true → ∀ v' row H', rows[(valI d).toNat]? = some row → Dq H v' row → Ex H H' → Q v' H') ∧ (isR (rows.length : Int) d = false → ∀ dx H', H dx = none → Ex H H' → H' dx = some (.xd [("router", v)]) → E (.ref CN) (some dx) H')
abbrev sWays : Stmt := inClass (top 21) 2
theorem scWays : FnScope ["self", "router"] ["self", "router"] (defScope sWays) := ⟨rfl, rfl, rfl, by decide +kernel, rfl, by decide +kernel, by decide +kernel⟩
theorem ok_ways {CW CN : Addr} (T : WTx K mg CW) (C : CalX P w K mg base "refuse_no_router" ["size", "thing"] 4 (spNoRt CN)) (F : FnM K "ways" "Wishes.ways" sWays f fd) : FnOk P w K mg base (L2.CX P w) 5 f fd ["self", "router"] (spWays CW CN) := by
  obtain ⟨fR, fdR, FR, gR, kR, bR⟩ := C.ex
  refine F.ok scWays (fun vs H Q E h => ?_) (fun cdv A outer s H vs Q E hr h => ?_)
  · obtain ⟨p, dx, lv, v, d, rows, rfl, _⟩ := h
    rfl
  · obtain ⟨p, dx, lv, v, d, rows, rfl, hp, hl, hd, kQ, kE⟩ := h
    have hr2 : Room 2 _ := hr.mono (by decide)
    refine ⟨_, pss_cons (ps_expr (pe_call FR hr (by rfl) gR kR bR .nil (passes_call (takes_of rfl rfl rfl rfl) (fun _ _ _ _ h => h)) (pa_cons (pe_fld (pv 0) rfl) (pa_cons (pv 1) pa_nil))))
      (pss_one (ps_ret (pe_ix ix_tup (pe_fld (pv 0) rfl) (pv 1) (fun _ _ => rfl)))), ?_⟩
    have v1 : ∀ {H1 : Hp}, Ev (tVar 1) (start ["self", "router"] [.ref p, v]) H1 v := ev_var rfl
    have fS : Ev (tFld K (tVar 0) "size") (start ["self", "router"] [.ref p, v]) H (.int (rows.length : Int)) := fun H1 e Q2 q => ⟨.ref p, rfl, p, CW, dx, _, _, rfl, e _ _ hp, T.cl, T.nS, wf_size _ _, q H1 (Ex.refl H1)⟩
    refine ⟨.ref p, rfl, p, CW, dx, _, _, rfl, hp, T.cl, T.nS, wf_size _ _, v, rfl, _, v, d, rfl, hd, fun hR H1 e => ?_, fun hb dx' H' h0 e' hx => kE hb dx' H' h0 e' hx⟩
    · skip
      have hR' := hR
      unfold isR at hR'
      simp only [Bool.and_eq_true, decide_eq_true_eq] at hR'
      obtain ⟨hi, h0, hn⟩ := hR'
      have ei := isI_eq hi
      generalize valI d = j at *
      subst ei
      cases hd
      cases hl with
      | tup ha hx =>
        rename_i a xs
        have hjl : j.toNat < rows.length := by omega
        have hrow : rows[j.toNat]? = some rows[j.toNat] := List.getElem?_eq_getElem hjl
        obtain ⟨rv, hrv, hdr⟩ := hx.at hrow
        have hat : atI xs j = some rv := by
          have q := atI_nat (j := j.toNat) hrv
          rw [Int.toNat_of_nonneg h0] at q
          exact q
        have fL : Ev (tFld K (tVar 0) "_lists") (start ["self", "router"] [.ref p, .int j]) H1 (.ref a) := fun H2 e2 Q2 q => ⟨.ref p, rfl, p, CW, dx, _, _, rfl, e2 _ _ (e _ _ hp), T.cl, T.nL, wf_lists _ _, q H2 (Ex.refl H2)⟩
        exact s_ret (ev_op fL v1 (rv_ixT (st_of (e _ _ ha)) hat)) fun H2 e2 => kQ hR rv _ H2 hrow hdr (e.trans e2)
end
end Wk

set_option Elab.async false
set_option linter.all false
set_option maxRecDepth 100000
set_option maxHeartbeats 2000000
namespace Wk
open PySem PySem.Spec PyProof.Rows L2 Evl
theorem eqv_ints : ∀ a b : List Int, PyData.eqvAll (a.map PyData.int) (b.map PyData.int) = decide (a = b)
  | [], [] => by simp [PyData.eqvAll]
  | [], _ :: _ => by simp [PyData.eqvAll]
  | _ :: _, [] => by simp [PyData.eqvAll]
  | x :: a, y :: b => by
    have ih := eqv_ints a b
    simp only [List.map_cons, PyData.eqvAll, PyData.eqv, ih]
    by_cases h : x = y
    · subst h; simp
    · have : (x == y) = false := by simpa using h
      simp [this, h]
theorem eqv_way {n r m q : Int} {d e : PyData} (h1 : wayB n r d = true) (h2 : wayB m q e = true) : PyData.eqv d e = decide (rts d = rts e) := by
  have e1 := (way_ints h1).1
  have e2 := (way_ints h2).1
  generalize hx : rts d = a at *
  generalize hy : rts e = b at *
  rw [e1, e2]
  show PyData.eqvAll _ _ = _
  exact eqv_ints a b
theorem inV_ints (x : Int) : ∀ ns : List Int, inV (.int x) (ns.map V.int) = decide (x ∈ ns)
  | [] => rfl
  | n :: ns => by
    have ih := inV_ints x ns
    unfold inV at *
    rw [List.map_cons, List.any_cons, ih]
    show ((n == x) || _) = _
    by_cases h : n = x
    · subst h; simp
    · have : (n == x) = false := by simpa using h
      rw [this]
      simp [Ne.symm h]
theorem cut_to (xs : List V) (i : Nat) (h : i ≤ xs.length) : cutV xs none (some (i : Int)) = xs.take i := by
  unfold cutV
  rw [HT.sIx_none, HT.sIx_nat, Nat.min_eq_left h]
  simp
theorem flat_ints (ns : List Int) : (ns.map V.int).all flatV = true := by
  rw [List.all_map, List.all_eq_true]
  intro x _
  rfl
theorem nd_take {α : Type} : ∀ {l : List α} {i : Nat} {x : α}, l.Nodup → l[i]? = some x → x ∉ l.take i
  | [], i, x, _, h, _ => by simp at h
  | y :: l, 0, x, _, _, hm => by simp at hm
  | y :: l, i + 1, x, hn, h, hm => by
    have hn' := List.nodup_cons.mp hn
    have h' : l[i]? = some x := by simpa using h
    rcases List.mem_cons.mp (show x ∈ y :: l.take i from hm) with e | e
    · exact hn'.1 (e ▸ List.mem_of_getElem? h')
    · exact nd_take hn'.2 h' e
theorem nd_snoc {α : Type} {l : List α} {x : α} (h : l.Nodup) (hx : x ∉ l) : (l ++ [x]).Nodup := by
  unfold List.Nodup
  rw [List.pairwise_append]
  refine ⟨h, List.pairwise_singleton _ _, fun a ha b hb => ?_⟩
  rw [List.mem_singleton] at hb
  intro e
  rw [← hb, ← e] at hx
  exact hx ha
theorem take_snoc {α : Type} {l : List α} {i : Nat} {x : α} (h : l[i]? = some x) : l.take (i + 1) = l.take i ++ [x] := by
  rw [List.take_add_one, h]
  rfl
theorem ev_inS {K : PySem.W.Frag} {σ : L2.St} {H : Hp} {ta tb : TE} {x : V} {xs : List V} (ha : Ev ta σ H x) (hb : EvS tb σ H xs) (hx : flatV x = true) (hf : xs.all flatV = true) : Ev (tOp (rIn K false) ta tb) σ H (.bl (inV x xs)) := fun H1 e Q q =>
  ha H1 e _ fun H2 e2 => hb H2 (e.trans e2) _ fun p H3 e3 hp => ⟨p, xs, rfl, .inr (st_of hp), hx, hf, q H3 (e2.trans e3)⟩
theorem any_rts {n r : Int} {d : PyData} (hd : wayB n r d = true) : ∀ {ds : List PyData}, ds.all (wayB n r) = true → (ds.any fun z => PyData.eqv z d) = decide (rts d ∈ ds.map rts)
  | [], _ => rfl
  | x :: ds, h => by
    have h' : wayB n r x = true ∧ ds.all (wayB n r) = true := by simpa using h
    rw [List.any_cons, any_rts hd h'.2, eqv_way h'.1 hd, List.map_cons]
    by_cases c : rts x = rts d
    · rw [decide_eq_true c, Bool.true_or]
      exact (decide_eq_true (by rw [c]; exact List.mem_cons_self)).symm
    · rw [decide_eq_false c, Bool.false_or]
      rw [decide_eq_decide]
      constructor
      · exact fun z => List.mem_cons_of_mem _ z
      · intro z
        rcases List.mem_cons.mp z with e | e
        · exact absurd e.symm c
        · exact e
theorem way_second {n r : Int} {w : PyData} (h : wayB n r w = true) : (rts w).getD 1 0 = 0 ↔ (rts w).length = 2 := by
  obtain ⟨_, _, h2, _, _, hlast, hnd⟩ := way_ints h
  generalize rts w = ns at *
  cases ns with
  | nil => simp at h2
  | cons a l =>
    cases l with
    | nil => simp at h2
    | cons b l =>
      cases l with
      | nil =>
        simp at hlast
        simp [hlast]
      | cons c l =>
        have hb : b ∉ c :: l := (List.nodup_cons.mp (List.nodup_cons.mp hnd).2).1
        have h0 : (0 : Int) ∈ c :: l := by
          have e : (c :: l).getLast? = some 0 := by
            rw [← hlast]
            simp [List.getLast?_cons_cons]
          exact List.mem_of_getLast? e
        constructor
        · intro z
          have z' : b = 0 := z
          rw [z'] at hb
          exact absurd h0 hb
        · intro z
          simp at z
/-- None, or the router -/
def dueV (o : Option Int) : V := match o with
  | none => .non
  | some r => .int r
/-- plain data: ints, texts, tuples of such -/
inductive Smp : Nat → PyData → Prop
  | int (n : Nat) (i : Int) : Smp n (.int i)
  | str (n : Nat) (z : Str) : Smp n (.str z)
  | tup (n : Nat) (ds : List PyData) : (∀ d ∈ ds, Smp n d) → ds.length ≤ 100 → Smp (n + 1) (.tuple ds)
section
variable {K : PySem.W.Frag} {σ : L2.St} {H : Hp} {ta : TE}
theorem ev_isi2 {v : V} {d : PyData} {n m : String} {b c : Bool} (h : Ev ta σ H v) (hd : Dq H v d) (h1 : kitB (tyN d) n = some b) (h2 : kitB (tyN d) m = some c) :
    Ev (tCB (rIsiT K) (tCons ta (tCons (tTup (tCons (tC (.ty n)) (tCons (tC (.ty m)) tNil))) tNil))) σ H (.bl (b || c)) := fun H1 e Q q =>
  h H1 e _ fun H2 e2 => ⟨by show 2 ≤ sizeLine; decide, fun p hp => ⟨v, p, [.ty n, .ty m], .type (tyN d), [.type n, .type m], b || c, rfl, upd_same, .cons (.ty n) (.cons (.ty m) .nil), (hd.mono ((e.trans e2).trans (Ex.new hp))).ty,
    kitAny_cons (kit_ty h1) (fun hb => kitAny_cons (kit_ty h2) (fun hc => by rw [hb, hc]; exact kitAny_nil) (fun hc => by rw [hc]; simp)) (fun hb => by rw [hb]; rfl), q _ (e2.trans (Ex.new hp))⟩⟩
end
theorem k_tl : kitB "tuple" "list" = some false := by decide +kernel
theorem k_tt : kitB "tuple" "tuple" = some true := by decide +kernel
theorem k_il : kitB "int" "list" = some false := by decide +kernel
theorem k_it : kitB "int" "tuple" = some false := by decide +kernel
theorem k_sl : kitB "str" "list" = some false := by decide +kernel
theorem k_st : kitB "str" "tuple" = some false := by decide +kernel
theorem k_ii : kitB "int" "int" = some true := by decide +kernel
theorem k_ib : kitB "int" "bool" = some false := by decide +kernel
theorem k_si : kitB "str" "int" = some false := by decide +kernel
theorem k_ss : kitB "str" "str" = some true := by decide +kernel
/-! the pool of numbers: the list at p with a count and the list at q of cells; G is what stays -/
structure Pl (G H : Hp) (p q : Addr) : Prop where
  ex : Ex G H
  gp : G p = none
  gq : G q = none
  ne : p ≠ q
  at_ : ∃ (n : Int) (cs : List Int), H p = some (.lst [.int n, .ref q]) ∧ H q = some (.lst (cs.map V.int)) ∧ cs ≠ [] ∧ cs.length ≤ 63
theorem Pl.np {G H : Hp} {p q a : Addr} (h : Pl G H p q) (ha : H a = none) : a ≠ p := fun z => by
  obtain ⟨n, cs, h1, _⟩ := h.at_
  rw [z, h1] at ha
  cases ha
theorem Pl.nq {G H : Hp} {p q a : Addr} (h : Pl G H p q) (ha : H a = none) : a ≠ q := fun z => by
  obtain ⟨n, cs, _, h2, _⟩ := h.at_
  rw [z, h2] at ha
  cases ha
theorem Pl.ext {G H H' : Hp} {p q : Addr} (h : Pl G H p q) (e : Ex H H') : Pl G H' p q := by
  obtain ⟨n, cs, h1, h2, r⟩ := h.at_
  exact ⟨h.ex.trans e, h.gp, h.gq, h.ne, n, cs, e _ _ h1, e _ _ h2, r⟩
/-- a new object that stays -/
theorem Pl.new {G H : Hp} {p q a : Addr} {o : HO} (h : Pl G H p q) (ha : H a = none) : Pl (upd G a o) (upd H a o) p q := by
  obtain ⟨n, cs, h1, h2, r⟩ := h.at_
  have np := h.np ha
  have nq := h.nq ha
  refine ⟨fun b u hb => ?_, by rw [upd_ne (Ne.symm np)]; exact h.gp, by rw [upd_ne (Ne.symm nq)]; exact h.gq, h.ne, n, cs, by rw [upd_ne (Ne.symm np)]; exact h1, by rw [upd_ne (Ne.symm nq)]; exact h2, r⟩
  by_cases c : b = a
  · rw [c, upd_same] at hb ⊢
    exact hb
  · rw [upd_ne c] at hb ⊢
    exact h.ex _ _ hb
/-- an object that does not stay is changed -/
theorem Pl.mut {G H : Hp} {p q a : Addr} {o : HO} (h : Pl G H p q) (ga : G a = none) (np : a ≠ p) (nq : a ≠ q) : Pl G (upd H a o) p q := by
  obtain ⟨n, cs, h1, h2, r⟩ := h.at_
  exact ⟨Ex.mut h.ex ga, h.gp, h.gq, h.ne, n, cs, by rw [upd_ne (Ne.symm np)]; exact h1, by rw [upd_ne (Ne.symm nq)]; exact h2, r⟩
/-- what an object holds now stays for a while -/
theorem Pl.hold {G H : Hp} {p q a : Addr} {o : HO} (h : Pl G H p q) (ha : H a = some o) (np : a ≠ p) (nq : a ≠ q) : Pl (upd G a o) H p q := by
  refine ⟨fun b u hb => ?_, by rw [upd_ne (Ne.symm np)]; exact h.gp, by rw [upd_ne (Ne.symm nq)]; exact h.gq, h.ne, h.at_⟩
  by_cases c : b = a
  · rw [c, upd_same] at hb
    cases hb
    rw [c]
    exact ha
  · rw [upd_ne c] at hb
    exact h.ex _ _ hb
/-- less stays -/
theorem Pl.less {G G' H : Hp} {p q : Addr} (h : Pl G H p q) (e : Ex G' G) : Pl G' H p q := ⟨e.trans h.ex, fresh_back e h.gp, fresh_back e h.gq, h.ne, h.at_⟩
theorem Ex.upd2 {G : Hp} {a : Addr} {o : HO} (h : G a = none) : Ex G (upd G a o) := Ex.new h
/-- all but the pool stays -/
def Off (p q : Addr) (H H' : Hp) : Prop := ∀ b o, b ≠ p → b ≠ q → H b = some o → H' b = some o
theorem Off.refl (p q : Addr) (H : Hp) : Off p q H H := fun _ _ _ _ h => h
theorem Off.trans {p q : Addr} {H H1 H2 : Hp} (a : Off p q H H1) (b : Off p q H1 H2) : Off p q H H2 := fun c o h1 h2 h => b c o h1 h2 (a c o h1 h2 h)
theorem Off.ex {p q : Addr} {H H1 : Hp} (e : Ex H H1) : Off p q H H1 := fun c o _ _ h => e c o h
open Classical in
noncomputable def Hd (H : Hp) (p q : Addr) : Hp := fun b => if b = p ∨ b = q then none else H b
theorem hd_none {H : Hp} {p q a : Addr} (h : Hd H p q a = none) (hp : a ≠ p) (hq : a ≠ q) : H a = none := by
  unfold Hd at h
  rw [if_neg (by simp [hp, hq])] at h
  exact h
theorem Pl.hd {G H : Hp} {p q : Addr} (h : Pl G H p q) : Pl (Hd H p q) H p q :=
  ⟨fun b o hb => by
    unfold Hd at hb
    split at hb
    · cases hb
    · exact hb, by unfold Hd; rw [if_pos (.inl rfl)], by unfold Hd; rw [if_pos (.inr rfl)], h.ne, h.at_⟩
theorem Pl.off {H H' : Hp} {p q : Addr} (h : Pl (Hd H p q) H' p q) : Off p q H H' := fun b o hp hq hb => h.ex b o (by unfold Hd; rw [if_neg (by simp [hp, hq])]; exact hb)
theorem Pl.back {G H H' : Hp} {p q : Addr} (h0 : Pl G H p q) (h : Pl (Hd H p q) H' p q) : Pl G H' p q := h.less fun b o hb => by
  have hp : b ≠ p := fun z => by rw [z, h0.gp] at hb; cases hb
  have hq : b ≠ q := fun z => by rw [z, h0.gq] at hb; cases hb
  unfold Hd
  rw [if_neg (by simp [hp, hq])]
  exact h0.ex _ _ hb
theorem eraseIdx_mp {α β : Type} (f : α → β) : ∀ (l : List α) (k : Nat), (l.map f).eraseIdx k = (l.eraseIdx k).map f
  | [], _ => rfl
  | _ :: _, 0 => rfl
  | x :: l, k + 1 => by
    show f x :: (l.map f).eraseIdx k = f x :: (l.eraseIdx k).map f
    rw [eraseIdx_mp f l k]
theorem seqIx {k n : Nat} (h : k < n) : seqIndex? (k : Int) n = some k := by
  have q := ixN_seq (n := n) (i := (k : Int)) (j := k) (by
    unfold ixN
    rw [if_pos (by omega), if_pos (by omega)]
    simp)
  exact q.1
theorem ix_listK {X : Cx} {K : PySem.W.Frag} (hK : X.K = K) : IxR X (rIxL K) := by
  subst hK
  exact ix_list
theorem ixNat {n : Nat} {x : Int} (h0 : 0 ≤ x) (h1 : x < n) : ixN n x = some x.toNat := by
  unfold ixN
  rw [if_pos h0, if_pos h1]
theorem at_ints {os : List Int} {j : Nat} (h : j < os.length) : atI (os.map V.int) (j : Int) = some (.int os[j]) := atI_nat (by rw [List.getElem?_map, List.getElem?_eq_getElem h]; rfl)
theorem g_name {i : Nat} {x : V} {σ : L2.St} {H : Hp} {k : L2.St → Hp → Prop} (h : k (σ.set i (some x)) H) : gName i x σ H k := h
theorem asg_lst1 {te : TE} {g : TG} {D : Ends} {σ : L2.St} {H : Hp} (h : te σ H fun x H1 => 1 ≤ sizeLine ∧ ∀ b, H1 b = none → g (.ref b) σ (upd H1 b (.lst [x])) D.nx) : tAsg (tLst (tCons te tNil)) g D σ H := h
theorem cb1 {r : List V → Hp → VK → Prop} {ta : TE} {σ : L2.St} {H : Hp} {Q : VK} (h : ta σ H fun x H1 => r [x] H1 Q) : tCB r (tCons ta tNil) σ H Q := h
theorem q_c {i : Nat} {v : V} {tz : TS} {D : Ends} {σ : L2.St} {H : Hp} (h : tz D (σ.set i (some v)) H) : tSeq (tAsg (tC v) (gName i)) tz D σ H := h
theorem call_tupleK {X : Cx} {K : PySem.W.Frag} (hK : X.K = K) : CallR X (.type "tuple") (fun xs H Q => ∃ p ys, xs = [.ref p] ∧ ((SqL K H p ys ∧ ∀ l, H l = none → Q (.ref l) (upd H l (.tup ys))) ∨ (SqT K H p ys ∧ Q (.ref p) H))) := by
  subst hK
  exact call_tuple_of
theorem ret_cb {r : List V → Hp → VK → Prop} {ta : TE} {D : Ends} {σ : L2.St} {H : Hp} (h : ta σ H fun x H1 => r [x] H1 D.rt) : tRet (tCB r (tCons ta tNil)) D σ H := h
/-! what stays grows by new things only -/
structure Gr (p q : Addr) (G H G' H' : Hp) : Prop where
  ex : Ex G G'
  nw : ∀ b, G b = none → H b ≠ none → G' b = none
  off : Off p q H H'
  pl : Pl G' H' p q
theorem Gr.refl {p q : Addr} {G H : Hp} (h : Pl G H p q) : Gr p q G H G H := ⟨Ex.refl _, fun _ h _ => h, Off.refl _ _ _, h⟩
theorem Gr.trans {p q : Addr} {G H G1 H1 G2 H2 : Hp} (a : Gr p q G H G1 H1) (b : Gr p q G1 H1 G2 H2) : Gr p q G H G2 H2 := by
  refine ⟨a.ex.trans b.ex, fun c hc hh => ?_, a.off.trans b.off, b.pl⟩
  by_cases cp : c = p
  · rw [cp]; exact b.pl.gp
  by_cases cq : c = q
  · rw [cq]; exact b.pl.gq
  refine b.nw c (a.nw c hc hh) ?_
  cases hx : H c with
  | none => exact absurd hx hh
  | some o => rw [a.off c o cp cq hx]; simp
theorem Gr.new {p q t : Addr} {G H : Hp} {o : HO} (h : Pl G H p q) (ht : H t = none) : Gr p q G H (upd G t o) (upd H t o) := by
  refine ⟨Ex.new (fresh_back h.ex ht), fun b hb hh => ?_, Off.ex (Ex.new ht), h.new ht⟩
  have nb : b ≠ t := fun z => hh (by rw [z]; exact ht)
  rw [upd_ne nb]
  exact hb
theorem Gr.ext {p q : Addr} {G H H' : Hp} (h : Pl G H p q) (e : Ex H H') : Gr p q G H G H' := ⟨Ex.refl _, fun _ h _ => h, Off.ex e, h.ext e⟩
theorem Gr.draw {p q : Addr} {G H H' : Hp} (h : Pl G H p q) (h' : Pl (Hd H p q) H' p q) : Gr p q G H G H' := ⟨Ex.refl _, fun _ h _ => h, h'.off, h.back h'⟩
/-! displays -/
def EvDt (p q : Addr) (te : TE) (σ : L2.St) (d : PyData) : Prop := ∀ G H, Pl G H p q → ∀ Q : VK, (∀ G' H' v, Gr p q G H G' H' → Dq G' v d → Q v H') → te σ H Q
def EvDA (p q : Addr) (ta : TA) (σ : L2.St) (ds : List PyData) : Prop := ∀ G H, Pl G H p q → ∀ Q : List V → Hp → Prop, (∀ G' H' vs, Gr p q G H G' H' → DqA G' vs ds → Q vs H') → ta σ H Q
section
variable {p q : Addr} {σ : L2.St} {te tb : TE} {ta : TA} {d : PyData} {ds es : List PyData}
theorem ed_c {v : V} (h : ∀ G, Dq G v d) : EvDt p q (tC v) σ d := fun G H hP Q k => k G H v (Gr.refl hP) (h G)
theorem ed_int {i : Nat} {x : Int} (h : σ[i]? = some (some (.int x))) : EvDt p q (tVar i) σ (.int x) := fun G H hP Q k => ⟨.int x, h, k G H _ (Gr.refl hP) (.int x)⟩
theorem ed_nil : EvDA p q tNil σ [] := fun G H hP Q k => k G H [] (Gr.refl hP) .nil
theorem ed_cons (h : EvDt p q te σ d) (hr : EvDA p q ta σ ds) : EvDA p q (tCons te ta) σ (d :: ds) := fun G H hP Q k =>
  h G H hP _ fun G1 H1 v g1 hv => hr G1 H1 g1.pl _ fun G2 H2 vs g2 hvs => k G2 H2 (v :: vs) (g1.trans g2) (.cons (hv.mono g2.ex) hvs)
theorem ed_tup (h : EvDA p q ta σ ds) (hl : ds.length ≤ 1000) : EvDt p q (tTup ta) σ (.tuple ds) := fun G H hP Q k =>
  h G H hP _ fun G1 H1 vs g1 hvs => ⟨by have := hvs.length; rw [sizeLine_eq]; omega, fun t ht => k (upd G1 t (.tup vs)) _ (.ref t) (g1.trans (Gr.new g1.pl ht)) (.tup upd_same (hvs.mono (Gr.new (o := .tup vs) g1.pl ht).ex))⟩
theorem ed_lst (h : EvDA p q ta σ ds) (hl : ds.length ≤ 1000) : EvDt p q (tLst ta) σ (.list ds) := fun G H hP Q k =>
  h G H hP _ fun G1 H1 vs g1 hvs => ⟨by have := hvs.length; rw [sizeLine_eq]; omega, fun t ht => k (upd G1 t (.lst vs)) _ (.ref t) (g1.trans (Gr.new g1.pl ht)) (.lst upd_same (hvs.mono (Gr.new (o := .lst vs) g1.pl ht).ex))⟩
theorem ed_dict : EvDt p q tDNewK σ (.dict []) := fun G H hP Q k t ht => k (upd G t (.dK [])) _ (.ref t) (Gr.new hP ht) (.dic upd_same)
/-- things + [..] -/
theorem ed_cat (G0 : Hp) {v : V} {i : Nat} (hv : σ[i]? = some (some v)) (h0 : Dq G0 v (.list ds)) (hb : EvDt p q tb σ (.list es)) (hl : ds.length + es.length ≤ 1000) {H : Hp} (hP : Pl G0 H p q) {Q : VK} (k : ∀ G' H' v, Gr p q G0 H G' H' → Dq G' v (.list (ds ++ es)) → Q v H') : tOp rCat (tVar i) tb σ H Q := by
  refine ⟨v, hv, hb G0 H hP _ fun G1 H1 u g1 hu => ?_⟩
  have h1 := h0.mono g1.ex
  cases h1 with
  | lst a1 a2 =>
    cases hu with
    | lst b1 b2 =>
      rename_i aa xs ab ys
      have l1 := a2.length
      have l2 := b2.length
      refine ⟨aa, ab, xs, ys, rfl, rfl, g1.pl.ex _ _ a1, g1.pl.ex _ _ b1, by rw [sizeLine_eq]; omega, fun t ht => ?_⟩
      have gn := Gr.new (o := .lst (xs ++ ys)) g1.pl ht
      exact k _ _ (.ref t) (g1.trans gn) (.lst upd_same ((a2.append b2).mono gn.ex))
end
theorem q_asgD {p q : Addr} {i : Nat} {te : TE} {tz : TS} {D : Ends} {σ : L2.St} {G H : Hp} {d : PyData} (h : EvDt p q te σ d) (hP : Pl G H p q) (k : ∀ G' H' v, Gr p q G H G' H' → Dq G' v d → tz D (σ.set i (some v)) H') : tSeq (tAsg te (gName i)) tz D σ H := h G H hP _ k
theorem q_catD {p q : Addr} {i j : Nat} {tb : TE} {tz : TS} {D : Ends} {σ : L2.St} {H : Hp} {ds es : List PyData} (G0 : Hp) {v : V} (hv : σ[i]? = some (some v)) (h0 : Dq G0 v (.list ds)) (hb : EvDt p q tb σ (.list es)) (hl : ds.length + es.length ≤ 1000) (hP : Pl G0 H p q) (k : ∀ G' H' v, Gr p q G0 H G' H' → Dq G' v (.list (ds ++ es)) → tz D (σ.set j (some v)) H') : tSeq (tAsg (tOp rCat (tVar i) tb) (gName j)) tz D σ H := ed_cat G0 hv h0 hb hl hP k
theorem DqA.set {G : Hp} {v : V} {d : PyData} (hv : Dq G v d) : ∀ {ds : List PyData} {vs : List V} (i : Nat), DqA G vs ds → DqA G (vs.set i v) (ds.set i d)
  | [], _, i, .nil => by simp; exact .nil
  | _ :: _, _, 0, .cons h t => .cons hv t
  | _ :: _, _, i + 1, .cons h t => .cons h (DqA.set hv i t)
theorem DqA.erase {G : Hp} : ∀ {ds : List PyData} {vs : List V} (i : Nat), DqA G vs ds → DqA G (vs.eraseIdx i) (ds.eraseIdx i)
  | [], _, i, .nil => by simp; exact .nil
  | _ :: _, _, 0, .cons h t => t
  | _ :: _, _, i + 1, .cons h t => .cons h (DqA.erase i t)
theorem layAll : ∀ {ds : List PyData}, PyData.canLayAll0 ds = true ↔ ∀ d ∈ ds, d.canLay0 = true
  | [] => by simp [PyData.canLayAll0]
  | d :: ds => by
    have ih := layAll (ds := ds)
    simp [PyData.canLayAll0, ih]
theorem depAll {k : Nat} : ∀ {ds : List PyData}, PyData.depthAll ds ≤ k ↔ ∀ d ∈ ds, d.depth ≤ k
  | [] => by simp [PyData.depthAll]
  | d :: ds => by
    have ih := depAll (k := k) (ds := ds)
    simp only [PyData.depthAll, List.mem_cons, forall_eq_or_imp, ← ih]
    omega
theorem cut_from (xs : List V) (i : Nat) (h : i ≤ xs.length) : cutV xs (some (i : Int)) none = xs.drop i := by
  unfold cutV
  rw [HT.sIx_nat, HT.sIx_none, Nat.min_eq_left h]
  exact List.take_of_length_le (by simp)
theorem call_listK {X : Cx} {K : PySem.W.Frag} (hK : X.K = K) : CallR X (.type "list") (rListS K) := by
  subst hK
  exact call_list_of
theorem ret_op {r : R2} {ta tb : TE} {D : Ends} {σ : L2.St} {H : Hp} (h : ta σ H fun x H1 => tb σ H1 fun y H2 => r x y H2 D.rt) : tRet (tOp r ta tb) D σ H := h
theorem call_listK2 {X : Cx} {K : PySem.W.Frag} (hK : X.K = K) : CallR X (.type "list") (fun xs H Q => ∃ p ys, xs = [.ref p] ∧ (SqL K H p ys ∨ SqT K H p ys) ∧ ∀ l, H l = none → Q (.ref l) (upd H l (.lst ys))) := by
  subst hK
  exact call_list_of
theorem smp_ints (ns : List Int) (h : ns.length ≤ 100) : Smp 1 (.tuple (ns.map PyData.int)) := .tup 0 _ (fun d hd => by
  obtain ⟨i, _, rfl⟩ := List.mem_map.mp hd
  exact .int 0 i) (by rw [List.length_map]; exact h)
theorem smp_row {n r : Int} {d : PyData} (h : rowB n r d = true) : Smp 2 d := by
  obtain ⟨ws, rfl, _, hl, h1, h2⟩ := row_lay h
  refine .tup 1 ws (fun w hw => ?_) (by omega)
  by_cases hr : r = 0
  · rw [h2 hr] at hw
    cases hw
  · have := way_ints (List.all_eq_true.mp (h1 hr) w hw)
    rw [this.1]
    exact smp_ints _ (by omega)
theorem due_good {rows : List PyData} (h : dueD (.tuple rows) = none) : 2 ≤ rows.length ∧ rows.length ≤ 8 ∧ Good rows := by
  obtain ⟨_, h1, h2, h3⟩ := due_none h
  refine ⟨h1, h2, ?_⟩
  unfold due2 at h3
  cases hf : fb ((itemsT (.tuple rows)).length : Int) 0 (itemsT (.tuple rows)) with
  | some r => rw [hf] at h3; cases h3
  | none => exact fb_Good hf
/-- for x in a list that is made on the way -/
theorem q_forC {K : PySem.W.Frag} {tl : TE} {g : TG} {tu tz : TS} {D : Ends} {σ : L2.St} {H : Hp} (C : Addr → List V → Hp → Prop) (h : ∀ Q : VK, (∀ l xs H1, C l xs H1 → Q (.ref l) H1) → tl σ H Q)
    (hC : ∀ l xs H1, C l xs H1 → SqL K H1 l xs ∧ ∃ Pv : Nat → L2.St → Hp → Prop, Pv 0 σ H1 ∧ (∀ i σ' H', i ≤ xs.length → Pv i σ' H' → SqL K H' l xs) ∧ (∀ i x σ' H', xs[i]? = some x → Pv i σ' H' → g x σ' H' fun σ2 H2 => tu { D with nx := Pv (i + 1), ct := Pv (i + 1), bk := tz D } σ2 H2) ∧ (∀ σ' H', Pv xs.length σ' H' → tz D σ' H')) : tSeq (tFor (iList K tl) g tu) tz D σ H :=
  h _ fun l xs H1 c => by
    obtain ⟨hs, Pv, h0, hl, ht, hd⟩ := hC l xs H1 c
    exact ⟨l, rfl, ⟨xs, hs⟩, for_list Pv h0 hl ht hd⟩
end Wk


set_option Elab.async false
set_option linter.all false
set_option maxRecDepth 100000
set_option maxHeartbeats 2000000
namespace Wk
open L2 PySem PySem.Spec PyProof.Rows
section
variable {X : Cx}
/-- one entry more by a comprehension, in a dict of either kind of keys -/
theorem put_dp {ps : List (Addr × Obj)} {σ : L2.St} {H Hn : Hp} {s : Shared} {D : Addr} {y z : V} {u r : Value}
    {E : Value → Shared → Prop} {Q : Unit → Shared → Prop} (hu : X.A.units < cLine) (I : Inv X ps σ H s)
    (g : DPut H D y z Hn) (ry : L2.RelV y u) (rz : L2.RelV z r) (h : ∀ s', Inv X ps σ Hn s' → Q () s') :
    wpAny (model X.prog X.w) X.A (dictSet D u r) Q E s := by
  rcases g with ⟨kvs, k, e, rfl, l, rfl⟩ | ⟨kvs, k, b, e, rfl, eb, l, rfl⟩
  · exact d_dictSet I e l ry rz h
  · obtain rfl : u = Value.ref b := ry
    obtain ⟨z1, nd, xs, rel, dd⟩ := dt_of I.hok e
    have l1 := length_putK kvs k z
    refine wpAny_dictSet_heap (hsz := by rw [← Paired.length rel]; exact z1) hu (key_of I.hok eb) dd
      fun h1 d1 sb => h _ ?_
    obtain ⟨q, es, ep, hq, a1, a2, a3, _, a4⟩ := d1
    refine d_write I (by rw [e]; trivial) sb ⟨q, hq⟩ ⟨by omega, nd, _, (rel.put k eb rz).keeps ?_, q, es, ep, hq, a1, a2, a3, a4⟩
    intro c ys ec
    exact (upd_ne (ne_of ec e (by intro z; cases z))).trans ec
end
/-- what one item does: the target, the tests, then key, value and the entry -/
def dqStep (g : TG) (tt : TT) (tk tv : TE) (vs : List Nat) (D : Addr) (Nx : Hp → Prop) (σ : L2.St) (x : V) (H : Hp) : Prop :=
  g x (wipe σ vs) H fun σa Ha => wipe σa vs = wipe σ vs ∧ tt σa Ha fun b Hb =>
    if b = true then tk σa Hb fun y Hc => tv σa Hc fun z Hd => ∃ Hn, DPut Hd D y z Hn ∧ Nx Hn
    else Nx Hb
/-- the walk of such a comprehension by a measure -/
def dqWalk (J : It) (step : (Hp → Prop) → V → Hp → Prop) (Qs : Hp → Prop) (W : Nat → Nat → Hp → Prop) : Prop :=
  ∀ i m H, W i m H → (J.stop i H ∧ Qs H) ∨
    (J.go i H ∧ ∃ Nx : Hp → Prop, (∀ Ha, Nx Ha → ∃ k, k < m ∧ W (i + 1) k Ha) ∧ ∀ x Ha, J.yld i H x Ha → step Nx x Ha)
theorem dq_loop {Y : Cx} {σ : L2.St} {vs : List Nat} {R : Result → Shared → Prop} {J : It} {fp : List Addr} {it D : Addr}
    {tn : Nat → Heap → Prop} {kx vx tg iter : Expr} {ifs : List Expr} {scope : Scope} {pos : Pos} {g : TG} {tt : TT} {tk tv : TE}
    {W : Nat → Nat → Hp → Prop} {Qs : Hp → Prop} (hc : Y.calm = true) (hx : Y.xe = fun _ _ => False) (hu : Y.A.units < cLine)
    (T : Turn Y.prog Y.w Y.K tg J fp it tn) (pg : PG Y tg g) (pt : PTs Y ifs tt) (pk : PE Y kx tk) (pv : PE Y vx tv)
    (own : ∀ {σ' : L2.St} {H' : Hp} {s' : Shared}, Inv Y [] σ' H' s' → (∀ b ∈ fp, H' b = none) → ∀ b ∈ fp, FpOk Y [] H' b)
    (walk : dqWalk J (fun Nx x H => dqStep g tt tk tv vs D Nx σ x H) Qs W)
    (last : ∀ H s, Inv Y [] (wipe σ vs) H s → Qs H → R (.ok .next) s)
    {m : Nat} {H : Hp} {s : Shared} (I : Inv Y [] (wipe σ vs) H s) (st : tn 0 s.heap) (nf : ∀ b ∈ fp, H b = none) (w : W 0 m H) :
    codeAny (model Y.prog Y.w) Y.A
      (.compLoop (.DictComp kx vx [⟨tg, iter, ifs, 0⟩] scope pos) 0 (.ref it) (.ref D) Y.env) R s := by
  refine compLoop_anyD (fun k s1 => ∃ i H1, Inv Y [] (wipe σ vs) H1 s1 ∧ tn i s1.heap ∧ (∀ b ∈ fp, H1 b = none) ∧ W i k H1)
    (fun k s1 hk => ?_) m ⟨0, H, I, st, nf, w⟩
  obtain ⟨i, H1, I1, st1, nf1, w1⟩ := hk
  cases walk i k H1 w1 with
  | inl e =>
    refine thnF (T.done Y rfl rfl rfl hc i [] s1 _ H1 (fun _ _ => False) I1 (own I1 nf1) st1 e.1) ?_
    rintro _ s2 ⟨rfl, I2⟩
    exact last H1 s2 I2 e.2
  | inr e =>
    obtain ⟨go, Nx, less, step⟩ := e
    refine thnF (T.item Y rfl rfl rfl hc i [] s1 _ H1 (fun _ _ => False) I1 (own I1 nf1) st1 go) ?_
    rintro _ s2 ⟨u, rfl, it2⟩
    refine thnF it2 ?_
    rintro _ s3 ⟨x, H3, I3, rx, yx, st3, nf3⟩
    have pin := I3.pinned (own I3 nf3) (T.obj _ _ st3)
    have t1 := pg.run _ s3 _ H3 x u _ pin rx (step x H3 yx)
    rw [hx] at t1
    refine thnF t1 ?_
    rintro _ s4 ⟨σ4, H4, I4, ew, q4⟩
    have back : ∀ {s9 : Shared} {H9 : Hp}, Inv Y ([] ++ pinsAt fp s3.heap) σ4 H9 s9 → Nx H9 →
        ∃ j, j < k ∧ ∃ i' H', Inv Y [] (wipe σ vs) H' s9 ∧ tn i' s9.heap ∧ (∀ b ∈ fp, H' b = none) ∧ W i' j H' := by
      intro s9 H9 I9 nx
      obtain ⟨j, lt, wj⟩ := less H9 nx
      have same : ∀ b ∈ fp, ∀ o, s3.heap.get? b = some o → s9.heap.get? b = some o ∧ H9 b = none := by
        intro b hb o eo
        have a := I9.pin (b, o) (List.mem_append_right _ (List.mem_append_right _ (mem_pinsAt hb eo)))
        exact ⟨a.1, a.2.1⟩
      refine ⟨j, lt, i + 1, H9, ?_, T.keep _ _ _ st3 fun b hb o eo => (same b hb o eo).1, ?_, wj⟩
      · refine (I9.unpinned (pins := [])).weak (by rw [← ew, wipe_length]) ?_
        intro n v en
        rw [← ew] at en
        exact (wipe_some en).1
      · intro b hb
        obtain ⟨o, eo, _⟩ := T.obj _ _ st3 b hb
        exact (same b hb o eo).2
    have t2 := pt.run _ s4 σ4 H4 _ I4 q4
    rw [hx] at t2
    refine thnF t2 ?_
    rintro b s5 ⟨H5, I5, q5⟩
    cases b with
    | false => exact back I5 q5
    | true =>
      have t3 := pk.run _ s5 σ4 H5 _ I5 q5
      rw [hx] at t3
      refine thnF t3 ?_
      rintro ky s6 ⟨y, H6, I6, ry, q6⟩
      have t4 := pv.run _ s6 σ4 H6 _ I6 q6
      rw [hx] at t4
      refine thnF t4 ?_
      rintro vy s7 ⟨z, H7, I7, rz, Hn, put, nx⟩
      exact put_dp hu I7 put ry rz fun s8 I8 => back I8 nx
/-- {k: v for .. in .. if ..}, keys tuples -/
def tDq (wi : TI) (g : TG) (tt : TT) (tk tv : TE) (vs : List Nat) : TE := fun σ H Q => wi σ H fun J H1 => ∀ D, H1 D = none →
  ∃ W : Nat → Nat → Hp → Prop, (∃ m, W 0 m (upd H1 D (.dT []))) ∧
    dqWalk J (fun Nx x Ha => dqStep g tt tk tv vs D Nx σ x Ha) (fun Ha => Q (.ref D) Ha) W
/-- the context of the block -/
abbrev Bq (X : Cx) (scope : Scope) (s : Shared) (H : Hp) (C : Addr) (cl : List (Str × Addr)) (fp : List Addr) : Cx :=
  X.blk s H scope (compEnvC scope cl C X.env) fp
theorem pe_dq {X : Cx} {kx vx tg iter : Expr} {ifs : List Expr} {scope : Scope} {own : List (Str × Nat)} {pos : Pos}
    {wi : TI} {g : TG} {tt : TT} {tk tv : TE} (hc : X.calm = true) (hu : X.A.units + 1 < cLine) (hN : X.N.Nodup)
    (hi : PI X tg iter wi) (ok : BlkOk X.N X.env.scope scope own) (hg : ∀ s H C cl fp, PG (Bq X scope s H C cl fp) tg g)
    (ht : ∀ s H C cl fp, PTs (Bq X scope s H C cl fp) ifs tt) (hk : ∀ s H C cl fp, PE (Bq X scope s H C cl fp) kx tk)
    (he : ∀ s H C cl fp, PE (Bq X scope s H C cl fp) vx tv) (hs : ∀ x, foldedSetIterable iter X.env x = pure x := by intro _; rfl) :
    PE X (.DictComp kx vx [⟨tg, iter, ifs, 0⟩] scope pos) (tDq wi g tt tk tv (own.map (·.2))) := by
  constructor
  intro ps s σ H Q I h
  rw [arm_eval_DictComp]
  have look : ∀ y ∈ scope.names, y.2 = .free → ∃ c, X.env.cells.lookup y.1 = some c := by
    intro y hy e
    exact I.ok.has _ (ok.free y hy e)
  refine wpAny_comprehension_free (use := none) rfl hs (closure_ok look) ok.kind (fun y hy e => (ok.uniq y hy).trans (by rw [e])) ?_
  refine thn (hi.run ps s σ H _ I h) ?_
  intro xv s1 h1
  refine thn h1 ?_
  rintro _ s2 ⟨it, fp, tn, J, H2, rfl, I2, T, st2, f2, q⟩
  refine wpAny_newObj_type ?_
  refine newEnv_comp ?_
  obtain ⟨D, hD⟩ : ∃ D, D = s2.heap.objs.size := ⟨_, rfl⟩
  rw [← hD]
  obtain ⟨W, ⟨m0, w0⟩, walk⟩ := q D (I2.hok.fresh (Nat.le_of_eq hD.symm))
  obtain ⟨s3, e3⟩ : ∃ s3 : Shared, s3 = { s2 with heap := s2.heap.push { cls := .type "dict", data := .dict #[] } } := ⟨_, rfl⟩
  have g3 : ∀ b o, s2.heap.get? b = some o → s3.heap.get? b = some o := by
    intro b o e
    rw [e3]
    exact Heap.get?_push_of_some _ (by exact e)
  have I3 : Inv X ps σ (upd H2 D (.dT [])) s3 := by
    rw [e3, hD]
    exact I2.laid (t' := s2.toks) (fun b o e => Heap.get?_push_of_some _ e) (Nat.le_refl _) (dt_empty s2.heap I2.big)
  rw [← e3]
  obtain ⟨H3, eH3⟩ : ∃ H3, H3 = upd H2 D (.dT []) := ⟨_, rfl⟩
  rw [← eH3] at I3 w0
  have f3 : ∀ b ∈ fp, FpOk X ps H3 b ∧ b < s3.heap.objs.size := by
    intro b hb
    obtain ⟨o, e, _⟩ := T.obj 0 _ st2 b hb
    refine ⟨⟨?_, (f2 b hb).2⟩, Heap.lt_size (g3 b o e)⟩
    rw [eH3, upd_ne (by rw [hD]; exact Nat.ne_of_lt (Heap.lt_size e))]
    exact (f2 b hb).1
  have st3 : tn 0 s3.heap := T.keep _ _ _ st2 fun b _ o e => g3 b o e
  have Ib := block_start I3 ok hN f3
  obtain ⟨C, hC⟩ : ∃ C, C = s3.heap.objs.size := ⟨_, rfl⟩
  rw [← hC] at Ib ⊢
  obtain ⟨cl, ecl⟩ : ∃ cl, cl = cellsFrom (C + 1) scope.names (cloFrom X.env.cells scope.names []) := ⟨_, rfl⟩
  rw [← ecl] at Ib ⊢
  have st4 : tn 0 (pushCells (s3.heap.push { cls := .type "dict", data := .dict #[] }) scope.names) := T.keep _ _ _ st3 fun b _ o e =>
    pushCells_keeps _ _ _ _ (Heap.get?_push_of_some _ e)
  have loop : codeAny (model X.prog X.w) X.A
      (.compLoop (.DictComp kx vx [⟨tg, iter, ifs, 0⟩] scope pos) 0 (.ref it) (.ref D) (compEnvC scope cl C X.env))
      (compPost (model X.prog X.w) X.A X.xe none (EP X ps σ Q) (.ref D) C)
      { s3 with heap := pushCells (s3.heap.push { cls := .type "dict", data := .dict #[] }) scope.names } := by
    refine dq_loop (Y := Bq X scope s3 H3 C cl fp) (σ := σ) hc rfl (Nat.lt_of_succ_lt hu) T (hg s3 H3 C cl fp)
      (ht s3 H3 C cl fp) (hk s3 H3 C cl fp) (he s3 H3 C cl fp) ?_ walk ?_ Ib st4 (fun b hb => (f3 b hb).1.1) w0
    · intro σ' H' s' I' nf b hb
      refine ⟨nf b hb, (I'.ok.exf b hb).1, I'.ok.exfs b hb, .inl hb, fun x c e => (I'.ok.exf b hb).2 x c e, ?_⟩
      intro p hp
      exact absurd (show p ∈ ([] : List (Addr × Obj)) ++ [] from hp) (by simp)
    · intro H6 s6 I6 q6
      have I7 : Inv X ps σ H6 s6 := by
        refine I3.call' (ch := fp) I6.os I6.base I6.hok I6.bare ?_
        intro b hb
        obtain ⟨_, n1, _, n2, n3, n4⟩ := (f3 b hb).1
        exact ⟨n2, n1, n3, n4⟩
      obtain ⟨m, hn, _⟩ := I6.loc
      refine ⟨m, hn, fun h' sb => ?_⟩
      obtain ⟨n0, n1, n2, n3, n4, n5⟩ := I3.fpOk (b := C) (Nat.le_of_eq hC.symm) (show H6 C = none from I6.free)
      refine ⟨.ref D, H6, ?_, rfl, q6⟩
      exact I7.turned (t' := s6.toks) (fun b o hb e => (sb.2 b hb).trans e) n0 n1 n3 n4 n5
  exact codeAny_compStart_dict loop (T.self _ 0 _ _ _ st4 loop)
end Wk

set_option Elab.async false
set_option linter.all false
set_option maxRecDepth 100000
set_option maxHeartbeats 2000000
namespace Wk
open L2 PySem PySem.Spec PyProof.Rows Evl
/-- the items that a comprehension has put, item j of the source by Y j -/
def Grown (Y : Nat → V → Hp → Prop) (H : Hp) : List Nat → List V → Prop
  | [], us => us = []
  | j :: js, us => ∃ u r, us = u :: r ∧ Y j u H ∧ Grown Y H js r
def UpY (Y : Nat → V → Hp → Prop) : Prop := ∀ i u H H', Ex H H' → Y i u H → Y i u H'
theorem Grown.up {Y : Nat → V → Hp → Prop} (hY : UpY Y) {H H' : Hp} (e : Ex H H') : ∀ {js : List Nat} {us : List V}, Grown Y H js us → Grown Y H' js us
  | [], _, h => h
  | j :: js, _, ⟨u, r, h1, h2, h3⟩ => ⟨u, r, h1, hY j u H H' e h2, Grown.up hY e h3⟩
theorem Grown.snoc {Y : Nat → V → Hp → Prop} {H : Hp} {j : Nat} {u : V} (h : Y j u H) : ∀ {js : List Nat} {us : List V}, Grown Y H js us → Grown Y H (js ++ [j]) (us ++ [u])
  | [], _, h0 => by
    rw [show _ = [] from h0]
    exact ⟨u, [], rfl, h, rfl⟩
  | k :: js, _, ⟨v, r, h1, h2, h3⟩ => by
    subst h1
    exact ⟨v, r ++ [u], rfl, h2, Grown.snoc h h3⟩
theorem Grown.len {Y : Nat → V → Hp → Prop} {H : Hp} : ∀ {js : List Nat} {us : List V}, Grown Y H js us → us.length = js.length
  | [], _, h0 => by
    rw [show _ = [] from h0]
    rfl
  | k :: js, _, ⟨v, r, h1, h2, h3⟩ => by
    subst h1
    simp [Grown.len h3]
def upTo (f : Nat → Bool) (i : Nat) : List Nat := (List.range i).filter f
theorem upTo_yes {f : Nat → Bool} {i : Nat} (h : f i = true) : upTo f (i + 1) = upTo f i ++ [i] := by
  unfold upTo
  rw [List.range_succ, List.filter_append]
  simp [h]
theorem upTo_no {f : Nat → Bool} {i : Nat} (h : f i = false) : upTo f (i + 1) = upTo f i := by
  unfold upTo
  rw [List.range_succ, List.filter_append]
  simp [h]
theorem upTo_len (f : Nat → Bool) (i : Nat) : (upTo f i).length ≤ i := by
  unfold upTo
  have h := List.length_filter_le f (List.range i)
  rw [List.length_range] at h
  exact h
/-- what is evaluated is told by Y, the heap may grow -/
def EvY (te : TE) (σ : L2.St) (H : Hp) (Y : V → Hp → Prop) : Prop := ∀ H1, Ex H H1 → ∀ Q : VK, (∀ u H2, Ex H1 H2 → Y u H2 → Q u H2) → te σ H1 Q
def off (D : Addr) (H : Hp) : Hp := fun a => if a = D then none else H a
theorem off_ex {D : Addr} {H H' : Hp} (e : Ex H H') : Ex (off D H) (off D H') := fun a o h => by
  unfold off at h ⊢
  by_cases z : a = D
  · rw [if_pos z] at h
    cases h
  · rw [if_neg z] at h ⊢
    exact e a o h
theorem off_in (D : Addr) (H : Hp) : Ex (off D H) H := fun a o h => by
  unfold off at h
  split at h
  · cases h
  · exact h
theorem off_upd {D : Addr} {H : Hp} {o : HO} : off D (upd H D o) = off D H := by
  funext a
  unfold off upd
  split <;> rfl
theorem off_at {D a : Addr} {H : Hp} (h : a ≠ D) : off D H a = H a := by
  unfold off
  rw [if_neg h]
/-- a word of an item that outlives new objects and does not speak of lists -/
structure GoodY (Y : Nat → V → Hp → Prop) : Prop where
  up : UpY Y
  off : ∀ i u H D l, H D = some (.lst l) → Y i u H → Y i u (Wk.off D H)
def Gw (Y : Nat → V → Hp → Prop) (H : Hp) (f : Nat → Bool) (D : Addr) (i : Nat) (H' : Hp) : Prop :=
  H D = none ∧ Ex H H' ∧ ∃ us, H' D = some (.lst us) ∧ Grown Y (off D H') (upTo f i) us
theorem gw_turn {Y : Nat → V → Hp → Prop} (hY : GoodY Y) {H H' : Hp} {f : Nat → Bool} {D : Addr} {i : Nat} {t : TT} {te : TE} {σ2 : L2.St} (p : Gw Y H f D i H') (hi : i < 50000)
    (ht : EvT t σ2 H' (f i)) (he : f i = true → EvY te σ2 H' (Y i)) :
    t σ2 H' fun b H3 => if b = true then te σ2 H3 fun y H4 => ∃ acc, H4 D = some (.lst acc) ∧ acc.length < sizeLine ∧ Gw Y H f D (i + 1) (upd H4 D (.lst (acc ++ [y])))
      else Gw Y H f D (i + 1) H3 := by
  obtain ⟨p1, p2, us, p3, p4⟩ := p
  refine ht H' (Ex.refl _) _ fun H3 e3 => ?_
  cases hf : f i with
  | false =>
    refine ⟨p1, p2.trans e3, us, e3 _ _ p3, ?_⟩
    rw [upTo_no hf]
    exact p4.up hY.up (off_ex e3)
  | true =>
    refine he hf H3 e3 _ fun u H4 e4 y => ?_
    have d4 := e4 _ _ (e3 _ _ p3)
    have l1 := p4.len
    have l2 := upTo_len f i
    refine ⟨us, d4, sz_lt (by omega), p1, Ex.mut ((p2.trans e3).trans e4) p1, us ++ [u], upd_same, ?_⟩
    rw [upTo_yes hf, off_upd]
    exact Grown.snoc (hY.off i u H4 D us d4 y) (p4.up hY.up (off_ex (e3.trans e4)))
/-- a list comprehension whose items may be new objects -/
theorem grow_lc {J : It} {n : Nat} {Gd : Hp → Prop} {Yx : Nat → V → Prop} {Y : Nat → V → Hp → Prop} {j : Nat} {vs : List Nat} {σ : L2.St} {H : Hp} {D : Addr} {Qd : Hp → Prop} {t : TT} {te : TE}
    (w : Walk J n Gd (fun i H x H' => H' = H ∧ Yx i x)) (hY : GoodY Y) (f : Nat → Bool) (hD : H D = none) (hn : n ≤ 40000) (hG : ∀ H', Ex H H' → Gd H') (hw : ∀ x, wipe ((wipe σ vs).set j (some x)) vs = wipe σ vs)
    (ht : ∀ i x H', Ex H H' → i < n → Yx i x → EvT t ((wipe σ vs).set j (some x)) H' (f i)) (he : ∀ i x H', Ex H H' → i < n → Yx i x → f i = true → EvY te ((wipe σ vs).set j (some x)) H' (Y i))
    (hq : ∀ us H', Ex H H' → H' D = some (.lst us) → Grown Y H' (upTo f n) us → Qd H') :
    ∃ W : Nat → Nat → Hp → Prop, (∃ m, W 0 m (upd H D (.lst []))) ∧ ∀ i m H, W i m H →
      (J.stop i H ∧ Qd H) ∨ (J.go i H ∧ ∃ Nx : Hp → Prop, (∀ H', Nx H' → ∃ m', m' < m ∧ W (i + 1) m' H') ∧ ∀ x H', J.yld i H x H' → gName j x (wipe σ vs) H' fun σ2 H2 => wipe σ2 vs = wipe σ vs ∧ t σ2 H2 fun b H3 =>
        if b = true then te σ2 H3 fun y H4 => ∃ acc, H4 D = some (.lst acc) ∧ acc.length < sizeLine ∧ Nx (upd H4 D (.lst (acc ++ [y]))) else Nx H3) := by
  refine lc_it w (Gw Y H f D) ⟨hD, Ex.new hD, [], upd_same, rfl⟩ (fun i H' _ p => hG H' p.2.1) (fun i x H' H2 hi p y => ?_) (fun H' p => ?_)
  · obtain ⟨rfl, yx⟩ := y
    exact ⟨hw x, gw_turn hY p (by omega) (ht i x _ p.2.1 hi yx) (fun hf => he i x _ p.2.1 hi yx hf)⟩
  · obtain ⟨_, e, us, d, g⟩ := p
    exact hq us H' e d (g.up hY.up (off_in D H'))
/-- the keys of a dict are the first i of k, each with True -/
def KHas (k : Nat → List L2.Key) (i : Nat) (kvs : List (List L2.Key × V)) : Prop :=
  ∀ q, (valV kvs q = some (V.bl true) ∧ ∃ j, j < i ∧ k j = q) ∨ (valV kvs q = none ∧ ∀ j, j < i → k j ≠ q)
/-- the keys that a comprehension has put -/
def Kw (k : Nat → List L2.Key) (H : Hp) (D : Addr) (i : Nat) (H' : Hp) : Prop :=
  H D = none ∧ Ex H H' ∧ ∃ kvs, H' D = some (.dT kvs) ∧ kvs.length ≤ i ∧ KHas k i kvs
/-- {x: True for x in ..}, of tuples of whole numbers or texts -/
theorem grow_dq {J : It} {n : Nat} {Gd : Hp → Prop} {Yx : Nat → V → Prop} {k : Nat → List L2.Key} {j : Nat} {vs : List Nat} {σ : L2.St} {H : Hp} {D : Addr} {Qd : Hp → Prop} {tk tv : TE}
    (w : Walk J n Gd (fun i H x H' => H' = H ∧ Yx i x)) (hD : H D = none) (hn : n ≤ 40000) (hG : ∀ H', Ex H H' → Gd H') (hw : ∀ x, wipe ((wipe σ vs).set j (some x)) vs = wipe σ vs)
    (hk : ∀ i x H', Ex H H' → i < n → Yx i x → EvY tk ((wipe σ vs).set j (some x)) H' (fun u H2 => ∃ b, u = .ref b ∧ H2 b = some (.tup ((k i).map kV))))
    (hv : ∀ i x H', Ex H H' → i < n → Yx i x → Ev tv ((wipe σ vs).set j (some x)) H' (.bl true))
    (hq : ∀ kvs H', Ex H H' → H' D = some (.dT kvs) → KHas k n kvs → Qd H') :
    ∃ W : Nat → Nat → Hp → Prop, (∃ m, W 0 m (upd H D (.dT []))) ∧ dqWalk J (fun Nx x Ha => dqStep (gName j) tYes tk tv vs D Nx σ x Ha) Qd W := by
  refine ⟨fun i m H' => m = n - i ∧ i ≤ n ∧ Kw k H D i H', ⟨n, by simp, Nat.zero_le _, hD, Ex.new hD, [], upd_same, Nat.le_refl _, fun q => .inr ⟨rfl, fun j hj => absurd hj (Nat.not_lt_zero _)⟩⟩, ?_⟩
  rintro i m H1 ⟨rfl, hi, p1, p2, kvs, p3, p4, p5⟩
  by_cases lt : i < n
  · refine .inr ⟨w.goes i H1 lt (hG H1 p2), Kw k H D (i + 1), fun Ha q => ⟨n - (i + 1), by omega, rfl, lt, q⟩, fun x Ha y => ?_⟩
    obtain ⟨rfl, yx⟩ := w.yields i H1 x Ha lt (hG H1 p2) y
    refine ⟨hw x, ?_⟩
    show tk _ _ _
    refine hk i x _ p2 lt yx _ (Ex.refl _) _ fun u H2 e2 hu => ?_
    obtain ⟨b, rfl, hb⟩ := hu
    refine hv i x _ p2 lt yx H2 e2 _ fun H3 e3 => ?_
    have d3 := e3 _ _ (e2 _ _ p3)
    refine ⟨_, DPut.t d3 (e3 _ _ hb) (sz_lt (by omega)), p1, Ex.mut ((p2.trans e2).trans e3) p1, _, upd_same, ?_, fun q => ?_⟩
    · have := length_putK kvs (k i) (V.bl true)
      omega
    · rw [valV_put]
      by_cases e : q = k i
      · rw [if_pos e]
        exact .inl ⟨rfl, i, Nat.lt_succ_self i, e.symm⟩
      · rw [if_neg e]
        rcases p5 q with ⟨z, j', h1, h2⟩ | ⟨z, h2⟩
        · exact .inl ⟨z, j', by omega, h2⟩
        · refine .inr ⟨z, fun j' hj => ?_⟩
          rcases Nat.lt_succ_iff_lt_or_eq.mp hj with h3 | h3
          · exact h2 j' h3
          · subst h3
            exact fun z2 => e z2.symm
  · have e : i = n := by omega
    subst e
    exact .inl ⟨w.stops H1 (hG H1 p2), hq kvs H1 p2 p3 p5⟩
end Wk

set_option Elab.async false
set_option linter.all false
set_option maxRecDepth 100000
set_option maxHeartbeats 2000000
namespace Wk
open L2 PySem PySem.Spec PyProof.Rows Evl
/-- a tuple of two, turned about by a slice of step -1 -/
theorem get_back {prog : Program} {w : World} {A : Around} {E : Value → Shared → Prop} {s : Shared} {t sl : Addr} {x y vs : Value} {Q : Value → Shared → Prop}
    (ht : IsTup s.heap t #[x, y]) (hs : s.heap.IsSliceOf sl .none .none vs) (ps : IsPart vs (some (-1)))
    (h : Q (.ref s.heap.objs.size) { s with heap := s.heap.push { cls := .type "tuple", data := .seq #[y, x] } }) :
    wpAny (model prog w) A (getItem (.ref t) (.ref sl)) Q E s := by
  obtain ⟨os, hos, hcs, hds⟩ := id hs
  have ts : s.TypeIs (.ref sl) "slice" := ⟨os, hos, hcs⟩
  unfold getItem
  try with_reducible refine wpAny_holding ?_
  have tt := ht.typeIs
  refine wpAny_bind (wpAny_sequenceKey tt (by decide) (wpAny_bind (wpAny_callSpecial?_slot (name := Str.ofString "__getitem__") tt PyProof.Rows.slot_tuple_getitem ?_)))
  refine wpAny_call_entry PyProof.Rows.slot_tuple_getitem tt entry_tuple_getitem ?_ (args_tuple_getitem _ _)
  show wpAny _ _ (Builtin.Tuple.tupleItemsOf (.ref t) >>= _) _ _ s
  refine wpAny_bind (tupleItemsOf_ ht (wpAny_bind (wpAny_typeOf ts ?_)))
  rw [if_pos (by decide)]
  refine wpAny_bind ?_
  unfold Builtin.Slice.sliceApplied Builtin.Slice.sliceFields
  refine wpAny_bind (wpAny_bind (wpAny_field hos hds (x := .none) rfl (wpAny_bind (wpAny_field hos hds (x := .none) rfl (wpAny_bind (wpAny_field hos hds (x := vs) rfl (wpAny_pure ?_)))))))
  refine wpAny_bind (HT.slicePart_ ps ?_)
  show wpAny _ _ (if ((-1 : Int) == 0) = true then _ else _) _ _ s
  rw [if_neg (by decide)]
  refine wpAny_bind (slicePart_none (wpAny_bind (slicePart_none (wpAny_bind (wpAny_pure ?_)))))
  have e1 : Builtin.Slice.sliceAdjust none none (-1) (2 : Int) = (1, -1) := by first | rfl | decide
  have e2 : Builtin.Slice.slicePlaces 1 (-1) (-1) = 2 := by first | rfl | decide
  show wpAny _ _ (match Builtin.Slice.sliceAdjust none none (-1) (2 : Int) with | (lo, hi) => pure (lo, (-1 : Int), Builtin.Slice.slicePlaces lo hi (-1))) _ _ s
  rw [e1]
  show wpAny _ _ (pure ((1 : Int), (-1 : Int), Builtin.Slice.slicePlaces 1 (-1) (-1))) _ _ s
  rw [e2]
  refine wpAny_pure ?_
  show wpAny _ _ (if ((1 : Int) == 0 && (-1 : Int) == 1 && (2 : Nat) == 2) = true then _ else _) _ _ s
  rw [if_neg (by decide)]
  have e3 : ((List.range 2).filterMap fun (k : Nat) => #[x, y][((1 : Int) + (k : Int) * (-1)).toNat]?).toArray = #[y, x] := by first | rfl | simp [List.range, List.range.loop]
  rw [e3]
  have z : sizeOk (.seq #[y, x]) := by show (2 : Nat) ≤ sizeLine; decide
  first
    | exact wpAny_bind (m := Builtin.Tuple.tupleExact _) (wpAny_newObj_type (wpAny_pure ⟨_, rfl, wpAny_pure h⟩) z)
    | exact wpAny_bind (wpAny_newObj_type (wpAny_pure ⟨_, rfl, wpAny_pure h⟩) z)
/-- t[::-1] of a tuple of two -/
def tBack (K : PySem.W.Frag) (te : TE) : TE := fun σ H Q => te σ H fun x H1 => ∃ a u v, x = .ref a ∧ SqT K H1 a [u, v] ∧
  ∀ p, H1 p = none → Q (.ref p) (upd H1 p (.tup [v, u]))
theorem pe_back {X : Cx} {e : Expr} {te : TE} {k : Nat} {p1 p2 p3 pos : Pos} (he : PE X e te) :
    PE X (.Subscript e (.Slice none none (some (.UnaryOp .USub (.Constant (.int 1) k p1) p2)) p3) pos) (tBack X.K te) := by
  constructor
  intro ps s σ H Q I h
  refine Subscript_ (thn (he.run ps s σ H _ I h) ?_)
  rintro v0 s1 ⟨_, H1, I1, rv, a, x, y, rfl, hx, q⟩
  obtain rfl : v0 = Value.ref a := rv
  have st : PO X (some (.UnaryOp .USub (.Constant (.int 1) k p1) p2)) (tPart (tUn (rU fun i => .int (-i)) (tC (.int 1)))) := po_some (pe_un un_neg pe_int)
  refine wpAny_Slice (thn (po_none.run ps s1 σ H1 (fun o H2 => o = none ∧ H2 = H1) I1 ⟨rfl, rfl⟩) ?_)
  rintro vl s2 ⟨_, _, I2, pl, rfl, rfl⟩
  refine thn (po_none.run ps s2 σ _ (fun o H3 => o = none ∧ H3 = _) I2 ⟨rfl, rfl⟩) ?_
  rintro vu s3 ⟨_, _, I3, pu, rfl, rfl⟩
  refine thn (st.run ps s3 σ _ (fun o H4 => o = some (-1) ∧ H4 = _) I3 ⟨1, rfl, -1, rfl, rfl, rfl⟩) ?_
  rintro vs s4 ⟨_, _, I4, pz, rfl, rfl⟩
  cases pl
  cases pu
  have I5 := I4.kept (h' := s4.heap.push { cls := .type "slice", data := .fields #[.none, .none, vs] }) (t' := s4.toks) fun b ob z => Heap.get?_push_of_some _ z
  obtain ⟨its, r, ht, hz⟩ := I5.tuple hx
  cases r with
  | cons r1 r' =>
    cases r' with
    | cons r2 r'' =>
      cases r''
      refine tail_any (ops := [.ref a, .ref s4.heap.objs.size]) ht.typeIs (PyProof.Rows.slot_tuple_getitem.lookup) ?_ (by with_unfolding_all rfl)
      refine get_back ht (Heap.IsSliceOf.new _ .none .none vs) pz ?_
      refine ⟨.ref _, _, I5.laid (t' := s4.toks) (o := .tup [y, x]) (fun b ob z => Heap.get?_push_of_some _ z) (Nat.le_refl _) ?_, rfl, q _ (I5.hok.fresh (Nat.le_refl _))⟩
      exact ⟨by show (2 : Nat) ≤ sizeLine; decide, _, .cons r2 (.cons r1 .nil), IsTup.new _ _⟩
end Wk

set_option Elab.async false
set_option linter.all false
set_option maxRecDepth 100000
set_option maxHeartbeats 2000000
namespace Wk
open PySem PySem.Spec PyProof.Rows L2 Evl
section
variable {P : Program} {w : World} {K : PySem.W.Frag} {mg : Str → Option Value} {base : Heap} {f : Addr} {fd : FuncData}
/-! _law_pool -/
def spPool (K : PySem.W.Frag) : Sp := fun vs H Q _ => ∃ (a : Addr) (ns : List Int), vs = [.ref a] ∧ SqL K H a (ns.map V.int) ∧ ns.length ≤ 63 ∧ ∀ H' p q, Pl H H' p q → Q (.ref p) H'
abbrev sPool : Stmt := top 32
abbrev nPool : List Str := ["_law_script", "_law_cells", "_law_cell"]
theorem scPool : FnScope nPool ["_law_script"] (defScope sPool) := ⟨rfl, rfl, rfl, by decide +kernel, rfl, by decide +kernel, by decide +kernel⟩
theorem ok_pool (B : Bl mg) (F : FnP K "_law_pool" sPool f fd) : FnOk P w K mg base CX0 1 f fd ["_law_script"] (spPool K) := by
  refine F.ok scPool (fun vs H Q E h => ?_) (fun cdv A outer s H vs Q E hr h => ?_)
  · obtain ⟨a, ns, rfl, _⟩ := h
    rfl
  · obtain ⟨a, ns, rfl, hs, hl, k⟩ := h
    have hu0 : (A.deeper (envOfC "_law_pool" (defScope sPool) s.heap.objs.size f cdv)).units < cLine := by have := hr.un; omega
    refine ⟨_, pss_cons (ps_setLc (i := 1) (own := [("_law_cell", 2)]) (g := gName 2) (tt := tYes) rfl scPool.nd rfl rfl (sw_true rfl rfl rfl (by decide +kernel)) (pi_list (pv 0)) (blkOk_by (N := nPool) (sc := defScope sPool) (by decide +kernel))
          (fun _ _ _ _ _ => pg_name (i := 2) scPool.nd rfl (Or.inl rfl)) (fun _ _ _ _ _ => pts_nil)
          (fun _ _ _ _ _ => pe_op op_add (pe_op op_mul pe_int (pe_callB call_abs (by rfl) B.abs boot_abs (pa_cons (pv 2) pa_nil))) (pe_callTy call_int1 (by rfl) B.int PyProof.Rows.boot_int (pa_cons (pe_cmpR op_lt (pv 2) pe_int (nomark _)) pa_nil))))
      (pss_cons (ps_if (pt_cmpR (op_eqEL hu0) (pv 1) (pe_lst pa_nil) (nomark _)) (pss_one (ps_set (i := 1) scPool.nd rfl (Or.inl rfl) (pe_lst (pa_cons pe_int pa_nil)))) pss_nil)
      (pss_one (ps_ret (pe_lst (pa_cons pe_int (pa_cons (pv 1) pa_nil)))))), ?_⟩
    have cell : ∀ (i : Nat) (x : V) (H1 : Hp), Ex H H1 → (ns.map V.int)[i]? = some x → Ev (tOp (rI0 fun i j => .int (i + j)) (tOp (rI CMul fun i j => .int (i * j)) (tC (.int 2)) (tCB (fun xs H Q => ∃ i, xs = [.int i] ∧ Q (.int (if i < 0 then -i else i)) H) (tCons (tVar 2) tNil)))
        (tCB (fun xs H Q => (∃ i, xs = [.int i] ∧ Q (.int i) H) ∨ ∃ k, xs = [.bl k] ∧ Q (.int (if k then 1 else 0)) H) (tCons (tOp (rI0 fun i j => .bl (decide (i < j))) (tVar 2) (tC (.int 0))) tNil))) [some (.ref a), none, some x] H1
        (.int (2 * (if ns.getD i 0 < 0 then -(ns.getD i 0) else ns.getD i 0) + (if decide (ns.getD i 0 < 0) = true then 1 else 0))) := fun i x H1 e hx => by
      rw [List.getElem?_map] at hx
      cases hn : ns[i]? with
      | none => rw [hn] at hx; cases hx
      | some n =>
        rw [hn] at hx
        have ex : x = .int n := (Option.some.inj hx).symm
        subst ex
        rw [show ns.getD i 0 = n by rw [List.getD_eq_getElem?_getD, hn]; rfl]
        refine ev_op (ev_op ev_c (ev_cb (ea_cons (ev_var rfl) ea_nil) fun H2 e2 Q2 q => ⟨n, rfl, q H2 (Ex.refl H2)⟩) (rv_I (.inl ⟨by decide, by decide⟩))) (ev_cb (ea_cons (ev_op (ev_var rfl) ev_c rv_I0) ea_nil) fun H2 e2 Q2 q => .inr ⟨_, rfl, q H2 (Ex.refl H2)⟩) rv_I0
    refine q_asgL (el_lcL (K := K) (j := 2) (vs := [2]) (fun _ => true) (fun i => .int (2 * (if ns.getD i 0 < 0 then -(ns.getD i 0) else ns.getD i 0) + (if decide (ns.getD i 0 < 0) = true then 1 else 0))) (ev_var rfl) hs (by rw [List.length_map]; omega) (fun x => rfl) (fun _ _ _ _ _ => et_yes) (fun i x H1 e hx _ => cell i x H1 e hx)) fun p1 H1 hp1 e1 hl1 => ?_
    rw [given_all, List.length_map] at hl1
    generalize hcs : (List.range ns.length).map (fun i => 2 * (if ns.getD i 0 < 0 then -(ns.getD i 0) else ns.getD i 0) + (if decide (ns.getD i 0 < 0) = true then 1 else 0)) = cs
    have hl2 : H1 p1 = some (.lst (cs.map V.int)) := by
      rw [hl1, ← hcs, List.map_map]
      rfl
    have hcl : cs.length = ns.length := by rw [← hcs]; simp
    have fin : ∀ (q : Addr) (H2 : Hp) (ds : List Int) (o : Option V), Ex H H2 → H q = none → H2 q = some (.lst (ds.map V.int)) → ds ≠ [] → ds.length ≤ 63 → tRet (tLst (tCons (tC (.int 0)) (tCons (tVar 1) tNil))) { nx := fun _ H' => Q .non H', rt := Q } [some (.ref a), some (.ref q), o] H2 := fun q H2 ds o e hq h2 hne hle => by
      refine s_retL (el_lst (ea_cons ev_c (ea_cons (ev_var rfl) ea_nil)) (by show 2 ≤ 100000; decide)) fun p H3 hp e3 h3 => k H3 p q ?_
      exact ⟨e.trans e3, fresh_back e hp, hq, (fun z => by rw [z, h2] at hp; cases hp), 0, ds, h3, e3 _ _ h2, hne, hle⟩
    refine q_when (b := (cs.map V.int).isEmpty) (et_test (ev_opL (xs := []) (ev_var rfl) (el_lst ea_nil (by simp)) fun p2 H2 hp2 e2 => fun H3 e3 Q2 q => ⟨p1, p2, _, rfl, rfl, sq_of ((e2.trans e3) _ _ hl2), sq_of (e3 _ _ hp2), q H3 (Ex.refl H3)⟩)) (fun hb H2 e2 => ?_) (fun hb H2 e2 => ?_)
    · refine s_asgL (el_lst (ea_cons ev_c ea_nil) (by show 1 ≤ 100000; decide)) fun p3 H3 hp3 e3 h3 => ?_
      exact fin p3 H3 [0] none ((e1.trans e2).trans e3) (fresh_back (e1.trans e2) hp3) h3 (by simp) (by simp)
    · refine fin p1 H2 cs none (e1.trans e2) hp1 (e2 _ _ hl2) (fun z => ?_) (by omega)
      rw [z] at hb
      simp at hb
/-! _law_draw -/
def spDraw : Sp := fun vs H Q _ => ∃ (G : Hp) (p q : Addr) (z : Int), vs = [.ref p, .int z] ∧ Pl G H p q ∧ 0 < z ∧ z ≤ 1000 ∧ ∀ H' (i : Int), Pl G H' p q → 0 ≤ i → i < z → Q (.int i) H'
abbrev sDraw : Stmt := top 33
abbrev nDraw : List Str := ["_law_pool_here", "_law_size", "_law_place", "_law_cell", "_law_number"]
theorem scDraw : FnScope nDraw ["_law_pool_here", "_law_size"] (defScope sDraw) := ⟨rfl, rfl, rfl, by decide +kernel, rfl, by decide +kernel, by decide +kernel⟩
theorem modP (a b : Int) (h : 0 < b) : 0 ≤ a % b ∧ a % b < b := ⟨Int.emod_nonneg _ (by omega), Int.emod_lt_of_pos _ h⟩
theorem ok_draw (B : Bl mg) (F : FnP K "_law_draw" sDraw f fd) : FnOk P w K mg base CX0 1 f fd ["_law_pool_here", "_law_size"] spDraw := by
  refine F.ok scDraw (fun vs H Q E h => ?_) (fun cdv A outer s H vs Q E hr h => ?_)
  · obtain ⟨G, p, q, z, rfl, _⟩ := h
    rfl
  · obtain ⟨G, p, q, z, rfl, hP, hz, hz2, k⟩ := h
    refine ⟨_, pss_cons (ps_asg (pe_op op_add (pe_ix ix_list (pv 0) pe_int (fun _ _ => rfl)) pe_int) (pg_sub (pv 0) pe_int set_list))
      (pss_cons (ps_set (i := 2) scDraw.nd rfl (Or.inl rfl) (pe_op op_mod (pe_callTy call_int1 (by rfl) B.int PyProof.Rows.boot_int (pa_cons (pe_ix ix_list (pv 0) pe_int (fun _ _ => rfl)) pa_nil)) (pe_callB call_len_seq (by rfl) B.len PySem.boot_len (pa_cons (pe_ix ix_list (pv 0) pe_int (fun _ _ => rfl)) pa_nil))))
      (pss_cons (ps_set (i := 3) scDraw.nd rfl (Or.inl rfl) (pe_ix ix_list (pe_ix ix_list (pv 0) pe_int (fun _ _ => rfl)) (pv 2) (fun _ _ => rfl)))
      (pss_cons (ps_if (pt_cmpR op_ge (pv 3) (pe_op op_pow pe_int pe_int) (nomark _))
          (pss_cons (ps_asg (pe_op op_fdiv (pv 3) (pv 1)) (pg_sub (pe_ix ix_list (pv 0) pe_int (fun _ _ => rfl)) (pv 2) set_list)) (pss_one (ps_ret (pe_op op_mod (pe_callTy call_int1 (by rfl) B.int PyProof.Rows.boot_int (pa_cons (pv 3) pa_nil)) (pv 1))))) pss_nil)
      (pss_cons (ps_set (i := 4) scDraw.nd rfl (Or.inl rfl) (pe_op op_mod (pe_callTy call_int1 (by rfl) B.int PyProof.Rows.boot_int (pa_cons (pe_op op_mul (pe_op op_add (pe_op op_add (pv 3) (pe_op op_mul pe_int (pe_ix ix_list (pv 0) pe_int (fun _ _ => rfl)))) pe_int) pe_int) pa_nil)) pe_int))
      (pss_cons (ps_set (i := 4) scDraw.nd rfl (Or.inl rfl) (pe_op op_mod (pe_callTy call_int1 (by rfl) B.int PyProof.Rows.boot_int (pa_cons (pe_op op_mul (pv 4) (pe_op op_add (pe_op op_fdiv (pv 4) pe_int) pe_int)) pa_nil)) pe_int))
      (pss_cons (ps_set (i := 4) scDraw.nd rfl (Or.inl rfl) (pe_op op_mod (pe_callTy call_int1 (by rfl) B.int PyProof.Rows.boot_int (pa_cons (pe_op op_mul (pv 4) (pe_op op_add (pe_op op_fdiv (pv 4) pe_int) pe_int)) pa_nil)) pe_int))
      (pss_one (ps_ret (pe_op op_mod (pe_callTy call_int1 (by rfl) B.int PyProof.Rows.boot_int (pa_cons (pv 4) pa_nil)) (pv 1)))))))))), ?_⟩
    obtain ⟨n, cs, h1, h2, hne, hle⟩ := hP.at_
    have hcl : 0 < cs.length := List.length_pos_iff.mpr hne
    refine ⟨.ref p, rfl, p, _, 0, .int n, rfl, rfl, sq_of h1, rfl, n, 1, rfl, rfl, .ref p, rfl, p, _, 0, 0, rfl, rfl, h1, rfl, ?_⟩
    -- the count is set
    generalize hH1 : upd H p (.lst ([V.int n, V.ref q].set 0 (.int (n + 1)))) = H1
    have p1 : H1 p = some (.lst [.int (n + 1), .ref q]) := by rw [← hH1]; exact upd_same
    have q1 : H1 q = some (.lst (cs.map V.int)) := by rw [← hH1, upd_ne (Ne.symm hP.ne)]; exact h2
    have P1 : Pl G H1 p q := ⟨by rw [← hH1]; exact Ex.mut hP.ex hP.gp, hP.gp, hP.gq, hP.ne, n + 1, cs, p1, q1, hne, hle⟩
    have pl0 := modP (n + 1) ((cs.map V.int).length : Int) (by rw [List.length_map]; omega)
    rw [List.length_map] at pl0
    obtain ⟨j, hj⟩ : ∃ j : Nat, (n + 1) % ((cs.map V.int).length : Int) = (j : Int) := ⟨((n + 1) % ((cs.map V.int).length : Int)).toNat, by rw [Int.toNat_of_nonneg]; rw [List.length_map]; exact pl0.1⟩
    have hjl : j < cs.length := by rw [List.length_map] at hj; omega
    refine ⟨.ref p, rfl, p, _, 0, .int (n + 1), rfl, rfl, sq_of p1, rfl, .inl ⟨n + 1, rfl, .ref p, rfl, p, _, 1, .ref q, rfl, rfl, sq_of p1, rfl, q, _, rfl, .inl (sq_of q1), n + 1, _, rfl, rfl, by rw [List.length_map]; omega, ?_⟩⟩
    change tSeq _ _ _ [some (.ref p), some (.int z), some (.int ((n + 1) % ((cs.map V.int).length : Int))), none, none] H1
    rw [hj]
    have hcj : (cs.map V.int)[j]? = some (.int cs[j]) := by rw [List.getElem?_map, List.getElem?_eq_getElem hjl]; rfl
    refine ⟨.ref p, rfl, p, _, 1, .ref q, rfl, rfl, sq_of p1, rfl, .int (j : Int), rfl, q, _, j, _, rfl, rfl, sq_of q1, atI_nat hcj, ?_⟩
    change tSeq _ _ _ [some (.ref p), some (.int z), some (.int (j : Int)), some (.int cs[j]), none] H1
    generalize cs[j] = c
    refine ⟨.int c, rfl, 10, 18, rfl, rfl, ⟨by decide, by decide, by decide⟩, c, _, rfl, rfl, _, rfl, ?_⟩
    refine ite2 (fun _ => ?_) (fun _ => ?_)
    · refine ⟨.int c, rfl, .int z, rfl, c, z, rfl, rfl, ⟨hz, by omega⟩, .ref p, rfl, p, _, 1, .ref q, rfl, rfl, sq_of p1, rfl, .int (j : Int), rfl, q, _, (j : Int), j, rfl, rfl, q1, ixN_nat (by rw [List.length_map]; exact hjl), ?_⟩
      have m := modP c z hz
      refine ⟨.int c, rfl, .inl ⟨c, rfl, .int z, rfl, c, z, rfl, rfl, hz, k _ _ ?_ m.1 m.2⟩⟩
      refine ⟨Ex.mut P1.ex hP.gq, hP.gp, hP.gq, hP.ne, n + 1, cs.set j (c / z), by rw [upd_ne hP.ne]; exact p1, by rw [upd_same, List.map_set], fun e => ?_, by rw [List.length_set]; exact hle⟩
      have := congrArg List.length e
      rw [List.length_set] at this
      exact hne (by simpa using this)
    · refine ⟨.int c, rfl, .ref p, rfl, p, _, 0, .int (n + 1), rfl, rfl, sq_of p1, rfl, 7919, n + 1, rfl, rfl, .inl ⟨by decide, by decide⟩, c, _, rfl, rfl, _, 1, rfl, rfl, _, 48271, rfl, rfl, .inr ⟨by decide, by decide⟩, .inl ⟨_, rfl, _, 2147483647, rfl, rfl, (show (0 : Int) < 2147483647 by decide), ?_⟩⟩
      have m1 := modP ((c + 7919 * (n + 1) + 1) * 48271) 2147483647 (by decide)
      change tSeq _ _ _ [some (.ref p), some (.int z), some (.int (j : Int)), some (.int c), some (.int (((c + 7919 * (n + 1) + 1) * 48271) % 2147483647))] H1
      generalize ((c + 7919 * (n + 1) + 1) * 48271) % 2147483647 = y1 at m1 ⊢
      refine ⟨.int y1, rfl, .int y1, rfl, y1, 1009, rfl, rfl, ⟨by decide, by decide⟩, _, 69621, rfl, rfl, y1, _, rfl, rfl, .inl ⟨by omega, by omega⟩, .inl ⟨_, rfl, _, 2147483647, rfl, rfl, (show (0 : Int) < 2147483647 by decide), ?_⟩⟩
      have m2 := modP (y1 * (y1 / 1009 + 69621)) 2147483647 (by decide)
      change tSeq _ _ _ [some (.ref p), some (.int z), some (.int (j : Int)), some (.int c), some (.int ((y1 * (y1 / 1009 + 69621)) % 2147483647))] H1
      generalize (y1 * (y1 / 1009 + 69621)) % 2147483647 = y2 at m2 ⊢
      refine ⟨.int y2, rfl, .int y2, rfl, y2, 2003, rfl, rfl, ⟨by decide, by decide⟩, _, 40692, rfl, rfl, y2, _, rfl, rfl, .inl ⟨by omega, by omega⟩, .inl ⟨_, rfl, _, 2147483399, rfl, rfl, (show (0 : Int) < 2147483399 by decide), ?_⟩⟩
      have m := modP ((y2 * (y2 / 2003 + 40692)) % 2147483399) z hz
      exact ⟨.int ((y2 * (y2 / 2003 + 40692)) % 2147483399), rfl, .inl ⟨_, rfl, .int z, rfl, _, z, rfl, rfl, hz, k _ _ P1 m.1 m.2⟩⟩
end
/-- a draw, as a call -/
theorem ev_draw {G H : Hp} {p q : Addr} {z : Int} {Q : VK} (h : Pl G H p q) (hz : 0 < z) (hz2 : z ≤ 1000) (k : ∀ H' (i : Int), Pl G H' p q → Off p q H H' → 0 ≤ i → i < z → Q (.int i) H') (E : XK) : spDraw [.ref p, .int z] H Q E :=
  ⟨Hd H p q, p, q, z, rfl, h.hd, hz, hz2, fun H' i hP h0 h1 => k H' i (h.back hP) hP.off h0 h1⟩
end Wk

set_option Elab.async false
set_option linter.all false
set_option maxRecDepth 100000
set_option maxHeartbeats 2000000
namespace Wk
open PySem PySem.Spec PyProof.Rows L2 Evl
/-! lists of ways, as plain rows of ints -/
abbrev Wy := List Int
def wd (w : Wy) : PyData := .tuple (w.map PyData.int)
def rd (row : List Wy) : PyData := .tuple (row.map wd)
def pd (rows : List (List Wy)) : PyData := .tuple (rows.map rd)
/-- a way of router r below n -/
structure WyOk (n r : Nat) (w : Wy) : Prop where
  l2 : 2 ≤ w.length
  l8 : w.length ≤ 8
  hd : w[0]? = some (r : Int)
  lt : w.getLast? = some 0
  nd : w.Nodup
  rg : ∀ x ∈ w, 0 ≤ x ∧ x < (n : Int)
/-- good lists -/
structure GW (rows : List (List Wy)) : Prop where
  goal : ∀ row, rows[0]? = some row → row = []
  nd : ∀ (i : Nat) (row : List Wy), rows[i]? = some row → row.Nodup
  ok : ∀ (i : Nat) (row : List Wy), rows[i]? = some row → ∀ w ∈ row, WyOk rows.length i w
  rest : ∀ (i : Nat) (row : List Wy), rows[i]? = some row → ∀ w ∈ row, w.drop 1 = [0] ∨ ∃ (j : Nat) (row' : List Wy), w[1]? = some (j : Int) ∧ rows[j]? = some row' ∧ w.drop 1 ∈ row'
theorem rts_wd (w : Wy) : rts (wd w) = w := by
  simp [rts, wd, itemsT, valI, Function.comp_def]
theorem wayB_of {n r : Nat} {w : Wy} (h : WyOk n r w) : wayB (n : Int) (r : Int) (wd w) = true := by
  have e : (itemsT (wd w)).map valI = w := rts_wd w
  have hl : (itemsT (wd w)).length = w.length := by simp [wd, itemsT]
  have ha : (itemsT (wd w)).all (isR (n : Int)) = true := by
    rw [List.all_eq_true]
    intro d hd
    simp only [wd, itemsT, List.mem_map] at hd
    obtain ⟨x, hx, rfl⟩ := hd
    have := h.rg x hx
    show (true && (decide (0 ≤ x) && decide (x ≤ (n : Int) - 1))) = true
    rw [decide_eq_true this.1, decide_eq_true (show x ≤ (n : Int) - 1 by omega)]
    rfl
  unfold wayB
  rw [e, hl, ha, decide_eq_true h.l2, decide_eq_true h.l8, decide_eq_true h.hd, decide_eq_true h.lt, decide_eq_true h.nd]
  rfl
theorem wd_inj {a b : Wy} (h : wd a = wd b) : a = b := by
  rw [← rts_wd a, ← rts_wd b, h]
theorem map_rts (row : List Wy) : (row.map wd).map rts = row := by
  rw [List.map_map]
  exact (List.map_congr_left fun w _ => rts_wd w).trans (List.map_id row)
theorem rowB_of {rows : List (List Wy)} (h : GW rows) (h6 : ∀ row ∈ rows, row.length ≤ 6) {i : Nat} {row : List Wy} (e : rows[i]? = some row) : rowB (rows.length : Int) (i : Int) (rd row) = true := by
  have hi : itemsT (rd row) = row.map wd := rfl
  have hl : (itemsT (rd row)).length = row.length := by rw [hi, List.length_map]
  unfold rowB
  rw [hl, decide_eq_true (h6 row (List.mem_of_getElem? e)), hi, map_rts]
  by_cases c : (i : Int) = 0
  · rw [if_pos c]
    have i0 : i = 0 := by omega
    subst i0
    rw [h.goal row e]
    rfl
  · rw [if_neg c, decide_eq_true (h.nd i row e)]
    have ha : (row.map wd).all (wayB (rows.length : Int) (i : Int)) = true := by
      rw [List.all_eq_true]
      intro d hd
      obtain ⟨w, hw, rfl⟩ := List.mem_map.mp hd
      exact wayB_of (h.ok i row e w hw)
    rw [ha]
    rfl
theorem eqv_wd (a b : Wy) : PyData.eqv (wd a) (wd b) = decide (a = b) := eqv_ints a b
theorem getD_rows {rows : List (List Wy)} {j : Nat} {row : List Wy} (h : rows[j]? = some row) : (rows.map rd).getD j .none = rd row := by
  rw [List.getD_eq_getElem?_getD, List.getElem?_map, h]
  rfl
theorem restB_of {rows : List (List Wy)} (h : GW rows) {i : Nat} {row : List Wy} (e : rows[i]? = some row) {w : Wy} (hw : w ∈ row) : restB (rows.map rd) (wd w) = true := by
  unfold restB
  rw [rts_wd]
  have ok := h.ok i row e w hw
  rcases h.rest i row e w hw with z | ⟨j, row', h1, h2, h3⟩
  · have e1 : w.getD 1 0 = 0 := by
      have : w[1]? = some 0 := by
        have q : (w.drop 1)[0]? = some 0 := by rw [z]; rfl
        rw [List.getElem?_drop] at q
        exact q
      rw [List.getD_eq_getElem?_getD, this]
      rfl
    rw [e1]
    rfl
  · have e1 : w.getD 1 0 = (j : Int) := by rw [List.getD_eq_getElem?_getD, h1]; rfl
    rw [e1, Int.toNat_natCast, getD_rows h2]
    have : (itemsT (rd row')).any (fun z => PyData.eqv z (.tuple ((w.drop 1).map PyData.int))) = true := by
      rw [List.any_eq_true]
      refine ⟨wd (w.drop 1), List.mem_map.mpr ⟨_, h3, rfl⟩, ?_⟩
      show PyData.eqv (wd (w.drop 1)) (wd (w.drop 1)) = true
      rw [eqv_wd, decide_eq_true rfl]
    rw [this, Bool.or_true]
theorem fb_none {n : Int} : ∀ {ds : List PyData} {j : Nat}, (∀ (i : Nat) (d : PyData), ds[i]? = some d → rowB n ((j + i : Nat) : Int) d = true) → fb n j ds = none
  | [], _, _ => rfl
  | d :: ds, j, h => by
    have h0 := h 0 d rfl
    rw [Nat.add_zero] at h0
    unfold fb
    rw [if_pos h0]
    exact fb_none fun i d' e => by
      have q := h (i + 1) d' (by simpa using e)
      rw [show j + 1 + i = j + (i + 1) by omega]
      exact q
theorem sb_none {rows : List PyData} : ∀ {ds : List PyData} {j : Nat}, (∀ d ∈ ds, (itemsT d).all (restB rows) = true) → sb rows j ds = none
  | [], _, _ => rfl
  | d :: ds, j, h => by
    unfold sb
    rw [if_pos (h d List.mem_cons_self)]
    exact sb_none fun x hx => h x (List.mem_cons_of_mem _ hx)
/-- good lists are let -/
theorem due_pd {rows : List (List Wy)} (h : GW rows) (h2 : 2 ≤ rows.length) (h8 : rows.length ≤ 8) (h6 : ∀ row ∈ rows, row.length ≤ 6) : dueD (pd rows) = none := by
  have hl : (itemsT (pd rows)).length = rows.length := by simp [pd, itemsT]
  unfold dueD
  rw [if_pos ⟨rfl, by rw [hl]; exact h2, by rw [hl]; exact h8⟩]
  unfold due2
  rw [hl]
  have hf : fb (rows.length : Int) 0 (itemsT (pd rows)) = none := fb_none fun i d e => by
    have e' : (rows.map rd)[i]? = some d := e
    rw [List.getElem?_map] at e'
    cases hr : rows[i]? with
    | none => rw [hr] at e'; cases e'
    | some row =>
      rw [hr] at e'
      cases e'
      rw [Nat.zero_add]
      exact rowB_of h h6 hr
  rw [hf]
  refine sb_none fun d hd => ?_
  obtain ⟨row, hr, rfl⟩ := List.mem_map.mp (show d ∈ rows.map rd from hd)
  rw [List.all_eq_true]
  intro x hx
  obtain ⟨w, hw, rfl⟩ := List.mem_map.mp (show x ∈ row.map wd from hx)
  obtain ⟨i, hi⟩ := List.mem_iff_getElem?.mp hr
  exact restB_of h hi hw
/-- an order: 0 first, unlike routers -/
structure OsOk (n : Nat) (os : List Int) : Prop where
  len : os.length = n
  nd : os.Nodup
  hd : os[0]? = some 0
  rg : ∀ x ∈ os, 0 ≤ x ∧ x < (n : Int)
theorem OsOk.ne {n : Nat} {os : List Int} (h : OsOk n os) {i j : Nat} {x : Int} (hi : os[i]? = some x) (hj : os[j]? = some x) : i = j := by
  have hil := (List.getElem?_eq_some_iff.mp hi).1
  exact (List.getElem?_inj hil h.nd).mp (hi.trans hj.symm)
/-- a way more in the row of r -/
theorem gw_add {rows : List (List Wy)} (h : GW rows) {r : Nat} {row : List Wy} (hr : rows[r]? = some row) (h0 : r ≠ 0) {b : Wy} (hb : b = [0] ∨ ∃ (j : Nat) (row' : List Wy), rows[j]? = some row' ∧ b ∈ row') (hn : (r : Int) ∉ b) (hl : b.length ≤ 7) (hw : ((r : Int) :: b) ∉ row) (i : Nat) :
    GW (rows.set r (row.take i ++ [(r : Int) :: b] ++ row.drop i)) := by
  have hrl := (List.getElem?_eq_some_iff.mp hr).1
  have hmem : ∀ w, w ∈ row.take i ++ [(r : Int) :: b] ++ row.drop i ↔ w ∈ row ∨ w = (r : Int) :: b := fun w => by
    have q : w ∈ row ↔ w ∈ row.take i ∨ w ∈ row.drop i := by
      rw [← List.mem_append, List.take_append_drop]
    simp only [List.mem_append, List.mem_singleton, q]
    constructor
    · rintro ((z | z) | z)
      · exact .inl (.inl z)
      · exact .inr z
      · exact .inl (.inr z)
    · rintro ((z | z) | z)
      · exact .inl (.inl z)
      · exact .inr z
      · exact .inl (.inr z)
  have hget : ∀ (k : Nat) (row' : List Wy), (rows.set r (row.take i ++ [(r : Int) :: b] ++ row.drop i))[k]? = some row' → (k = r ∧ row' = row.take i ++ [(r : Int) :: b] ++ row.drop i) ∨ (k ≠ r ∧ rows[k]? = some row') := fun k row' e => by
    by_cases c : r = k
    · subst c
      rw [List.getElem?_set_self hrl] at e
      exact .inl ⟨rfl, (Option.some.inj e).symm⟩
    · rw [List.getElem?_set_ne c] at e
      exact .inr ⟨fun z => c z.symm, e⟩
  have hup : ∀ (k : Nat) (row' : List Wy) (w : Wy), rows[k]? = some row' → w ∈ row' → ∃ row2, (rows.set r (row.take i ++ [(r : Int) :: b] ++ row.drop i))[k]? = some row2 ∧ w ∈ row2 := fun k row' w e hm => by
    by_cases c : r = k
    · subst c
      rw [hr] at e
      cases e
      exact ⟨_, List.getElem?_set_self hrl, (hmem w).mpr (.inl hm)⟩
    · exact ⟨row', by rw [List.getElem?_set_ne c]; exact e, hm⟩
  have hlen : (rows.set r (row.take i ++ [(r : Int) :: b] ++ row.drop i)).length = rows.length := List.length_set ..
  have hbok : WyOk rows.length r ((r : Int) :: b) := by
    have hrg0 : (0 : Int) ≤ r ∧ (r : Int) < rows.length := ⟨by omega, by omega⟩
    rcases hb with rfl | ⟨j, row', hj, hbj⟩
    · refine ⟨by simp, by simp, rfl, rfl, ?_, fun x hx => ?_⟩
      · exact List.nodup_cons.mpr ⟨hn, by simp⟩
      · rcases List.mem_cons.mp hx with z | z
        · rw [z]; exact hrg0
        · rw [List.mem_singleton.mp z]; omega
    · have ok := h.ok j row' hj b hbj
      refine ⟨by have := ok.l2; simp; omega, by simp; omega, rfl, ?_, List.nodup_cons.mpr ⟨hn, ok.nd⟩, fun x hx => ?_⟩
      · cases b with
        | nil => have := ok.l2; simp at this
        | cons y l => rw [List.getLast?_cons_cons]; exact ok.lt
      · rcases List.mem_cons.mp hx with z | z
        · rw [z]; exact hrg0
        · exact ok.rg x z
  refine ⟨fun row' e => ?_, fun k row' e => ?_, fun k row' e w hm => ?_, fun k row' e w hm => ?_⟩
  · rcases hget 0 row' e with ⟨z, _⟩ | ⟨_, z⟩
    · exact absurd z.symm h0
    · exact h.goal row' z
  · rcases hget k row' e with ⟨_, z⟩ | ⟨_, z⟩
    · rw [z]
      have nd := h.nd r row hr
      have p1 : (row.take i ++ [(r : Int) :: b] ++ row.drop i).Perm (((r : Int) :: b) :: row) := by
        have p2 : (row.take i ++ [(r : Int) :: b] ++ row.drop i).Perm ([(r : Int) :: b] ++ row.take i ++ row.drop i) := List.Perm.append_right _ List.perm_append_comm
        have e2 : [(r : Int) :: b] ++ row.take i ++ row.drop i = ((r : Int) :: b) :: row := by
          rw [List.append_assoc, List.take_append_drop]
          rfl
        rw [e2] at p2
        exact p2
      exact p1.nodup_iff.mpr (List.nodup_cons.mpr ⟨hw, nd⟩)
    · exact h.nd k row' z
  · rw [hlen]
    rcases hget k row' e with ⟨z1, z2⟩ | ⟨_, z⟩
    · subst z1
      rw [z2] at hm
      rcases (hmem w).mp hm with y | y
      · exact h.ok k row hr w y
      · rw [y]; exact hbok
    · exact h.ok k row' z w hm
  · have key : ∀ (k' : Nat) (row'' : List Wy), rows[k']? = some row'' → w ∈ row'' → w.drop 1 = [0] ∨ ∃ (j : Nat) (row2 : List Wy), w[1]? = some (j : Int) ∧ (rows.set r (row.take i ++ [(r : Int) :: b] ++ row.drop i))[j]? = some row2 ∧ w.drop 1 ∈ row2 := fun k' row'' e' hm' => by
      rcases h.rest k' row'' e' w hm' with y | ⟨j, row3, y1, y2, y3⟩
      · exact .inl y
      · obtain ⟨row4, y4, y5⟩ := hup j row3 _ y2 y3
        exact .inr ⟨j, row4, y1, y4, y5⟩
    rcases hget k row' e with ⟨z1, z2⟩ | ⟨_, z⟩
    · subst z1
      rw [z2] at hm
      rcases (hmem w).mp hm with y | y
      · exact key k row hr y
      · rw [y]
        rcases hb with rfl | ⟨j, row3, hj, hbj⟩
        · exact .inl rfl
        · obtain ⟨row4, y4, y5⟩ := hup j row3 b hj hbj
          exact .inr ⟨j, row4, by show b[0]? = _; exact (h.ok j row3 hj b hbj).hd, y4, y5⟩
    · exact key k row' z hm
end Wk

set_option Elab.async false
set_option linter.all false
set_option maxRecDepth 100000
set_option maxHeartbeats 2000000
namespace Wk
open PySem PySem.Spec PyProof.Rows L2 Evl
/-! the list at R of the rows' lists -/
structure Rz (G H : Hp) (p q R : Addr) (rs : List Addr) (rows : List (List Wy)) : Prop where
  at_ : H R = some (.lst (rs.map V.ref))
  gR : G R = none
  Rp : R ≠ p
  Rq : R ≠ q
  nin : R ∉ rs
  nd : rs.Nodup
  len : rs.length = rows.length
  row : ∀ (i : Nat) (r : Addr) (row : List Wy), rs[i]? = some r → rows[i]? = some row → G r = none ∧ r ≠ p ∧ r ≠ q ∧ ∃ vs, H r = some (.lst vs) ∧ DqA G vs (row.map wd)
section
variable {G H H' : Hp} {p q R : Addr} {rs : List Addr} {rows : List (List Wy)}
theorem Rz.off (h : Rz G H p q R rs rows) (o : Off p q H H') : Rz G H' p q R rs rows := by
  refine ⟨o _ _ h.Rp h.Rq h.at_, h.gR, h.Rp, h.Rq, h.nin, h.nd, h.len, fun i r row hr hw => ?_⟩
  obtain ⟨g, rp, rq, vs, h1, h2⟩ := h.row i r row hr hw
  exact ⟨g, rp, rq, vs, o _ _ rp rq h1, h2⟩
theorem Rz.ext (h : Rz G H p q R rs rows) (e : Ex H H') : Rz G H' p q R rs rows := h.off (Off.ex e)
theorem Rz.at (h : Rz G H p q R rs rows) {i : Nat} (hi : i < rows.length) : ∃ r, rs[i]? = some r ∧ r ∈ rs := by
  have hl : i < rs.length := by rw [h.len]; exact hi
  exact ⟨rs[i], List.getElem?_eq_getElem hl, List.getElem_mem hl⟩
theorem Rz.mem (h : Rz G H p q R rs rows) {r : Addr} (hr : r ∈ rs) : G r = none ∧ r ≠ p ∧ r ≠ q ∧ ∃ vs, H r = some (.lst vs) := by
  obtain ⟨i, hi⟩ := List.mem_iff_getElem?.mp hr
  have hl := (List.getElem?_eq_some_iff.mp hi).1
  have hl2 : i < rows.length := by rw [← h.len]; exact hl
  obtain ⟨g, rp, rq, vs, h1, _⟩ := h.row i r _ hi (List.getElem?_eq_getElem hl2)
  exact ⟨g, rp, rq, vs, h1⟩
theorem Rz.new {t : Addr} {o : HO} (h : Rz G H p q R rs rows) (ht : H t = none) (gt : G t = none) : Rz (upd G t o) (upd H t o) p q R rs rows := by
  have h2 := h.ext (Ex.new (o := o) ht)
  have nR : R ≠ t := ne_of_none h.at_ ht
  refine ⟨h2.at_, by rw [upd_ne nR]; exact h.gR, h.Rp, h.Rq, h.nin, h.nd, h.len, fun i r row hr hw => ?_⟩
  obtain ⟨g, rp, rq, vs, h1, hd⟩ := h.row i r row hr hw
  have nr : r ≠ t := ne_of_none h1 ht
  exact ⟨by rw [upd_ne nr]; exact g, rp, rq, vs, by rw [upd_ne nr]; exact h1, hd.mono (Ex.new gt)⟩
theorem Rz.grow {G' : Hp} (h : Rz G H p q R rs rows) (e : Ex G G') (gR : G' R = none) (gr : ∀ r ∈ rs, G' r = none) : Rz G' H p q R rs rows := by
  refine ⟨h.at_, gR, h.Rp, h.Rq, h.nin, h.nd, h.len, fun i r row hr hw => ?_⟩
  obtain ⟨g, rp, rq, vs, h1, hd⟩ := h.row i r row hr hw
  exact ⟨gr r (List.mem_of_getElem? hr), rp, rq, vs, h1, hd.mono e⟩
/-- a row is changed -/
theorem Rz.mut {i : Nat} {r : Addr} {row' : List Wy} {vs : List V} (h : Rz G H p q R rs rows) (hr : rs[i]? = some r) (hd : DqA G vs (row'.map wd)) : Rz G (upd H r (.lst vs)) p q R rs (rows.set i row') := by
  have hm := List.mem_of_getElem? hr
  have nR : R ≠ r := fun z => h.nin (by rw [z]; exact hm)
  have hil : i < rs.length := (List.getElem?_eq_some_iff.mp hr).1
  refine ⟨by rw [upd_ne nR]; exact h.at_, h.gR, h.Rp, h.Rq, h.nin, h.nd, by rw [List.length_set]; exact h.len, fun k r2 row2 h2 w2 => ?_⟩
  by_cases c : i = k
  · subst c
    rw [hr] at h2
    cases h2
    rw [List.getElem?_set_self (by rw [← h.len]; exact hil)] at w2
    cases w2
    obtain ⟨g, rp, rq, _⟩ := h.mem hm
    exact ⟨g, rp, rq, vs, upd_same, hd⟩
  · rw [List.getElem?_set_ne c] at w2
    obtain ⟨g, rp, rq, vs2, h3, h4⟩ := h.row k r2 row2 h2 w2
    have nr : r2 ≠ r := fun z => c ((List.getElem?_inj hil h.nd).mp (by rw [hr, h2, z]))
    exact ⟨g, rp, rq, vs2, by rw [upd_ne nr]; exact h3, h4⟩
theorem nodup_set {α : Type} : ∀ {l : List α} {i : Nat} {b : α}, l.Nodup → b ∉ l → (l.set i b).Nodup
  | [], _, _, h, _ => h
  | x :: l, 0, b, h, hb => List.nodup_cons.mpr ⟨fun z => hb (List.mem_cons_of_mem _ z), (List.nodup_cons.mp h).2⟩
  | x :: l, i + 1, b, h, hb => by
    have h' := List.nodup_cons.mp h
    refine List.nodup_cons.mpr ⟨fun z => ?_, nodup_set h'.2 fun z => hb (List.mem_cons_of_mem _ z)⟩
    rcases List.mem_or_eq_of_mem_set z with y | y
    · exact h'.1 y
    · exact hb (by rw [← y]; exact List.mem_cons_self)
/-- a new list in the place of a row -/
theorem Rz.put {i : Nat} {b : Addr} {row' : List Wy} {vs : List V} (hP : Pl G H p q) (h : Rz G H p q R rs rows) (hi : i < rows.length) (hb : H b = none) (hd : DqA G vs (row'.map wd)) :
    Pl G (upd (upd H b (.lst vs)) R (.lst ((rs.map V.ref).set i (.ref b)))) p q ∧ Rz G (upd (upd H b (.lst vs)) R (.lst ((rs.map V.ref).set i (.ref b)))) p q R (rs.set i b) (rows.set i row') := by
  have e : Ex H (upd H b (.lst vs)) := Ex.new hb
  have h2 := h.ext e
  have gb := fresh_back hP.ex hb
  have bR : b ≠ R := Ne.symm (ne_of_none h.at_ hb)
  have hbn : b ∉ rs := fun z => by
    obtain ⟨_, _, _, vs', h1⟩ := h.mem z
    rw [hb] at h1
    cases h1
  have hil : i < rs.length := by rw [h.len]; exact hi
  refine ⟨(hP.ext e).mut h.gR h.Rp h.Rq, by rw [upd_same, List.map_set], h.gR, h.Rp, h.Rq, fun z => ?_, nodup_set h.nd hbn, by rw [List.length_set, List.length_set]; exact h.len, fun k r2 row2 h3 w2 => ?_⟩
  · rcases List.mem_or_eq_of_mem_set z with y | y
    · exact h.nin y
    · exact bR y.symm
  · by_cases c : i = k
    · subst c
      rw [List.getElem?_set_self hil] at h3
      cases h3
      rw [List.getElem?_set_self hi] at w2
      cases w2
      exact ⟨gb, hP.np hb, hP.nq hb, vs, by rw [upd_ne bR, upd_same], hd⟩
    · rw [List.getElem?_set_ne c] at h3 w2
      obtain ⟨g, rp, rq, vs2, h4, h5⟩ := h2.row k r2 row2 h3 w2
      have nr : r2 ≠ R := fun z => h.nin (by rw [← z]; exact List.mem_of_getElem? h3)
      exact ⟨g, rp, rq, vs2, by rw [upd_ne nr]; exact h4, h5⟩
end
theorem erase_perm {α : Type} : ∀ (l : List α) (m : Nat) (h : m < l.length), (l[m] :: l.eraseIdx m).Perm l
  | x :: l, 0, h => List.Perm.refl _
  | x :: l, m + 1, h => by
    have h' : m < l.length := by simpa using h
    exact (List.Perm.swap x l[m] (l.eraseIdx m)).trans ((erase_perm l m h').cons x)
section
variable {P : Program} {w : World} {K : PySem.W.Frag} {mg : Str → Option Value} {base : Heap} {f : Addr} {fd : FuncData}
/-! _law_order -/
def spOrder : Sp := fun vs H Q _ => ∃ (G : Hp) (p q : Addr) (n : Nat), vs = [.ref p, .int (n : Int)] ∧ Pl G H p q ∧ 2 ≤ n ∧ n ≤ 8 ∧ ∀ H' a (os : List Int), Pl G H' p q → Off p q H H' → H a = none → H' a = some (.lst (os.map V.int)) → OsOk n os → Q (.ref a) H'
abbrev sOrder : Stmt := top 34
abbrev nOrder : List Str := ["_law_pool_here", "_law_size", "_law_left", "_law_order_here", "_law_count"]
theorem scOrder : FnScope nOrder ["_law_pool_here", "_law_size"] (defScope sOrder) := ⟨rfl, rfl, rfl, by decide +kernel, rfl, by decide +kernel, by decide +kernel⟩
theorem ok_order (B : Bl mg) (C : Cal P w K mg base "_law_draw" ["_law_pool_here", "_law_size"] 1 spDraw) (F : FnP K "_law_order" sOrder f fd) : FnOk P w K mg base CX0 2 f fd ["_law_pool_here", "_law_size"] spOrder := by
  refine F.ok scOrder (fun vs H Q E h => ?_) (fun cdv A outer s H vs Q E hr h => ?_)
  · obtain ⟨G, p, q, n, rfl, _⟩ := h
    rfl
  · obtain ⟨G, p, q, n, rfl, hP, hn2, hn8, k⟩ := h
    refine ⟨_, pss_cons (ps_set (i := 2) scOrder.nd rfl (Or.inl rfl) (pe_listRg rfl (by rfl) B.list (prg_2 (by rfl) B.range pe_int (pv 1))))
      (pss_cons (ps_set (i := 3) scOrder.nd rfl (Or.inl rfl) (pe_lst (pa_cons pe_int pa_nil)))
      (pss_cons (ps_for (passes_of rfl) rfl (pi_range1 (by rfl) B.range (pa_cons (pe_op op_sub (pv 1) pe_int) pa_nil)) (pg_name (i := 4) scOrder.nd rfl (Or.inl rfl))
        (pss_one (ps_expr (pe_bm PySem.F.plainAttrs_list PySem.F.slot_list_append PySem.F.type_list_append mt_append (pv 3) (pa_cons
          (pe_bm PySem.F.plainAttrs_list PySem.F.slot_list_pop PySem.F.type_list_pop mt_popAt (pv 2) (pa_cons (pe_cal C hr (by rfl) (pa_cons (pv 0) (pa_cons (pe_callB call_len_seq (by rfl) B.len PySem.boot_len (pa_cons (pv 2) pa_nil)) pa_nil))) pa_nil)) pa_nil)))))
      (pss_one (ps_ret (pv 3))))), ?_⟩
    refine ⟨.int (n : Int), rfl, 1, (n : Int), rfl, rfl, RgOk.of_le (by decide) (by omega) (by decide) (by omega), fun a1 ha1 => ?_⟩
    refine ⟨by show 1 ≤ sizeLine; decide, fun a2 ha2 => ?_⟩
    have n12 : a1 ≠ a2 := fun z => by rw [← z, upd_same] at ha2; cases ha2
    have ha2' : H a2 = none := by rw [upd_ne (Ne.symm n12)] at ha2; exact ha2
    have ga1 := fresh_back hP.ex ha1
    have ga2 := fresh_back hP.ex ha2'
    have p1 := hP.np ha1
    have q1 := hP.nq ha1
    have p2 := hP.np ha2'
    have q2 := hP.nq ha2'
    have e0 : rgV 1 (n : Int) = ((List.range (n - 1)).map fun (i : Nat) => (1 : Int) + (i : Int)).map V.int := by
      unfold rgV
      rw [show ((n : Int) - 1).toNat = n - 1 by omega, List.map_map]
      rfl
    change tSeq _ _ _ [some (.ref p), some (.int (n : Int)), some (.ref a1), some (.ref a2), none] _
    refine q_forR1 (ea_cons (ev_op (ev_var rfl) ev_c rv_I0) ea_nil) (n := (n : Int) - 1) (by omega) (fun i σ' H' => ∃ (ls os : List Int) (o : Option V), σ' = [some (.ref p), some (.int (n : Int)), some (.ref a1), some (.ref a2), o] ∧ Pl G H' p q ∧ Off p q H H' ∧ H' a1 = some (.lst (ls.map V.int)) ∧ H' a2 = some (.lst (os.map V.int)) ∧ ls.length + i = n - 1 ∧ os.length = i + 1 ∧ (os ++ ls).Nodup ∧ os[0]? = some 0 ∧ ∀ x ∈ os ++ ls, 0 ≤ x ∧ x < n) ?_ ?_ ?_
    · intro H1 e1
      refine ⟨_, [0], none, rfl, ((hP.ext (Ex.new ha1)).ext (Ex.new ha2)).ext e1, Off.ex (((Ex.new ha1).trans (Ex.new ha2)).trans e1), e1 _ _ (by rw [upd_ne n12, upd_same, e0]), e1 _ _ upd_same, by simp, rfl, ?_, rfl, fun x hx => ?_⟩
      · refine List.nodup_cons.mpr ⟨fun z => ?_, ?_⟩
        · obtain ⟨i, hi, e⟩ := List.mem_map.mp (show (0 : Int) ∈ (List.range (n - 1)).map fun (i : Nat) => (1 : Int) + (i : Int) from z)
          omega
        · show ((List.range (n - 1)).map fun (i : Nat) => (1 : Int) + (i : Int)).Nodup
          unfold List.Nodup
          rw [List.pairwise_map]
          exact (List.nodup_range (n := n - 1)).imp (fun h e => h (by omega))
      · rcases List.mem_cons.mp (show x ∈ (0 : Int) :: (List.range (n - 1)).map fun (i : Nat) => (1 : Int) + (i : Int) from hx) with z | z
        · rw [z]; omega
        · obtain ⟨i, hi, rfl⟩ := List.mem_map.mp z
          have := List.mem_range.mp hi
          omega
    · rintro i σ' H1 hi ⟨ls, os, o, rfl, hP1, hO, h1, h2, hl, hol, b1, b2, b3⟩
      have hlp : 0 < ls.length := by omega
      refine ⟨.ref a2, rfl, .inl ⟨rfl, _, sq_of h2⟩, .ref a1, rfl, .inl ⟨rfl, _, sq_of h1⟩, .ref p, rfl, .ref a1, rfl, a1, _, rfl, .inl (sq_of h1), ?_⟩
      refine ⟨Hd H1 p q, p, q, ((ls.map V.int).length : Int), rfl, hP1.hd, by rw [List.length_map]; omega, by rw [List.length_map]; omega, fun H2 j hP0 hj0 hj1 => ?_⟩
      have hP2 := hP1.back hP0
      have hO2 := hP0.off
      rw [List.length_map] at hj1
      obtain ⟨m, rfl⟩ : ∃ m : Nat, j = (m : Int) := ⟨j.toNat, by omega⟩
      have hm : m < ls.length := by omega
      have h1' := hO2 _ _ p1 q1 h1
      have h2' := hO2 _ _ p2 q2 h2
      refine ⟨a1, _, (m : Int), m, .int ls[m], rfl, rfl, h1', by omega, by omega, by rw [List.length_map]; exact seqIx hm, by rw [List.getElem?_map, List.getElem?_eq_getElem hm]; rfl, ?_⟩
      refine ⟨a2, _, .int ls[m], rfl, rfl, by rw [upd_ne (Ne.symm n12)]; exact h2', by rw [List.length_map, sizeLine_eq]; omega, ?_⟩
      have hpm : ((os ++ [ls[m]]) ++ ls.eraseIdx m).Perm (os ++ ls) := by
        rw [List.append_assoc]
        exact (erase_perm ls m hm).append_left os
      refine ⟨ls.eraseIdx m, os ++ [ls[m]], _, rfl, (hP2.mut ga1 p1 q1).mut ga2 p2 q2, fun b u hb1 hb2 hb => ?_, by rw [upd_ne n12, upd_same, eraseIdx_mp], by rw [upd_same, List.map_append]; rfl, by rw [List.length_eraseIdx_of_lt hm]; omega, by simp; omega, hpm.nodup_iff.mpr b1, ?_, fun x hx => b3 x (hpm.mem_iff.mp hx)⟩
      · have nb1 : b ≠ a1 := ne_of_none hb ha1
        have nb2 : b ≠ a2 := ne_of_none hb ha2'
        rw [upd_ne nb2, upd_ne nb1]
        exact hO2 _ _ hb1 hb2 (hO _ _ hb1 hb2 hb)
      · rw [List.getElem?_append_left (by omega)]
        exact b2
    · rintro σ' H1 ⟨ls, os, o, rfl, hP1, hO, h1, h2, hl, hol, b1, b2, b3⟩
      have hls : ls = [] := List.length_eq_zero_iff.mp (by omega)
      subst hls
      rw [List.append_nil] at b1 b3
      exact ⟨.ref a2, rfl, k H1 a2 os hP1 hO ha2' h2 ⟨by omega, b1, b2, b3⟩⟩
end
end Wk

set_option Elab.async false
set_option linter.all false
set_option maxRecDepth 100000
set_option maxHeartbeats 2000000
namespace Wk
open PySem PySem.Spec PyProof.Rows L2 Evl
theorem GW.empty {rows : List (List Wy)} (h : ∀ row ∈ rows, row = []) : GW rows := by
  have key : ∀ (i : Nat) (row : List Wy), rows[i]? = some row → row = [] := fun i row e => h row (List.mem_of_getElem? e)
  refine ⟨fun row e => key 0 row e, fun i row e => by rw [key i row e]; exact List.nodup_nil, fun i row e w hw => ?_, fun i row e w hw => ?_⟩
  · rw [key i row e] at hw; cases hw
  · rw [key i row e] at hw; cases hw
/-- a ring that is being planted -/
structure RingI (n many : Nat) (os : List Int) (i : Nat) (rows : List (List Wy)) : Prop where
  len : rows.length = n
  shape : ∀ (j : Nat) (row : List Wy), rows[j]? = some row → row = [] ∨ ∃ (k : Nat) (x y : Int), 1 ≤ k ∧ k ≤ many ∧ os[k]? = some x ∧ os[k % many + 1]? = some y ∧ x = (j : Int) ∧ row = [[x, y, 0], [x, 0]]
  done : ∀ (k : Nat) (x : Int), 1 ≤ k → k ≤ i → os[k]? = some x → ∃ row, rows[x.toNat]? = some row ∧ [x, 0] ∈ row
theorem ring_start {n many : Nat} {os : List Int} {rows : List (List Wy)} (hl : rows.length = n) (h : ∀ row ∈ rows, row = []) : RingI n many os 0 rows :=
  ⟨hl, fun j row e => .inl (h row (List.mem_of_getElem? e)), fun k x h1 h2 => by omega⟩
theorem ring_turn {n many : Nat} {os : List Int} {i : Nat} {rows : List (List Wy)} (ho : OsOk n os) (h : RingI n many os i rows) (hi : i + 1 ≤ many) {x y : Int} (hx : os[i + 1]? = some x) (hy : os[(i + 1) % many + 1]? = some y) : RingI n many os (i + 1) (rows.set x.toNat [[x, y, 0], [x, 0]]) := by
  have rx := ho.rg x (List.mem_of_getElem? hx)
  have hxl : x.toNat < rows.length := by rw [h.len]; omega
  refine ⟨by rw [List.length_set]; exact h.len, fun j row e => ?_, fun k z h1 h2 hz => ?_⟩
  · by_cases c : x.toNat = j
    · subst c
      rw [List.getElem?_set_self hxl] at e
      exact .inr ⟨i + 1, x, y, by omega, hi, hx, hy, by omega, (Option.some.inj e).symm⟩
    · rw [List.getElem?_set_ne c] at e
      exact h.shape j row e
  · by_cases c : k = i + 1
    · subst c
      rw [hx] at hz
      cases hz
      exact ⟨_, List.getElem?_set_self hxl, by simp⟩
    · obtain ⟨row, e1, e2⟩ := h.done k z h1 (by omega) hz
      have rz := ho.rg z (List.mem_of_getElem? hz)
      have ne : x.toNat ≠ z.toNat := fun q => c (ho.ne hz (by rw [hx]; congr 1; omega))
      exact ⟨row, by rw [List.getElem?_set_ne ne]; exact e1, e2⟩
theorem ring_end {n many : Nat} {os : List Int} {rows : List (List Wy)} (ho : OsOk n os) (h2 : 2 ≤ many) (hn : many + 1 ≤ n) (h : RingI n many os many rows) : GW rows ∧ ∀ row ∈ rows, row.length ≤ 2 := by
  have idx : ∀ k, 1 ≤ k → k ≤ many → 1 ≤ k % many + 1 ∧ k % many + 1 ≤ many ∧ k % many + 1 ≠ k := fun k k1 k2 => by
    by_cases c : k = many
    · subst c
      rw [Nat.mod_self]
      omega
    · rw [Nat.mod_eq_of_lt (by omega)]
      omega
  have nz : ∀ (k : Nat) (x : Int), 1 ≤ k → os[k]? = some x → x ≠ 0 := fun k x k1 hx z => by
    rw [z] at hx
    have := ho.ne hx ho.hd
    omega
  refine ⟨⟨fun row e => ?_, fun i row e => ?_, fun i row e w hw => ?_, fun i row e w hw => ?_⟩, fun row hr => ?_⟩
  · rcases h.shape 0 row e with z | ⟨k, x, y, k1, k2, hx, hy, e1, e2⟩
    · exact z
    · exact absurd e1 (nz k x k1 hx)
  · rcases h.shape i row e with z | ⟨k, x, y, k1, k2, hx, hy, e1, e2⟩
    · rw [z]; exact List.nodup_nil
    · rw [e2]
      simp
  · rcases h.shape i row e with z | ⟨k, x, y, k1, k2, hx, hy, e1, e2⟩
    · rw [z] at hw; cases hw
    · obtain ⟨m1, m2, m3⟩ := idx k k1 k2
      have x0 := nz k x k1 hx
      have y0 := nz _ y m1 hy
      have xy : x ≠ y := fun z => m3 (ho.ne hy (by rw [hx, z]))
      have rx := ho.rg x (List.mem_of_getElem? hx)
      have ry := ho.rg y (List.mem_of_getElem? hy)
      rw [h.len]
      rw [e2] at hw
      rcases List.mem_cons.mp hw with z | z
      · rw [z]
        refine ⟨by simp, by simp, by simp [e1], rfl, by simp [xy, x0, y0], fun u hu => ?_⟩
        simp only [List.mem_cons, List.not_mem_nil, or_false] at hu
        rcases hu with rfl | rfl | rfl <;> omega
      · rw [List.mem_singleton.mp z]
        refine ⟨by simp, by simp, by simp [e1], rfl, by simp [x0], fun u hu => ?_⟩
        simp only [List.mem_cons, List.not_mem_nil, or_false] at hu
        rcases hu with rfl | rfl <;> omega
  · rcases h.shape i row e with z | ⟨k, x, y, k1, k2, hx, hy, e1, e2⟩
    · rw [z] at hw; cases hw
    · obtain ⟨m1, m2, m3⟩ := idx k k1 k2
      have ry := ho.rg y (List.mem_of_getElem? hy)
      rw [e2] at hw
      rcases List.mem_cons.mp hw with z | z
      · rw [z]
        obtain ⟨row', r1, r2⟩ := h.done _ y m1 m2 hy
        refine .inr ⟨y.toNat, row', ?_, r1, r2⟩
        show some y = some ((y.toNat : Nat) : Int)
        congr 1
        omega
      · rw [List.mem_singleton.mp z]
        exact .inl rfl
  · obtain ⟨i, hi⟩ := List.mem_iff_getElem?.mp hr
    rcases h.shape i row hi with z | ⟨k, x, y, k1, k2, hx, hy, e1, e2⟩
    · rw [z]; simp
    · rw [e2]; simp
/-- a chain that is being planted -/
def chn (os : List Int) (k : Nat) : Wy := (os.take (k + 1)).reverse
structure ChI (n : Nat) (os : List Int) (i : Nat) (rows : List (List Wy)) : Prop where
  len : rows.length = n
  shape : ∀ (j : Nat) (row : List Wy), rows[j]? = some row → row = [] ∨ ∃ (k : Nat) (x : Int), 1 ≤ k ∧ k ≤ i ∧ os[k]? = some x ∧ x = (j : Int) ∧ row = [chn os k]
  done : ∀ (k : Nat) (x : Int), 1 ≤ k → k ≤ i → os[k]? = some x → rows[x.toNat]? = some [chn os k]
theorem ch_start {n : Nat} {os : List Int} {rows : List (List Wy)} (hl : rows.length = n) (h : ∀ row ∈ rows, row = []) : ChI n os 0 rows :=
  ⟨hl, fun j row e => .inl (h row (List.mem_of_getElem? e)), fun k x h1 h2 => by omega⟩
theorem ch_turn {n : Nat} {os : List Int} {i : Nat} {rows : List (List Wy)} (ho : OsOk n os) (h : ChI n os i rows) {x : Int} (hx : os[i + 1]? = some x) : ChI n os (i + 1) (rows.set x.toNat [chn os (i + 1)]) := by
  have rx := ho.rg x (List.mem_of_getElem? hx)
  have hxl : x.toNat < rows.length := by rw [h.len]; omega
  refine ⟨by rw [List.length_set]; exact h.len, fun j row e => ?_, fun k z h1 h2 hz => ?_⟩
  · by_cases c : x.toNat = j
    · subst c
      rw [List.getElem?_set_self hxl] at e
      exact .inr ⟨i + 1, x, by omega, by omega, hx, by omega, (Option.some.inj e).symm⟩
    · rw [List.getElem?_set_ne c] at e
      rcases h.shape j row e with z | ⟨k, y, k1, k2, r⟩
      · exact .inl z
      · exact .inr ⟨k, y, k1, by omega, r⟩
  · by_cases c : k = i + 1
    · subst c
      rw [hx] at hz
      cases hz
      exact List.getElem?_set_self hxl
    · have e1 := h.done k z h1 (by omega) hz
      have rz := ho.rg z (List.mem_of_getElem? hz)
      have ne : x.toNat ≠ z.toNat := fun q => c (ho.ne hz (by rw [hx]; congr 1; omega))
      rw [List.getElem?_set_ne ne]
      exact e1
theorem chn_len {os : List Int} {k : Nat} (h : k < os.length) : (chn os k).length = k + 1 := by
  unfold chn
  rw [List.length_reverse, List.length_take]
  omega
theorem chn_get {os : List Int} {k i : Nat} (h : k < os.length) (hi : i ≤ k) : (chn os k)[i]? = os[k - i]? := by
  unfold chn
  rw [List.getElem?_reverse (by rw [List.length_take]; omega), List.length_take, Nat.min_eq_left (by omega), List.getElem?_take, if_pos (by omega)]
  congr 1
theorem chn_drop {os : List Int} {k : Nat} (h : k + 1 < os.length) : (chn os (k + 1)).drop 1 = chn os k := by
  have e : os.take (k + 1 + 1) = os.take (k + 1) ++ [os[k + 1]] := by
    rw [List.take_add_one, List.getElem?_eq_getElem h]
    rfl
  unfold chn
  rw [e, List.reverse_append]
  rfl
theorem ch_end {n : Nat} {os : List Int} {i : Nat} {rows : List (List Wy)} (ho : OsOk n os) (h8 : n ≤ 8) (h : ChI n os i rows) : GW rows ∧ ∀ row ∈ rows, row.length ≤ 2 := by
  have nz : ∀ (k : Nat) (x : Int), 1 ≤ k → os[k]? = some x → x ≠ 0 := fun k x k1 hx z => by
    rw [z] at hx
    have := ho.ne hx ho.hd
    omega
  have hol := ho.len
  refine ⟨⟨fun row e => ?_, fun i row e => ?_, fun i row e w hw => ?_, fun i row e w hw => ?_⟩, fun row hr => ?_⟩
  · rcases h.shape 0 row e with z | ⟨k, x, k1, k2, hx, e1, e2⟩
    · exact z
    · exact absurd e1 (nz k x k1 hx)
  · rcases h.shape i row e with z | ⟨k, x, k1, k2, hx, e1, e2⟩
    · rw [z]; exact List.nodup_nil
    · rw [e2]
      simp
  · rcases h.shape i row e with z | ⟨k, x, k1, k2, hx, e1, e2⟩
    · rw [z] at hw; cases hw
    · have hk := (List.getElem?_eq_some_iff.mp hx).1
      rw [h.len]
      rw [e2] at hw
      rw [List.mem_singleton.mp hw]
      refine ⟨by rw [chn_len hk]; omega, by rw [chn_len hk]; omega, by rw [chn_get hk (Nat.zero_le k), Nat.sub_zero, hx, e1], ?_, ?_, fun u hu => ?_⟩
      · rw [List.getLast?_eq_getElem?, chn_len hk, chn_get hk (by omega), show k - (k + 1 - 1) = 0 by omega]
        exact ho.hd
      · unfold chn List.Nodup
        rw [List.pairwise_reverse]
        exact ((List.take_sublist (k + 1) os).nodup ho.nd).imp (fun h e => h e.symm)
      · unfold chn at hu
        exact ho.rg u (List.mem_of_mem_take (List.mem_reverse.mp hu))
  · rcases h.shape i row e with z | ⟨k, x, k1, k2, hx, e1, e2⟩
    · rw [z] at hw; cases hw
    · have hk := (List.getElem?_eq_some_iff.mp hx).1
      rw [e2] at hw
      rw [List.mem_singleton.mp hw]
      obtain ⟨k', rfl⟩ : ∃ k', k = k' + 1 := ⟨k - 1, by omega⟩
      by_cases c : k' = 0
      · subst c
        left
        rw [chn_drop hk]
        cases os with
        | nil => simp at hk
        | cons a l =>
          have := ho.hd
          simp at this
          simp [chn, this]
      · right
        have hk' : k' < os.length := by omega
        have hy : os[k']? = some os[k'] := List.getElem?_eq_getElem hk'
        have ry := ho.rg _ (List.mem_of_getElem? hy)
        refine ⟨(os[k']).toNat, [chn os k'], ?_, h.done k' _ (by omega) (by omega) hy, by rw [chn_drop hk]; exact List.mem_singleton.mpr rfl⟩
        rw [chn_get hk (by omega), show k' + 1 - 1 = k' by omega, hy]
        congr 1
        omega
  · obtain ⟨j, hj⟩ := List.mem_iff_getElem?.mp hr
    rcases h.shape j row hj with z | ⟨k, x, k1, k2, hx, e1, e2⟩
    · rw [z]; simp
    · rw [e2]; simp
theorem chn_range {os : List Int} {i : Nat} (h : 1 + i < os.length) : (List.range (1 + (i : Int) + 1).toNat).map (fun s => os.getD (1 + i - s) 0) = chn os (i + 1) := by
  apply List.ext_getElem?
  intro j
  have e : (1 + (i : Int) + 1).toNat = i + 2 := by omega
  rw [e, List.getElem?_map]
  by_cases c : j < i + 2
  · rw [List.getElem?_range c, chn_get (by omega) (by omega)]
    have hl : 1 + i - j < os.length := by omega
    show some (os.getD (1 + i - j) 0) = os[i + 1 - j]?
    rw [List.getD_eq_getElem?_getD, show i + 1 - j = 1 + i - j by omega, List.getElem?_eq_getElem hl]
    rfl
  · rw [List.getElem?_eq_none (by simp; omega), List.getElem?_eq_none (by rw [chn_len (by omega)]; omega)]
    rfl
section
variable {P : Program} {w : World} {K : PySem.W.Frag} {mg : Str → Option Value} {base : Heap} {f : Addr} {fd : FuncData}
/-! _law_planted -/
def spPlanted : Sp := fun vs H Q _ => ∃ (G : Hp) (p q : Addr) (n : Nat), vs = [.ref p, .int (n : Int)] ∧ Pl G H p q ∧ 2 ≤ n ∧ n ≤ 8 ∧ ∀ G' H' R rs rows, Ex G G' → Pl G' H' p q → Rz G' H' p q R rs rows → rows.length = n → GW rows → (∀ row ∈ rows, row.length ≤ 2) → Q (.ref R) H'
abbrev sPlanted : Stmt := top 35
abbrev nPlanted : List Str := ["_law_pool_here", "_law_size", "_law_lists_here", "_law_kind", "_law_order_here", "_law_many", "_law_k", "_law_router", "_law_step"]
theorem scPlanted : FnScope nPlanted ["_law_pool_here", "_law_size"] (defScope sPlanted) := ⟨rfl, rfl, rfl, by decide +kernel, rfl, by decide +kernel, by decide +kernel⟩
theorem ok_planted (B : Bl mg) (C : Cal P w K mg base "_law_draw" ["_law_pool_here", "_law_size"] 1 spDraw) (C2 : Cal P w K mg base "_law_order" ["_law_pool_here", "_law_size"] 2 spOrder) (F : FnP K "_law_planted" sPlanted f fd) : FnOk P w K mg base CX0 3 f fd ["_law_pool_here", "_law_size"] spPlanted := by
  refine F.ok scPlanted (fun vs H Q E h => ?_) (fun cdv A outer s H vs Q E hr h => ?_)
  · obtain ⟨G, p, q, n, rfl, _⟩ := h
    rfl
  · obtain ⟨G, p, q, n, rfl, hP, hn2, hn8, k⟩ := h
    have hr1 : Room 1 _ := hr.mono (by decide)
    refine ⟨_, pss_cons (ps_setLc (i := 2) (own := [("_law_router", 7)]) (g := gName 7) (tt := tYes) rfl scPlanted.nd rfl rfl (sw_true rfl rfl rfl (by decide +kernel)) (pi_range1 (by rfl) B.range (pa_cons (pv 1) pa_nil)) (blkOk_by (N := nPlanted) (sc := defScope sPlanted) (by decide +kernel))
          (fun _ _ _ _ _ => pg_name (i := 7) scPlanted.nd rfl (Or.inl rfl)) (fun _ _ _ _ _ => pts_nil) (fun _ _ _ _ _ => pe_lst pa_nil))
      (pss_cons (ps_set (i := 3) scPlanted.nd rfl (Or.inl rfl) (pe_cal C hr1 (by rfl) (pa_cons (pv 0) (pa_cons pe_int pa_nil))))
      (pss_cons (ps_set (i := 4) scPlanted.nd rfl (Or.inr rfl) (pe_cal C2 hr (by rfl) (pa_cons (pv 0) (pa_cons (pv 1) pa_nil))))
      (pss_cut (ps_if (PW.pt (pw_and (pt_cmpR op_lt (pv 3) pe_int (nomark _)) (pw_and1 (pt_cmpR op_gt (pv 1) pe_int (nomark _)))))
          (pss_cons (ps_set (i := 5) scPlanted.nd rfl (Or.inl rfl) (pe_op op_add pe_int (pe_cal C hr1 (by rfl) (pa_cons (pv 0) (pa_cons (pe_callB (call_min2 rfl) (by rfl) B.min boot_min (pa_cons pe_int (pa_cons (pe_op op_sub (pv 1) pe_int) pa_nil))) pa_nil)))))
            (pss_one (ps_for (passes_of rfl) rfl (pi_range2 (by rfl) B.range (pa_cons pe_int (pa_cons (pe_op op_add (pv 5) pe_int) pa_nil))) (pg_name (i := 6) scPlanted.nd rfl (Or.inr rfl))
              (pss_one (ps_asg (pe_lst (pa_cons (pe_tup (pa_cons (pe_ix ix_list (pv 4) (pv 6) (fun _ _ => rfl)) (pa_cons (pe_ix ix_list (pv 4) (pe_op op_add (pe_op op_mod (pv 6) (pv 5)) pe_int) (fun _ _ => rfl)) (pa_cons pe_int pa_nil)))) (pa_cons (pe_tup (pa_cons (pe_ix ix_list (pv 4) (pv 6) (fun _ _ => rfl)) (pa_cons pe_int pa_nil))) pa_nil)))
                (pg_sub (pv 2) (pe_ix ix_list (pv 4) (pv 6) (fun _ _ => rfl)) set_list)))))) pss_nil)
      (pss_cut (ps_if (pt_cmpR op_eq (pv 3) pe_int (nomark _))
          (pss_one (ps_for (passes_of rfl) rfl (pi_range2 (by rfl) B.range (pa_cons pe_int (pa_cons (pv 1) pa_nil))) (pg_name (i := 6) scPlanted.nd rfl (Or.inr rfl))
            (pss_one (ps_asg (pe_lst (pa_cons (pe_callTy call_tuple_of (by rfl) B.tuple PyProof.Rows.boot_tuple (pa_cons (pe_lc (own := [("_law_step", 8)]) (g := gName 8) (tt := tYes) rfl scPlanted.nd (pi_range1 (by rfl) B.range (pa_cons (pe_op op_add (pv 6) pe_int) pa_nil)) (blkOk_by (N := nPlanted) (sc := defScope sPlanted) (by decide +kernel))
                (fun _ _ _ _ _ => pg_name (i := 8) scPlanted.nd rfl (Or.inl rfl)) (fun _ _ _ _ _ => pts_nil) (fun _ _ _ _ _ => pe_ix (ix_listK (K := K) rfl) (pv 4) (pe_op op_sub (pv 6) (pv 8)) (fun _ _ => rfl))) pa_nil)) pa_nil))
              (pg_sub (pv 2) (pe_ix ix_list (pv 4) (pv 6) (fun _ _ => rfl)) set_list))))) pss_nil)
      (pss_one (ps_ret (pv 2))))))), ?_⟩
    refine ⟨.int (n : Int), rfl, (n : Int), rfl, by omega, by omega, fun R hR => lc_range (lo := 0) (n := (n : Int).toNat) (fun i H' => ∃ rs : List Addr, Ex H H' ∧ H' R = some (.lst (rs.map V.ref)) ∧ rs.length = i ∧ R ∉ rs ∧ rs.Nodup ∧ ∀ r ∈ rs, H r = none ∧ H' r = some (.lst [])) ⟨[], Ex.new hR, upd_same, rfl, by simp, List.nodup_nil, by simp⟩ ?_ ?_⟩
    · rintro i H' hi ⟨rs, e, hRl, hl, hnin, hnd, hrow⟩
      refine ⟨rfl, Nat.zero_le _, fun b hb => ?_⟩
      have nRb : R ≠ b := ne_of_none hRl hb
      have hbn : b ∉ rs := fun z => by
        have := (hrow b z).2
        rw [hb] at this
        cases this
      refine ⟨_, by rw [upd_ne nRb]; exact hRl, by rw [List.length_map, sizeLine_eq]; omega, rs ++ [b], fun c o hc => ?_, by rw [upd_same, List.map_append]; rfl, by simp [hl], fun z => ?_, nd_snoc hnd hbn, fun r hr => ?_⟩
      · have h1 := e _ _ hc
        rw [upd_ne (ne_of_none hc hR), upd_ne (ne_of_none h1 hb)]
        exact h1
      · rcases List.mem_append.mp z with z | z
        · exact hnin z
        · exact nRb (List.mem_singleton.mp z)
      · rcases List.mem_append.mp hr with z | z
        · obtain ⟨r1, r2⟩ := hrow r z
          have nr : r ≠ R := fun c => hnin (by rw [← c]; exact z)
          exact ⟨r1, by rw [upd_ne nr, upd_ne (ne_of_none r2 hb)]; exact r2⟩
        · rw [List.mem_singleton.mp z]
          exact ⟨fresh_back e hb, by rw [upd_ne (Ne.symm nRb), upd_same]⟩
    rintro H1 ⟨rs, e1, hRl, hrl, hnin, hnd, hrow⟩
    have hrl' : rs.length = n := by omega
    have hP1 := hP.ext e1
    have hW1 : Rz G H1 p q R rs (List.replicate n []) := ⟨hRl, fresh_back hP.ex hR, hP.np hR, hP.nq hR, hnin, hnd, by rw [hrl', List.length_replicate], fun i r row hr hw => by
      have hm := hrow r (List.mem_of_getElem? hr)
      have er : row = [] := (List.mem_replicate.mp (List.mem_of_getElem? hw)).2
      subst er
      exact ⟨fresh_back hP.ex hm.1, hP.np hm.1, hP.nq hm.1, [], hm.2, .nil⟩⟩
    have hE0 : ∀ row ∈ List.replicate n ([] : List Wy), row = [] := fun row hm => (List.mem_replicate.mp hm).2
    refine ⟨.ref p, rfl, Hd H1 p q, p, q, 5, rfl, hP1.hd, by decide, by decide, fun H2 kd hP0 hk0 hk1 => ?_⟩
    have hP2 := hP1.back hP0
    have hW2 := hW1.off hP0.off
    refine ⟨.ref p, rfl, .int (n : Int), rfl, Hd H2 p q, p, q, n, rfl, hP2.hd, hn2, hn8, fun H3 a os hP00 hO3 ha h3 ho => ?_⟩
    have hP3 := hP2.back hP00
    have hW3 := hW2.off hP00.off
    have nap := hP2.np ha
    have naq := hP2.nq ha
    have gaN := fresh_back hP2.ex ha
    -- the order stays from now on
    have hP4 : Pl (upd G a (.lst (os.map V.int))) H3 p q := hP3.hold h3 nap naq
    have eG : Ex G (upd G a (.lst (os.map V.int))) := Ex.new gaN
    have hW4 : Rz (upd G a (.lst (os.map V.int))) H3 p q R rs (List.replicate n []) := hW3.grow eG (by rw [upd_ne (ne_of_none hW2.at_ ha)]; exact hW2.gR) (fun r hr => by
      obtain ⟨g, _, _, vs, h1⟩ := hW2.mem hr
      rw [upd_ne (ne_of_none h1 ha)]
      exact g)
    generalize hG1 : upd G a (.lst (os.map V.int)) = G1 at *
    have hGa : G1 a = some (.lst (os.map V.int)) := by rw [← hG1]; exact upd_same
    have hol := ho.len
    clear hP00 hP0 hO3 hW3 hP3 hW2 hP2 hW1 hP1
    refine ⟨fun σ' H' => ∃ (G' : Hp) (rs' : List Addr) (rows : List (List Wy)) (o5 o6 : Option V), σ' = [some (.ref p), some (.int (n : Int)), some (.ref R), some (.int kd), some (.ref a), o5, o6, none, none] ∧ Ex G1 G' ∧ Pl G' H' p q ∧ Rz G' H' p q R rs' rows ∧ rows.length = n ∧ ((kd < 2 ∧ GW rows ∧ ∀ row ∈ rows, row.length ≤ 2) ∨ ∀ row ∈ rows, row = []), ?_, ?_⟩
    · change tIfS _ _ _ _ [some (.ref p), some (.int (n : Int)), some (.ref R), some (.int kd), some (.ref a), none, none, none, none] H3
      refine s_when (b := decide (kd < 2) && decide ((n : Int) > 2)) (et_and (et_test (ev_op (ev_var rfl) ev_c rv_I0)) fun _ => et_test (ev_op (ev_var rfl) ev_c rv_I0)) (fun hb H4 e4 => ?_) (fun hb H4 e4 => ⟨G1, rs, _, none, none, rfl, Ex.refl _, hP4.ext e4, hW4.ext e4, by simp, .inr hE0⟩)
      have hn3 : 2 < n ∧ kd < 2 := by simp at hb; omega
      have hP5 := hP4.ext e4
      have hW5 := hW4.ext e4
      refine ⟨.ref p, rfl, .int (n : Int), rfl, (n : Int), 2, rfl, rfl, 3, (n : Int) - 2, rfl, Hd H4 p q, p, q, _, rfl, hP5.hd, ?_, ?_, fun H5 y hP0 hy0 hy1 => ⟨2, y, rfl, rfl, ?_⟩⟩
      · split <;> omega
      · split <;> omega
      have hy2 : 2 + y + 1 ≤ n := by split at hy1 <;> omega
      have hP6 := hP5.back hP0
      have hW6 := hW5.off hP0.off
      refine g_name ?_
      obtain ⟨many, hmany⟩ : ∃ m : Nat, (2 : Int) + y = (m : Int) := ⟨(2 + y).toNat, by omega⟩
      refine s_forR2 (ea_cons ev_c (ea_cons (ev_op (ev_var rfl) ev_c rv_I0) ea_nil)) (by omega) (fun i σ' H' => ∃ (G' : Hp) (rs' : List Addr) (rows : List (List Wy)) (o6 : Option V), σ' = [some (.ref p), some (.int (n : Int)), some (.ref R), some (.int kd), some (.ref a), some (.int (2 + y)), o6, none, none] ∧ Ex G1 G' ∧ Pl G' H' p q ∧ Rz G' H' p q R rs' rows ∧ RingI n many os i rows) (fun H6 e6 => ⟨G1, rs, _, none, rfl, Ex.refl _, hP6.ext e6, hW6.ext e6, ring_start (by simp) hE0⟩) ?_ (fun σ' H' ⟨G', rs', rows, o6, e, h1, h2, h3, h4⟩ => by
        rw [show (2 + y + 1 - 1).toNat = many by omega] at h4
        exact ⟨G', rs', rows, _, o6, e, h1, h2, h3, h4.len, .inl ⟨hn3.2, ring_end ho (by omega) (by omega) h4⟩⟩)
      rintro i σ' H6 hi ⟨G', rs', rows, o6, rfl, eG', hP7, hW7, hI⟩
      change tAsg _ _ _ [some (.ref p), some (.int (n : Int)), some (.ref R), some (.int kd), some (.ref a), some (.int (2 + y)), some (.int (1 + (i : Int))), none, none] H6
      have hA : H6 a = some (.lst (os.map V.int)) := hP7.ex _ _ (eG' _ _ hGa)
      have hk1' : 1 + i < os.length := by omega
      have at1 : atI (os.map V.int) (1 + (i : Int)) = some (.int os[1 + i]) := by
        have q := at_ints hk1'
        rw [show ((1 + i : Nat) : Int) = 1 + (i : Int) by omega] at q
        exact q
      have hmn : (i + 1) % many < many := Nat.mod_lt _ (by omega)
      have hjl : (i + 1) % many + 1 < os.length := by omega
      have hj : (1 + (i : Int)) % (2 + y) + 1 = (((i + 1) % many + 1 : Nat) : Int) := by
        rw [hmany, show (1 : Int) + (i : Int) = ((i + 1 : Nat) : Int) by omega, ← Int.natCast_emod]
        omega
      have at2 : atI (os.map V.int) ((1 + (i : Int)) % (2 + y) + 1) = some (.int os[(i + 1) % many + 1]) := by rw [hj]; exact at_ints hjl
      have ho1 : os[i + 1]? = some os[1 + i] := by rw [show i + 1 = 1 + i by omega]; exact List.getElem?_eq_getElem hk1'
      have ho2 : os[(i + 1) % many + 1]? = some os[(i + 1) % many + 1] := List.getElem?_eq_getElem hjl
      have hx := ho.rg os[1 + i] (List.getElem_mem hk1')
      have hIt := ring_turn ho hI (by omega) ho1 ho2
      generalize os[1 + i] = x1 at *
      generalize os[(i + 1) % many + 1] = x2 at *
      refine ⟨.ref a, rfl, .int (1 + (i : Int)), rfl, a, _, _, .int x1, rfl, rfl, sq_of hA, at1, .ref a, rfl, .int (1 + (i : Int)), rfl, .int (2 + y), rfl, _, _, rfl, rfl, (show (0 : Int) < 2 + y by omega), _, 1, rfl, rfl, a, _, _, .int x2, rfl, rfl, sq_of hA, at2, by show 3 ≤ sizeLine; decide, fun t1 ht1 => ?_⟩
      have n1 : a ≠ t1 := ne_of_none hA ht1
      refine ⟨.ref a, rfl, .int (1 + (i : Int)), rfl, a, _, _, .int x1, rfl, rfl, sq_of (by rw [upd_ne n1]; exact hA), at1, by show 2 ≤ sizeLine; decide, fun t2 ht2 => ⟨by show 2 ≤ sizeLine; decide, fun b hb => ?_⟩⟩
      have gt1 := fresh_back hP7.ex ht1
      have hP8 := hP7.new (o := .tup [.int x1, .int x2, .int 0]) ht1
      have hW8 := hW7.new (o := .tup [.int x1, .int x2, .int 0]) ht1 gt1
      have gt2 := fresh_back hP8.ex ht2
      have hP9 := hP8.new (o := .tup [.int x1, .int 0]) ht2
      have hW9 := hW8.new (o := .tup [.int x1, .int 0]) ht2 gt2
      have hA9 := hP9.ex _ _ ((Ex.new gt2) _ _ ((Ex.new gt1) _ _ (eG' _ _ hGa)))
      have n12 : t1 ≠ t2 := fun z => by rw [← z, upd_same] at ht2; cases ht2
      have hdq : DqA (upd (upd G' t1 (.tup [.int x1, .int x2, .int 0])) t2 (.tup [.int x1, .int 0])) [.ref t1, .ref t2] ([[x1, x2, 0], [x1, 0]].map wd) :=
        .cons (.tup (by rw [upd_ne n12, upd_same]; rfl) (DqA.ints [x1, x2, 0])) (.cons (.tup upd_same (DqA.ints [x1, 0])) .nil)
      have hrn := hI.len
      obtain ⟨f1, f2⟩ := Rz.put (i := x1.toNat) hP9 hW9 (by omega) hb hdq
      have eb := Ex.new (o := .lst [V.ref t1, V.ref t2]) hb
      refine ⟨.ref R, rfl, .ref a, rfl, .int (1 + (i : Int)), rfl, a, _, _, .int x1, rfl, rfl, sq_of (eb _ _ hA9), at1, R, _, x1, x1.toNat, rfl, rfl, eb _ _ hW9.at_, by rw [List.length_map, hW7.len, hrn]; exact ixNat hx.1 hx.2, ?_⟩
      exact ⟨_, rs'.set x1.toNat b, _, _, rfl, (eG'.trans (Ex.new gt1)).trans (Ex.new gt2), f1, f2, hIt⟩
    · rintro σ' H4 ⟨G', rs', rows, o5, o6, rfl, eG', hP5, hW5, hrl5, hC⟩
      refine ⟨fun σ' H' => ∃ (G' : Hp) (rs' : List Addr) (rows : List (List Wy)) (o5 o6 : Option V), σ' = [some (.ref p), some (.int (n : Int)), some (.ref R), some (.int kd), some (.ref a), o5, o6, none, none] ∧ Ex G1 G' ∧ Pl G' H' p q ∧ Rz G' H' p q R rs' rows ∧ rows.length = n ∧ GW rows ∧ ∀ row ∈ rows, row.length ≤ 2, ?_, ?_⟩
      · refine s_when (b := decide (V.int kd = V.int 2)) (et_test (ev_op (ev_var rfl) ev_c (rv_eq rfl))) (fun hb H5 e5 => ?_) (fun hb H5 e5 => ⟨G', rs', rows, o5, o6, rfl, eG', hP5.ext e5, hW5.ext e5, hrl5, ?_⟩)
        rotate_left
        · rcases hC with z | z
          · exact z.2
          · exact ⟨GW.empty z, fun row hm => by rw [z row hm]; simp⟩
        have hE : ∀ row ∈ rows, row = [] := by
          have : kd = 2 := by have := of_decide_eq_true hb; injection this
          rcases hC with z | z
          · omega
          · exact z
        refine s_forR2 (ea_cons ev_c (ea_cons (ev_var rfl) ea_nil)) (by omega) (fun i σ' H' => ∃ (G' : Hp) (rs' : List Addr) (rows : List (List Wy)) (o5 o6 : Option V), σ' = [some (.ref p), some (.int (n : Int)), some (.ref R), some (.int kd), some (.ref a), o5, o6, none, none] ∧ Ex G1 G' ∧ Pl G' H' p q ∧ Rz G' H' p q R rs' rows ∧ ChI n os i rows) (fun H6 e6 => ⟨G', rs', rows, o5, o6, rfl, eG', (hP5.ext e5).ext e6, (hW5.ext e5).ext e6, ch_start hrl5 hE⟩) ?_ (fun σ' H' ⟨G', rs', rows, o5, o6, e, h1, h2, h3, h4⟩ => ⟨G', rs', rows, o5, o6, e, h1, h2, h3, h4.len, ch_end ho hn8 h4⟩)
        clear hP5 hW5 hrl5 eG' hC hE
        rintro i σ' H6 hi ⟨G', rs', rows, o5, o6, rfl, eG', hP7, hW7, hI⟩
        change tAsg _ _ _ [some (.ref p), some (.int (n : Int)), some (.ref R), some (.int kd), some (.ref a), o5, some (.int (1 + (i : Int))), none, none] H6
        have hA : H6 a = some (.lst (os.map V.int)) := hP7.ex _ _ (eG' _ _ hGa)
        have hk1' : 1 + i < os.length := by omega
        have at1 : atI (os.map V.int) (1 + (i : Int)) = some (.int os[1 + i]) := by
          have q := at_ints hk1'
          rw [show ((1 + i : Nat) : Int) = 1 + (i : Int) by omega] at q
          exact q
        have ho1 : os[i + 1]? = some os[1 + i] := by rw [show i + 1 = 1 + i by omega]; exact List.getElem?_eq_getElem hk1'
        have hx := ho.rg os[1 + i] (List.getElem_mem hk1')
        have hIt := ch_turn ho hI ho1
        generalize os[1 + i] = x1 at *
        have hlc := el_lcR1 (j := 8) (vs := [8]) (σ := [some (.ref p), some (.int (n : Int)), some (.ref R), some (.int kd), some (.ref a), o5, some (.int (1 + (i : Int))), none, none]) (H := H6) (t := tYes) (te := tOp (rIxL K) (tVar 4) (tOp (rI0 fun i j => .int (i - j)) (tVar 6) (tVar 8))) (ta := tCons (tOp (rI0 fun i j => .int (i + j)) (tVar 6) (tC (.int 1))) tNil) (n := 1 + (i : Int) + 1)
          (fun _ => true) (fun s => .int (os.getD (1 + i - s) 0)) (ea_cons (ev_op (ev_var rfl) ev_c rv_I0) ea_nil) (by omega) (fun x => rfl) (fun _ _ _ _ => et_yes) (fun s H7 e7 hs _ => by
            have hsl : 1 + i - s < os.length := by omega
            have q := at_ints hsl
            rw [show ((1 + i - s : Nat) : Int) = 1 + (i : Int) - (s : Int) by omega] at q
            rw [show os.getD (1 + i - s) 0 = os[1 + i - s] by rw [List.getD_eq_getElem?_getD, List.getElem?_eq_getElem hsl]; rfl]
            exact ev_op (ev_var rfl) (ev_op (ev_var rfl) (ev_var rfl) rv_I0) (rv_ixL (sq_of (e7 _ _ hA)) q))
        rw [given_all] at hlc
        have hlc2 : (List.range (1 + (i : Int) + 1).toNat).map (fun s => V.int (os.getD (1 + i - s) 0)) = (chn os (i + 1)).map V.int := by
          rw [← chn_range hk1', List.map_map]
          rfl
        rw [hlc2] at hlc
        refine asg_lst1 (cb1 (hlc H6 (Ex.refl H6) _ fun d1 H7 hd1 e7 hd7 => ?_))
        refine ⟨d1, _, rfl, .inl ⟨sq_of hd7, fun t1 ht1 => ⟨by show 1 ≤ sizeLine; decide, fun b hb => ?_⟩⟩⟩
        have hP8 := hP7.ext e7
        have hW8 := hW7.ext e7
        have gt1 := fresh_back hP8.ex ht1
        have hP9 := hP8.new (o := .tup ((chn os (i + 1)).map V.int)) ht1
        have hW9 := hW8.new (o := .tup ((chn os (i + 1)).map V.int)) ht1 gt1
        have hA9 := hP9.ex _ _ ((Ex.new gt1) _ _ (eG' _ _ hGa))
        have hdq : DqA (upd G' t1 (.tup ((chn os (i + 1)).map V.int))) [.ref t1] ([chn os (i + 1)].map wd) := .cons (.tup upd_same (DqA.ints (chn os (i + 1)))) .nil
        have hrn := hI.len
        obtain ⟨f1, f2⟩ := Rz.put (i := x1.toNat) hP9 hW9 (by omega) hb hdq
        have eb := Ex.new (o := .lst [V.ref t1]) hb
        refine ⟨.ref R, rfl, .ref a, rfl, .int (1 + (i : Int)), rfl, a, _, _, .int x1, rfl, rfl, sq_of (eb _ _ hA9), at1, R, _, x1, x1.toNat, rfl, rfl, eb _ _ hW9.at_, by rw [List.length_map, hW7.len, hrn]; exact ixNat hx.1 hx.2, ?_⟩
        exact ⟨_, rs'.set x1.toNat b, _, _, _, rfl, eG'.trans (Ex.new gt1), f1, f2, hIt⟩
      · rintro σ' H5 ⟨G', rs', rows, o5, o6, rfl, eG', hP6, hW6, hrl6, hG, h2⟩
        exact ⟨.ref R, rfl, k G' H5 R rs' rows (eG.trans eG') hP6 hW6 hrl6 hG h2⟩
end
end Wk

set_option Elab.async false
set_option linter.all false
set_option maxRecDepth 100000
set_option maxHeartbeats 2000000
namespace Wk
open PySem PySem.Spec PyProof.Rows L2 Evl
theorem lay_wds (ws : List Wy) : PyData.canLayAll0 (ws.map wd) = true := layAll.mpr fun d hd => by
  obtain ⟨w, _, rfl⟩ := List.mem_map.mp hd
  simp [wd, PyData.canLay0, lay_ints]
theorem dep_wds (ws : List Wy) : PyData.depthAll (ws.map wd) ≤ 1 := depAll.mpr fun d hd => by
  obtain ⟨w, _, rfl⟩ := List.mem_map.mp hd
  simp [wd, PyData.depth, depth_ints]
theorem shaped_wds (ws : List Wy) : SeqAt.shaped (.list (ws.map wd)) = true := by
  unfold SeqAt.shaped
  have h1 := lay_wds ws
  have h2 := dep_wds ws
  have : decide ((PyData.list (ws.map wd)).depth ≤ 64) = true := decide_eq_true (by simp only [PyData.depth]; omega)
  rw [this]
  simp [PyData.canLay0, h1]
theorem any_wd (ws : List Wy) (x : Wy) : ((ws.map wd).any fun z => PyData.eqv z (wd x)) = decide (x ∈ ws) := by
  induction ws with
  | nil => rfl
  | cons a l ih =>
    rw [List.map_cons, List.any_cons, ih, eqv_wd]
    by_cases h : a = x
    · subst h; simp
    · rw [decide_eq_false h, Bool.false_or, decide_eq_decide]
      constructor
      · exact fun z => List.mem_cons_of_mem _ z
      · intro z
        rcases List.mem_cons.mp z with e | e
        · exact absurd e.symm h
        · exact e
theorem DqA.wds_inv {G : Hp} : ∀ {ws : List Wy} {vs : List V} {i : Nat} {v : V}, DqA G vs (ws.map wd) → vs[i]? = some v → ∃ w, ws[i]? = some w ∧ Dq G v (wd w) := fun {ws vs i v} h e => by
  obtain ⟨d, e1, e2⟩ := h.get e
  rw [List.getElem?_map] at e1
  cases hw : ws[i]? with
  | none => rw [hw] at e1; cases e1
  | some w =>
    rw [hw] at e1
    cases e1
    exact ⟨w, rfl, e2⟩
theorem wd_ref {G : Hp} {v : V} {w : Wy} (h : Dq G v (wd w)) : ∃ a, v = .ref a ∧ G a = some (.tup (w.map V.int)) := by
  unfold wd at h
  cases h with
  | tup h1 h2 => exact ⟨_, rfl, by rw [h1, h2.int_inv]⟩
theorem wd_of {G : Hp} {a : Addr} {w : Wy} (h : G a = some (.tup (w.map V.int))) : Dq G (.ref a) (wd w) := .tup h (DqA.ints w)
/-- what may stand behind a new router -/
def Bs (rows : List (List Wy)) (b : Wy) : Prop := b = [0] ∨ ∃ (j : Nat) (row' : List Wy), rows[j]? = some row' ∧ b ∈ row'
section
variable {P : Program} {w : World} {K : PySem.W.Frag} {mg : Str → Option Value} {base : Heap} {f : Addr} {fd : FuncData}
/-! _law_add -/
def spAdd : Sp := fun vs H Q _ => ∃ (G : Hp) (p q R : Addr) (rs : List Addr) (rows : List (List Wy)) (L : Nat) (cap : Int), vs = [.ref p, .ref R, .int (L : Int), .int cap] ∧ Pl G H p q ∧ Rz G H p q R rs rows ∧ 2 ≤ rows.length ∧ rows.length ≤ 8 ∧ L ≤ 6 ∧ GW rows ∧ (∀ row ∈ rows, row.length ≤ L) ∧
  ∀ G' H' rows', Ex G G' → Pl G' H' p q → Rz G' H' p q R rs rows' → rows'.length = rows.length → GW rows' → (∀ row ∈ rows', row.length ≤ L) → Q .non H'
abbrev sAdd : Stmt := top 36
abbrev nAdd : List Str := ["_law_pool_here", "_law_lists_here", "_law_limit", "_law_cap", "_law_bases", "_law_takings", "_law_row", "_law_router", "_law_base", "_law_place", "_law_way"]
theorem scAdd : FnScope nAdd ["_law_pool_here", "_law_lists_here", "_law_limit", "_law_cap"] (defScope sAdd) := ⟨rfl, rfl, rfl, by decide +kernel, rfl, by decide +kernel, by decide +kernel⟩
theorem ok_add (B : Bl mg) (C : Cal P w K mg base "_law_draw" ["_law_pool_here", "_law_size"] 1 spDraw) (F : FnP K "_law_add" sAdd f fd) : FnOk P w K mg base CX0 2 f fd ["_law_pool_here", "_law_lists_here", "_law_limit", "_law_cap"] spAdd := by
  refine F.ok scAdd (fun vs H Q E h => ?_) (fun cdv A outer s H vs Q E hr h => ?_)
  · obtain ⟨G, p, q, R, rs, rows, L, cap, rfl, _⟩ := h
    rfl
  · obtain ⟨G, p, q, R, rs, rows, L, cap, rfl, hP, hW, hn2, hn8, hL, hG, hrl, k⟩ := h
    have hu : (A.deeper (envOfC "_law_add" (defScope sAdd) s.heap.objs.size f cdv)).units + 65 < cLine := by have := hr.un; omega
    refine ⟨_, pss_cons (ps_set (i := 4) scAdd.nd rfl (Or.inl rfl) (pe_lst (pa_cons (pe_tup (pa_cons pe_int pa_nil)) pa_nil)))
      (pss_cons (ps_set (i := 5) scAdd.nd rfl (Or.inl rfl) pe_int)
      (pss_cons (ps_for (passes_of rfl) rfl (pi_list (pv 1)) (pg_name (i := 6) scAdd.nd rfl (Or.inl rfl))
        (pss_cons (ps_set (i := 4) scAdd.nd rfl (Or.inl rfl) (pe_op op_cat (pv 4) (pv 6)))
          (pss_one (ps_set (i := 5) scAdd.nd rfl (Or.inl rfl) (pe_op op_mul (pv 5) (pe_op op_add (pe_callB call_len_seq (by rfl) B.len PySem.boot_len (pa_cons (pv 6) pa_nil)) pe_int))))))
      (pss_cons (ps_set (i := 7) scAdd.nd rfl (Or.inl rfl) (pe_op op_add pe_int (pe_cal C hr (by rfl) (pa_cons (pv 0) (pa_cons (pe_op op_sub (pe_callB call_len_seq (by rfl) B.len PySem.boot_len (pa_cons (pv 1) pa_nil)) pe_int) pa_nil)))))
      (pss_cons (ps_set (i := 8) scAdd.nd rfl (Or.inl rfl) (pe_ix ix_list (pv 4) (pe_cal C hr (by rfl) (pa_cons (pv 0) (pa_cons (pe_callB call_len_seq (by rfl) B.len PySem.boot_len (pa_cons (pv 4) pa_nil)) pa_nil))) (fun _ _ => rfl)))
      (pss_cons (ps_set (i := 6) scAdd.nd rfl (Or.inl rfl) (pe_ix ix_list (pv 1) (pv 7) (fun _ _ => rfl)))
      (pss_cons (ps_set (i := 9) scAdd.nd rfl (Or.inl rfl) (pe_cal C hr (by rfl) (pa_cons (pv 0) (pa_cons (pe_op op_add (pe_callB call_len_seq (by rfl) B.len PySem.boot_len (pa_cons (pv 6) pa_nil)) pe_int) pa_nil))))
      (pss_cons (ps_if (PW.pt (pw_or (pt_cmpR op_in_seq (pv 7) (pv 8) rfl) (pw_or (pt_cmpR op_gt (pe_callB call_len_seq (by rfl) B.len PySem.boot_len (pa_cons (pv 8) pa_nil)) pe_int (nomark _)) (pw_or1 (pt_cmpR op_ge (pe_callB call_len_seq (by rfl) B.len PySem.boot_len (pa_cons (pv 6) pa_nil)) (pv 2) (nomark _)))))) (pss_one ps_retN) pss_nil)
      (pss_cons (ps_set (i := 10) scAdd.nd rfl (Or.inl rfl) (pe_op op_catA (pe_tup (pa_cons (pv 7) pa_nil)) (pv 8)))
      (pss_one (ps_if (PW.pt (pw_and (pt_cmpR (op_notInD hu) (pv 10) (pv 6) rfl) (pw_and1 (pt_cmpR op_le (pe_op op_mul (pe_op op_fdiv (pv 5) (pe_op op_add (pe_callB call_len_seq (by rfl) B.len PySem.boot_len (pa_cons (pv 6) pa_nil)) pe_int)) (pe_op op_add (pe_callB call_len_seq (by rfl) B.len PySem.boot_len (pa_cons (pv 6) pa_nil)) pe_int)) (pv 3) (nomark _)))))
          (pss_one (ps_expr (pe_bm PySem.F.plainAttrs_list PySem.F.slot_list_insert PySem.F.type_list_insert mt_insert (pv 6) (pa_cons (pv 9) (pa_cons (pv 10) pa_nil))))) pss_nil)))))))))), ?_⟩
    refine ⟨by show 1 ≤ sizeLine; decide, fun t0 ht0 => ⟨by show 1 ≤ sizeLine; decide, fun b0 hb0 => ?_⟩⟩
    have gt0 := fresh_back hP.ex ht0
    have hP1 := hP.new (o := .tup [.int 0]) ht0
    have hW1 := hW.new (o := .tup [.int 0]) ht0 gt0
    have eG : Ex G (upd G t0 (.tup [.int 0])) := Ex.new gt0
    have eb := Ex.new (o := .lst [V.ref t0]) hb0
    have hd0 : DqA (upd G t0 (.tup [.int 0])) [.ref t0] ([[0]].map wd) := .cons (.tup upd_same (DqA.ints [0])) .nil
    generalize upd G t0 (.tup [.int 0]) = G1 at *
    have hP2 := hP1.ext eb
    have hW2 := hW1.ext eb
    refine g_name (q_c ?_)
    refine q_forL (K := K) (ev_var rfl) (sq_of hW2.at_) (fun i σ' H' => ∃ (b : Addr) (bs : List V) (ws : List Wy) (tk : Int) (o : Option V), σ' = [some (.ref p), some (.ref R), some (.int (L : Int)), some (.int cap), some (.ref b), some (.int tk), o, none, none, none, none] ∧ Pl G1 H' p q ∧ Rz G1 H' p q R rs rows ∧ H' b = some (.lst bs) ∧ b ≠ p ∧ b ≠ q ∧ DqA G1 bs (ws.map wd) ∧ (∀ b ∈ ws, Bs rows b) ∧ 1 ≤ ws.length ∧ ws.length ≤ 1 + 6 * i)
      (fun H3 e3 => ⟨b0, _, [[0]], 1, none, rfl, hP2.ext e3, hW2.ext e3, e3 _ _ upd_same, hP1.np hb0, hP1.nq hb0, hd0, fun d hd => .inl (List.mem_singleton.mp hd), by simp, by simp⟩) (fun i σ' H' _ p => by
        obtain ⟨_, _, _, _, _, _, _, h, _⟩ := p
        exact sq_of h.at_) ?_ ?_
    · rintro i x σ' H3 hx ⟨b, bs, ws, tk, o, rfl, hP3, hW3, hb, nbp, nbq, hd, hdi, hd1, hdl⟩
      obtain ⟨r, hr1, rfl⟩ : ∃ r, rs[i]? = some r ∧ x = V.ref r := by
        rw [List.getElem?_map] at hx
        cases hq : rs[i]? with
        | none => rw [hq] at hx; cases hx
        | some r => rw [hq] at hx; exact ⟨r, rfl, (Option.some.inj hx).symm⟩
      have hil : i < rs.length := (List.getElem?_eq_some_iff.mp hr1).1
      have hil2 : i < rows.length := by rw [← hW3.len]; exact hil
      have hrw : rows[i]? = some rows[i] := List.getElem?_eq_getElem hil2
      obtain ⟨gr, rp, rq, vs, h1, h2⟩ := hW3.row i r _ hr1 hrw
      have hl2 := hrl _ (List.getElem_mem hil2)
      generalize rows[i] = row at *
      have lb := hd.length
      have lv := h2.length
      rw [List.length_map] at lb lv
      refine g_name ?_
      refine ⟨.ref b, rfl, .ref r, rfl, b, r, bs, vs, rfl, rfl, hb, h1, by rw [sizeLine_eq]; omega, fun b2 hb2 => ?_⟩
      have e2 := Ex.new (o := .lst (bs ++ vs)) hb2
      refine ⟨.int tk, rfl, .ref r, rfl, r, vs, rfl, .inl (sq_of (e2 _ _ h1)), _, 1, rfl, rfl, tk, _, rfl, rfl, .inr ⟨by omega, by omega⟩, ?_⟩
      exact ⟨b2, _, ws ++ row, _, _, rfl, hP3.ext e2, hW3.ext e2, upd_same, hP3.np hb2, hP3.nq hb2, by rw [List.map_append]; exact hd.append h2, fun d hx => (List.mem_append.mp hx).elim (hdi d) (fun z => .inr ⟨i, row, hrw, z⟩), by simp; omega, by simp; omega⟩
    · rintro σ' H3 ⟨b, bs, ws, tk, o, rfl, hP3, hW3, hb, nbp, nbq, hd, hdi, hd1, hdl⟩
      have hrn : rs.length = rows.length := hW3.len
      rw [List.length_map] at hdl
      have lb := hd.length
      rw [List.length_map] at lb
      refine ⟨.ref p, rfl, .ref R, rfl, R, _, rfl, .inl (sq_of hW3.at_), _, 1, rfl, rfl, Hd H3 p q, p, q, _, rfl, hP3.hd, by rw [List.length_map]; omega, by rw [List.length_map]; omega, fun H4 y hP0 hy0 hy1 => ⟨1, y, rfl, rfl, ?_⟩⟩
      rw [List.length_map] at hy1
      have hP4 := hP3.back hP0
      have hW4 := hW3.off hP0.off
      have hb4 := hP0.off _ _ nbp nbq hb
      refine g_name ?_
      refine ⟨.ref b, rfl, .ref p, rfl, .ref b, rfl, b, bs, rfl, .inl (sq_of hb4), Hd H4 p q, p, q, _, rfl, hP4.hd, by omega, by omega, fun H5 z hP00 hz0 hz1 => ?_⟩
      have hP5 := hP4.back hP00
      have hW5 := hW4.off hP00.off
      have hb5 := hP00.off _ _ nbp nbq hb4
      obtain ⟨zn, rfl⟩ : ∃ m : Nat, z = (m : Int) := ⟨z.toNat, by omega⟩
      have hzl : zn < bs.length := by omega
      have hbz : bs[zn]? = some bs[zn] := List.getElem?_eq_getElem hzl
      obtain ⟨ns, eds, hdz⟩ := hd.wds_inv hbz
      have hns := hdi ns (List.mem_of_getElem? eds)
      generalize bs[zn] = bv at *
      obtain ⟨ba, rfl, hbt⟩ := wd_ref hdz
      refine ⟨b, bs, (zn : Int), .ref ba, rfl, rfl, sq_of hb5, atI_nat hbz, ?_⟩
      refine g_name ?_
      obtain ⟨rn, hrn'⟩ : ∃ m : Nat, (1 : Int) + y = (m : Int) := ⟨(1 + y).toNat, by omega⟩
      have hrl' : rn < rs.length := by omega
      have hrr : (rs.map V.ref)[rn]? = some (.ref rs[rn]) := by rw [List.getElem?_map, List.getElem?_eq_getElem hrl']; rfl
      have hrs : rs[rn]? = some rs[rn] := List.getElem?_eq_getElem hrl'
      have hrl2 : rn < rows.length := by omega
      have hrw : rows[rn]? = some rows[rn] := List.getElem?_eq_getElem hrl2
      generalize rs[rn] = r at *
      refine ⟨.ref R, rfl, .int (1 + y), rfl, R, _, _, .ref r, rfl, rfl, sq_of hW5.at_, by rw [hrn']; exact atI_nat hrr, ?_⟩
      refine g_name ?_
      obtain ⟨gr, rp, rq, vs, h1, h2⟩ := hW5.row rn r _ hrs hrw
      have hl2 := hrl _ (List.getElem_mem hrl2)
      generalize rows[rn] = row at *
      have lv := h2.length
      rw [List.length_map] at lv
      refine ⟨.ref p, rfl, .ref r, rfl, r, vs, rfl, .inl (sq_of h1), _, 1, rfl, rfl, Hd H5 p q, p, q, _, rfl, hP5.hd, by omega, by omega, fun H6 pl hP000 hpl0 hpl1 => ?_⟩
      have hP6 := hP5.back hP000
      have hW6 := hW5.off hP000.off
      have h16 := hP000.off _ _ rp rq h1
      refine g_name ?_
      change tSeq _ _ _ [some (.ref p), some (.ref R), some (.int (L : Int)), some (.int cap), some (.ref b), some (.int tk), some (.ref r), some (.int (1 + y)), some (.ref ba), some (.int pl), none] H6
      have hB : ∀ {H7 : Hp}, Ex H6 H7 → H7 ba = some (.tup (ns.map V.int)) := fun {H7} e => e _ _ (hP6.ex _ _ hbt)
      have hlb : Ev (tCB (rLenS K) (tCons (tVar 8) tNil)) [some (.ref p), some (.ref R), some (.int (L : Int)), some (.int cap), some (.ref b), some (.int tk), some (.ref r), some (.int (1 + y)), some (.ref ba), some (.int pl), none] H6 (.int ((ns.map V.int).length : Int)) := ev_lenT (ev_var rfl) (st_of (hB (Ex.refl H6)))
      have hlr : Ev (tCB (rLenS K) (tCons (tVar 6) tNil)) [some (.ref p), some (.ref R), some (.int (L : Int)), some (.int cap), some (.ref b), some (.int tk), some (.ref r), some (.int (1 + y)), some (.ref ba), some (.int pl), none] H6 (.int (vs.length : Int)) := ev_len (ev_var rfl) (sq_of h16)
      refine q_when (b := inV (.int (1 + y)) (ns.map V.int) || (decide (((ns.map V.int).length : Int) > 7) || decide ((vs.length : Int) ≥ (L : Int)))) (et_or (et_test (ev_op (ev_var rfl) (ev_var rfl) (rv_isT (st_of (hB (Ex.refl H6))) rfl (flat_ints ns)))) fun _ => et_or (et_test (ev_op hlb ev_c rv_I0)) fun _ => et_test (ev_op hlr (ev_var rfl) rv_I0)) (fun hb7 H7 e7 => k G1 H7 rows eG (hP6.ext e7) (hW6.ext e7) rfl hG hrl) (fun hb7 H7 e7 => ?_)
      rw [inV_ints] at hb7
      simp only [Bool.or_eq_false_iff, decide_eq_false_iff_not, List.length_map] at hb7
      obtain ⟨hb70, hb71, hb72⟩ := hb7
      have hP7 := hP6.ext e7
      have hW7 := hW6.ext e7
      have h17 := e7 _ _ h16
      have hns7 : ns.length ≤ 7 := by omega
      have hvl : vs.length < L := by omega
      have hns1 : 1 ≤ ns.length := by
        rcases hns with z | ⟨j, row', z1, z2⟩
        · rw [z]; simp
        · have := (hG.ok j row' z1 ns z2).l2; omega
      refine ⟨.int (1 + y), rfl, by show 1 ≤ sizeLine; decide, fun t1 ht1 => ?_⟩
      have gt1 := fresh_back hP7.ex ht1
      have e8 := Ex.new (o := .tup [V.int (1 + y)]) ht1
      refine ⟨.ref ba, rfl, t1, ba, _, _, rfl, rfl, st_of upd_same, st_of (hB (e7.trans e8)), (by rw [List.length_map, sizeLine_eq]; show 1 + ns.length ≤ 16777216; omega), (fun z => by cases z), fun _ z => ?_, fun _ _ t2 ht2 => ?_⟩
      · rw [List.map_eq_nil_iff] at z
        rw [z] at hns1
        simp at hns1
      have hP8 := hP7.ext e8
      have hW8 := hW7.ext e8
      have gt2 := fresh_back hP8.ex ht2
      have hP9 := hP8.new (o := .tup ([V.int (1 + y)] ++ ns.map V.int)) ht2
      have hW9 := hW8.new (o := .tup ([V.int (1 + y)] ++ ns.map V.int)) ht2 gt2
      have e9 := Ex.new (o := .tup ([V.int (1 + y)] ++ ns.map V.int)) ht2
      have hw9 : Dq (upd G1 t2 (.tup ([V.int (1 + y)] ++ ns.map V.int))) (.ref t2) (wd ((1 + y) :: ns)) := .tup upd_same (DqA.ints ((1 + y) :: ns))
      have eG2 : Ex G1 (upd G1 t2 (.tup ([V.int (1 + y)] ++ ns.map V.int))) := Ex.new gt2
      have h19 := e9 _ _ (e8 _ _ h17)
      refine g_name ?_
      generalize upd G1 t2 (.tup ([V.int (1 + y)] ++ ns.map V.int)) = G2 at *
      generalize upd (upd H7 t1 (.tup [V.int (1 + y)])) t2 (.tup ([V.int (1 + y)] ++ ns.map V.int)) = H9 at *
      have h2' := h2.mono eG2
      have hlr9 : Ev (tCB (rLenS K) (tCons (tVar 6) tNil)) [some (.ref p), some (.ref R), some (.int (L : Int)), some (.int cap), some (.ref b), some (.int tk), some (.ref r), some (.int (1 + y)), some (.ref ba), some (.int pl), some (.ref t2)] H9 (.int (vs.length : Int)) := ev_len (ev_var rfl) (sq_of h19)
      have hbb : EvT (tTest (tOp (rNotInD K) (tVar 10) (tVar 6))) [some (.ref p), some (.ref R), some (.int (L : Int)), some (.int cap), some (.ref b), some (.int tk), some (.ref r), some (.int (1 + y)), some (.ref ba), some (.int pl), some (.ref t2)] H9 (!decide ((1 + y) :: ns ∈ row)) := by
        rw [← any_wd]
        refine et_test (ev_op (ev_var rfl) (ev_var rfl) fun H10 e10 Q2 q => ⟨wd ((1 + y) :: ns), row.map wd, Dq.dp (SeqAt.canLay_of_shaped (shaped_ints _)) (hw9.mono (hP9.ex.trans e10)), .lst (sq_of (e10 _ _ h19)) (DqA.dp (lay_wds row) (h2'.mono (hP9.ex.trans e10))), shaped_ints _, shaped_wds row, q H10 (Ex.refl H10)⟩)
      refine s_when (b := !decide ((1 + y) :: ns ∈ row) && decide (tk / ((vs.length : Int) + 1) * ((vs.length : Int) + 2) ≤ cap)) (et_and hbb fun _ => et_test (ev_op (ev_op (ev_op (ev_var rfl) (ev_op hlr9 ev_c rv_I0) (rv_I ⟨by omega, by omega⟩)) (ev_op hlr9 ev_c rv_I0) (rv_I (.inr ⟨by omega, by omega⟩))) (ev_var rfl) rv_I0)) (fun hb10 H10 e10 => ?_) (fun hb10 H10 e10 => k G2 H10 rows (eG.trans eG2) (hP9.ext e10) (hW9.ext e10) rfl hG hrl)
      have h110 := e10 _ _ h19
      have hP10 := hP9.ext e10
      have hW10 := hW9.ext e10
      have hnin : (1 + y) :: ns ∉ row := by
        simp only [Bool.and_eq_true, Bool.not_eq_true', decide_eq_false_iff_not] at hb10
        exact hb10.1
      refine ⟨.ref r, rfl, .inl ⟨rfl, _, sq_of h110⟩, .int pl, rfl, .ref t2, rfl, r, vs, pl, .ref t2, rfl, rfl, h110, by rw [sizeLine_eq]; omega, hpl0, by omega, ?_⟩
      rw [hrn'] at hw9 hnin hb70
      have hdn : DqA G2 (vs.take pl.toNat ++ [.ref t2] ++ vs.drop pl.toNat) ((row.take pl.toNat ++ [(rn : Int) :: ns] ++ row.drop pl.toNat).map wd) := by
        rw [List.map_append, List.map_append, List.map_take, List.map_drop]
        exact ((h2'.take _).append (.cons hw9 .nil)).append (h2'.drop _)
      refine k G2 _ (rows.set rn (row.take pl.toNat ++ [(rn : Int) :: ns] ++ row.drop pl.toNat)) (eG.trans eG2) (hP10.mut (hW10.row rn r _ hrs hrw).1 rp rq) (hW10.mut hrs hdn) (List.length_set ..) (gw_add hG hrw (by omega) hns hb70 hns7 hnin _) fun row2 hm => ?_
      rcases List.mem_or_eq_of_mem_set hm with z | z
      · exact hrl row2 z
      · rw [z]
        simp
        omega
/-! _law_lists -/
def spLists : Sp := fun vs H Q _ => ∃ (G : Hp) (p q : Addr) (M L : Nat) (cap : Int), vs = [.ref p, .int (M : Int), .int (L : Int), .int cap] ∧ Pl G H p q ∧ 2 ≤ M ∧ M ≤ 8 ∧ 2 ≤ L ∧ L ≤ 6 ∧ ∀ G' H' v rows, Ex G G' → Pl G' H' p q → Dq G' v (pd rows) → 2 ≤ rows.length → rows.length ≤ M → GW rows → (∀ row ∈ rows, row.length ≤ L) → Q v H'
abbrev sLists : Stmt := top 37
abbrev nLists : List Str := ["_law_pool_here", "_law_most", "_law_limit", "_law_cap", "_law_size", "_law_lists_here", "_law_count", "_law_row"]
theorem scLists : FnScope nLists ["_law_pool_here", "_law_most", "_law_limit", "_law_cap"] (defScope sLists) := ⟨rfl, rfl, rfl, by decide +kernel, rfl, by decide +kernel, by decide +kernel⟩
/-- tuple(row) for each row: the new tuples stay -/
structure Tupz (G0 H : Hp) (p q R : Addr) (rs : List Addr) (rows : List (List Wy)) (D : Addr) (i : Nat) : Prop where
  ex : ∃ (G : Hp) (ts : List V), Ex G0 G ∧ Pl G H p q ∧ Rz G H p q R rs rows ∧ H D = some (.lst ts) ∧ G D = none ∧ D ≠ p ∧ D ≠ q ∧ DqA G ts ((rows.take i).map rd)
theorem tupz_start {G H : Hp} {p q R D : Addr} {rs : List Addr} {rows : List (List Wy)} (hP : Pl G H p q) (hW : Rz G H p q R rs rows) (hD : H D = none) : Tupz G (upd H D (.lst [])) p q R rs rows D 0 :=
  ⟨G, [], Ex.refl _, hP.ext (Ex.new hD), hW.ext (Ex.new hD), upd_same, fresh_back hP.ex hD, hP.np hD, hP.nq hD, .nil⟩
theorem tupz_turn {K : PySem.W.Frag} {G0 H : Hp} {p q R D r : Addr} {rs : List Addr} {rows : List (List Wy)} {i : Nat} (hi : i < 1000) (h : Tupz G0 H p q R rs rows D i) (hr : rs[i]? = some r) (hDr : D ∉ rs) (hDR : D ≠ R) :
    ∃ pa ys, [V.ref r] = [.ref pa] ∧ ((SqL K H pa ys ∧ ∀ l, H l = none → ∃ acc, (upd H l (.tup ys)) D = some (.lst acc) ∧ acc.length < sizeLine ∧ Tupz G0 (upd (upd H l (.tup ys)) D (.lst (acc ++ [.ref l]))) p q R rs rows D (i + 1)) ∨
      (SqT K H pa ys ∧ ∃ acc, H D = some (.lst acc) ∧ acc.length < sizeLine ∧ Tupz G0 (upd H D (.lst (acc ++ [.ref pa]))) p q R rs rows D (i + 1))) := by
  obtain ⟨G, ts, eG, hP, hW, hD, gD, Dp, Dq', hts⟩ := h.ex
  have hil : i < rs.length := (List.getElem?_eq_some_iff.mp hr).1
  have hil2 : i < rows.length := by rw [← hW.len]; exact hil
  have hrw : rows[i]? = some rows[i] := List.getElem?_eq_getElem hil2
  obtain ⟨gr, rp, rq, vs, h1, h2⟩ := hW.row i r _ hr hrw
  refine ⟨r, vs, rfl, .inl ⟨sq_of h1, fun l hl' => ?_⟩⟩
  have gl := fresh_back hP.ex hl'
  have nDl : D ≠ l := ne_of_none hD hl'
  have hP1 := hP.new (o := .tup vs) hl'
  have hW1 := hW.new (o := .tup vs) hl' gl
  have tl := hts.length
  rw [List.length_map, List.length_take] at tl
  refine ⟨ts, by rw [upd_ne nDl]; exact hD, by rw [sizeLine_eq]; omega, upd G l (.tup vs), ts ++ [.ref l], eG.trans (Ex.new gl), hP1.mut (by rw [upd_ne nDl]; exact gD) Dp Dq', ?_, upd_same, by rw [upd_ne nDl]; exact gD, Dp, Dq', ?_⟩
  · refine ⟨by rw [upd_ne (Ne.symm hDR)]; exact hW1.at_, hW1.gR, hW1.Rp, hW1.Rq, hW1.nin, hW1.nd, hW1.len, fun k r' row' hr' hw' => ?_⟩
    obtain ⟨g', rp', rq', vs', h1', h2'⟩ := hW1.row k r' row' hr' hw'
    have nr : r' ≠ D := fun z => hDr (by rw [← z]; exact List.mem_of_getElem? hr')
    exact ⟨g', rp', rq', vs', by rw [upd_ne nr]; exact h1', h2'⟩
  · rw [take_snoc hrw, List.map_append]
    exact (hts.mono (Ex.new gl)).append (.cons (.tup upd_same (h2.mono (Ex.new gl))) .nil)
theorem ok_lists (B : Bl mg) (C : Cal P w K mg base "_law_draw" ["_law_pool_here", "_law_size"] 1 spDraw) (C2 : Cal P w K mg base "_law_planted" ["_law_pool_here", "_law_size"] 3 spPlanted) (C3 : Cal P w K mg base "_law_add" ["_law_pool_here", "_law_lists_here", "_law_limit", "_law_cap"] 2 spAdd) (F : FnP K "_law_lists" sLists f fd) : FnOk P w K mg base CX0 5 f fd ["_law_pool_here", "_law_most", "_law_limit", "_law_cap"] spLists := by
  refine F.ok scLists (fun vs H Q E h => ?_) (fun cdv A outer s H vs Q E hr h => ?_)
  · obtain ⟨G, p, q, M, L, cap, rfl, _⟩ := h
    rfl
  · obtain ⟨G, p, q, M, L, cap, rfl, hP, hM2, hM8, hL2, hL6, k⟩ := h
    have hr1 : Room 1 _ := hr.mono (by decide)
    have hr2 : Room 2 _ := hr.mono (by decide)
    refine ⟨_, pss_cons (ps_set (i := 4) scLists.nd rfl (Or.inl rfl) (pe_op op_add pe_int (pe_cal C hr1 (by rfl) (pa_cons (pv 0) (pa_cons (pe_op op_sub (pv 1) pe_int) pa_nil)))))
      (pss_cons (ps_set (i := 5) scLists.nd rfl (Or.inl rfl) (pe_cal C2 hr (by rfl) (pa_cons (pv 0) (pa_cons (pv 4) pa_nil))))
      (pss_cons (ps_for (passes_of rfl) rfl (pi_range1 (by rfl) B.range (pa_cons (pe_cal C hr1 (by rfl) (pa_cons (pv 0) (pa_cons pe_int pa_nil))) pa_nil)) (pg_name (i := 6) scLists.nd rfl (Or.inl rfl))
        (pss_one (ps_expr (pe_cal C3 hr2 (by rfl) (pa_cons (pv 0) (pa_cons (pv 5) (pa_cons (pv 2) (pa_cons (pv 3) pa_nil))))))))
      (pss_one (ps_ret (pe_callTy call_tuple_of (by rfl) B.tuple PyProof.Rows.boot_tuple (pa_cons (pe_lc (own := [("_law_row", 7)]) (g := gName 7) (tt := tYes) rfl scLists.nd (pi_list (pv 5)) (blkOk_by (N := nLists) (sc := defScope sLists) (by decide +kernel))
          (fun _ _ _ _ _ => pg_name (i := 7) scLists.nd rfl (Or.inl rfl)) (fun _ _ _ _ _ => pts_nil) (fun _ _ _ _ _ => pe_callTy (call_tupleK (K := K) rfl) (by rfl) B.tuple PyProof.Rows.boot_tuple (pa_cons (pv 7) pa_nil))) pa_nil)))))), ?_⟩
    refine ⟨.ref p, rfl, .int (M : Int), rfl, (M : Int), 1, rfl, rfl, Hd H p q, p, q, _, rfl, hP.hd, by omega, by omega, fun H1 y hP0 hy0 hy1 => ⟨2, y, rfl, rfl, ?_⟩⟩
    have hP1 := hP.back hP0
    obtain ⟨n, hn⟩ : ∃ n : Nat, (2 : Int) + y = (n : Int) := ⟨(2 + y).toNat, by omega⟩
    refine g_name ?_
    refine ⟨.ref p, rfl, .int (2 + y), rfl, G, p, q, n, by rw [hn]; rfl, hP1, by omega, by omega, fun G1 H2 R rs rows eG hP2 hW2 hrl hG hr2' => ?_⟩
    refine g_name ?_
    refine ⟨.ref p, rfl, Hd H2 p q, p, q, 16, rfl, hP2.hd, by decide, by decide, fun H3 cnt hP00 hc0 hc1 => ⟨cnt, rfl, by omega, by omega, for_range (lo := 0) (n := cnt.toNat) (fun i σ' H' => ∃ (G' : Hp) (rows : List (List Wy)) (o : Option V), σ' = [some (.ref p), some (.int (M : Int)), some (.int (L : Int)), some (.int cap), some (.int (2 + y)), some (.ref R), o, none] ∧ Ex G G' ∧ Pl G' H' p q ∧ Rz G' H' p q R rs rows ∧ rows.length = n ∧ GW rows ∧ ∀ row ∈ rows, row.length ≤ L) ⟨G1, rows, none, rfl, eG, hP2.back hP00, hW2.off hP00.off, hrl, hG, fun row hm => Nat.le_trans (hr2' row hm) hL2⟩ ?_ ?_⟩⟩
    · rintro i σ' H4 hi ⟨G', rows', o, rfl, eG', hP4, hW4, hl4, hG4, hr4⟩
      exact ⟨.ref p, rfl, .ref R, rfl, .int (L : Int), rfl, .int cap, rfl, G', p, q, R, rs, rows', L, cap, rfl, hP4, hW4, by omega, by omega, hL6, hG4, hr4, fun G2 H5 rows2 eG2 hP5 hW5 hl5 hG5 hr5 => ⟨G2, rows2, _, rfl, eG'.trans eG2, hP5, hW5, by omega, hG5, hr5⟩⟩
    · clear hW2 hG hr2'
      rintro σ' H4 ⟨G', rows', o, rfl, eG', hP4, hW4, hl4, hG4, hr4⟩
      dsimp only
      refine ret_cb ?_
      refine ⟨.ref R, rfl, R, rfl, ⟨_, sq_of hW4.at_⟩, fun D hD => lc_list (K := K) (xs := rs.map V.ref) (fun i H' => Tupz G' H' p q R rs rows' D i) (tupz_start hP4 hW4 hD) (fun i H' _ h => ?_) ?_ ?_⟩
      · obtain ⟨G5, ts, _, _, hW, _⟩ := h.ex
        exact sq_of hW.at_
      · rintro i x H5 hx h
        obtain ⟨r, hr1, rfl⟩ : ∃ r, rs[i]? = some r ∧ x = V.ref r := by
          rw [List.getElem?_map] at hx
          cases hq : rs[i]? with
          | none => rw [hq] at hx; cases hx
          | some r => rw [hq] at hx; exact ⟨r, rfl, (Option.some.inj hx).symm⟩
        have hil := (List.getElem?_eq_some_iff.mp hr1).1
        have hln := hW4.len
        refine ⟨rfl, .ref r, rfl, ?_⟩
        exact tupz_turn (K := K) (by omega) h hr1 (fun z => by
          obtain ⟨_, _, _, _, h1⟩ := hW4.mem z
          rw [hD] at h1
          cases h1) (Ne.symm (ne_of_none hW4.at_ hD))
      · intro H5 h
        obtain ⟨G5, ts, eG5, hP5, hW5, hD5, gD5, Dp5, Dq5, hts⟩ := h.ex
        rw [List.length_map, hW4.len, List.take_length] at hts
        refine ⟨D, ts, rfl, .inl ⟨sq_of hD5, fun t ht => ?_⟩⟩
        have gt := fresh_back hP5.ex ht
        exact k (upd G5 t (.tup ts)) _ (.ref t) rows' ((eG'.trans eG5).trans (Ex.new gt)) (hP5.new ht) (.tup upd_same (hts.mono (Ex.new gt))) (by omega) (by omega) hG4 hr4
end
end Wk

set_option Elab.async false
set_option linter.all false
set_option maxRecDepth 100000
set_option maxHeartbeats 2000000
namespace Wk
open PySem PySem.Spec PyProof.Rows L2 Evl
mutual
theorem Dp.up {K : PySem.W.Frag} {G H : Hp} (e : Ex G H) : ∀ {d : PyData} {v : V}, Dp K G v d → Dp K H v d
  | .none, _, .non => .non
  | .bool _, _, .bl b => .bl b
  | .int _, _, .int i => .int i
  | .str _, _, .str x => .str x
  | .list _, _, .lst h a => .lst (ex_l e h) (DpAll.up e a)
  | .tuple _, _, .tup h a => .tup (ex_t e h) (DpAll.up e a)
theorem DpAll.up {K : PySem.W.Frag} {G H : Hp} (e : Ex G H) : ∀ {ds : List PyData} {vs : List V}, DpAll K G vs ds → DpAll K H vs ds
  | [], _, .nil => .nil
  | _ :: _, _, .cons h t => .cons (Dp.up e h) (DpAll.up e t)
end
theorem dpa_len {K : PySem.W.Frag} {G : Hp} : ∀ {ds : List PyData} {vs : List V}, DpAll K G vs ds → vs.length = ds.length
  | [], _, .nil => rfl
  | _ :: _, _, .cons _ t => congrArg Nat.succ (dpa_len t)
theorem dpa_at {K : PySem.W.Frag} {G : Hp} : ∀ {ds : List PyData} {vs : List V} {i : Nat} {d : PyData}, DpAll K G vs ds → ds[i]? = some d → ∃ v, vs[i]? = some v ∧ Dp K G v d
  | [], _, i, d, .nil, e => by simp at e
  | x :: _, v :: _, 0, d, .cons h t, e => ⟨v, rfl, by simp at e; subst e; exact h⟩
  | _ :: _, _ :: _, i + 1, d, .cons h t, e => by
    obtain ⟨v, e1, e2⟩ := dpa_at t (i := i) (by simpa using e)
    exact ⟨v, by simpa using e1, e2⟩
theorem dpa_app {K : PySem.W.Frag} {G : Hp} : ∀ {ds es : List PyData} {vs us : List V}, DpAll K G vs ds → DpAll K G us es → DpAll K G (vs ++ us) (ds ++ es)
  | [], _, _, _, .nil, h => h
  | _ :: _, _, _, _, .cons h t, u => .cons h (dpa_app t u)
theorem dpa_ints {K : PySem.W.Frag} {G : Hp} : ∀ {ns : List Int} {vs : List V}, DpAll K G vs (ns.map PyData.int) → vs = ns.map V.int
  | [], _, .nil => rfl
  | _ :: _, _, .cons (.int n) t => by rw [dpa_ints t]; rfl
theorem dp_wd {K : PySem.W.Frag} {G : Hp} {v : V} {w : Wy} (h : Dp K G v (wd w)) : ∃ a, v = .ref a ∧ SqT K G a (w.map V.int) := by
  unfold wd at h
  cases h with
  | tup h1 h2 =>
    rw [dpa_ints h2] at h1
    exact ⟨_, rfl, h1⟩
theorem dp_of_wd {K : PySem.W.Frag} {G : Hp} {a : Addr} {w : Wy} (h : SqT K G a (w.map V.int)) : Dp K G (.ref a) (wd w) := .tup h (DqA.dp (lay_ints w) (DqA.ints w))
section
variable {K : PySem.W.Frag} {σ : L2.St} {H : Hp} {te tl : TE}
/-- [e for i, x in enumerate(t)] -/
theorem el_lcEnT {a : Addr} {xs : List V} {i j : Nat} {vs : List Nat} (v : Nat → V) (h : Ev tl σ H (.ref a)) (hx : SqT K H a xs) (hz : xs.length ≤ 40000) (hw : ∀ x y, wipe (((wipe σ vs).set i (some x)).set j (some y)) vs = wipe σ vs)
    (he : ∀ (k : Nat) (x : V) H1, Ex H H1 → xs[k]? = some x → Ev te (((wipe σ vs).set i (some (.int (k : Nat)))).set j (some x)) H1 (v k)) :
    EvL (tLc (iEnumT K (tCons tl tNil)) (gTup K 2 (gCons (gName i) (gCons (gName j) gNil))) tYes te vs) σ H (given xs.length (fun _ => true) v) := fun H0 e Q q => h H0 e _ fun H1 e1 => ⟨a, xs, rfl, ex_t (e.trans e1) hx, fun Dl hD =>
  lc_it (walk_enumT (K := K) (a := a) (xs := xs)) (Cw H1 (fun _ => true) v Dl) ⟨hD, Ex.new hD, upd_same⟩ (fun i H' _ p => ex_t ((e.trans e1).trans p.2.1) hx)
    (fun k z H' H2 hk p y => by
      obtain ⟨T, u, y, rfl, hT, rfl, hu, hy⟩ := y
      cases hu
      have eT : Ex H' (upd H' T (.tup [.int (k : Nat), y])) := Ex.new hT
      refine ⟨T, _, rfl, st_of upd_same, rfl, g_two ⟨hw _ _, ?_⟩⟩
      exact cw_turn ⟨p.1, p.2.1.trans eT, eT _ _ p.2.2⟩ (by omega) et_yes (fun _ => he k y H1 (e.trans e1) hy))
    (fun H' p => q Dl H' (fresh_back e1 p.1) (e1.trans p.2.1) p.2.2)⟩
theorem ev_allEnT {a : Addr} {xs : List V} {i j : Nat} {vs : List Nat} (g : Nat → Bool) (h : Ev tl σ H (.ref a)) (hx : SqT K H a xs) (hz : xs.length ≤ 40000) (hw : ∀ x y, wipe (((wipe σ vs).set i (some x)).set j (some y)) vs = wipe σ vs)
    (he : ∀ (k : Nat) (x : V) H1, Ex H H1 → xs[k]? = some x → Ev te (((wipe σ vs).set i (some (.int (k : Nat)))).set j (some x)) H1 (.bl (g k))) :
    Ev (tCB (rAll K) (tCons (tLc (iEnumT K (tCons tl tNil)) (gTup K 2 (gCons (gName i) (gCons (gName j) gNil))) tYes te vs) tNil)) σ H (.bl (((List.range xs.length).map g).all id)) :=
  ev_allL (by
    have q := el_lcEnT (K := K) (te := te) (fun k => .bl (g k)) h hx hz hw he
    rw [given_all] at q
    rw [List.map_map]
    exact q)
/-- a tuple that is read: an old one, a new one, one of the module's -/
def EvQ (K : PySem.W.Frag) (te : TE) (σ : L2.St) (H : Hp) (xs : List V) : Prop := ∀ H1, Ex H H1 → ∀ Q : VK, (∀ p H2, Ex H1 H2 → SqT K H2 p xs → Q (.ref p) H2) → te σ H1 Q
theorem eq_sl {a : Addr} {xs : List V} {tl th : TO} {lo hi : Option Int} (h : Ev te σ H (.ref a)) (h1 : EvO tl σ H lo) (h2 : EvO th σ H hi) (hs : SqT K H a xs) : EvQ K (tSl (rSlA K) te tl th) σ H (cutV xs lo hi) := fun H1 e Q q =>
  h H1 e _ fun H2 e2 => h1 H2 (e.trans e2) _ fun H3 e3 => h2 H3 ((e.trans e2).trans e3) _ fun H4 e4 => by
    have hs4 := ex_t (((e.trans e2).trans e3).trans e4) hs
    refine ⟨a, xs, rfl, hs4, fun hw => ?_, fun hw p hp => q p _ (((e2.trans e3).trans e4).trans (Ex.new hp)) (st_of upd_same)⟩
    have ec : cutV xs lo hi = xs := by
      unfold cutV
      rw [hw.1, hw.2]
      simp
    rw [ec] at q
    exact q a H4 ((e2.trans e3).trans e4) hs4
theorem ev_opQ {ta tb : TE} {r : R2} {x z : V} {xs : List V} (ha : Ev ta σ H x) (hb : EvQ K tb σ H xs) (hr : ∀ p H1, SqT K H1 p xs → Ex H H1 → RV r x (.ref p) H1 z) : Ev (tOp r ta tb) σ H z := fun H1 e Q q =>
  ha H1 e _ fun H2 e2 => hb H2 (e.trans e2) _ fun p H3 e3 hp => hr p H3 hp ((e.trans e2).trans e3) H3 (Ex.refl H3) Q fun H4 e4 => q H4 ((e2.trans e3).trans e4)
/-- for x in a tuple that is told on the way -/
theorem q_forCT {g : TG} {tu tz : TS} {D : Ends} (C : Addr → List V → Hp → Prop) (h : ∀ Q : VK, (∀ l xs H1, C l xs H1 → Q (.ref l) H1) → tl σ H Q)
    (hC : ∀ l xs H1, C l xs H1 → SqT K H1 l xs ∧ ∃ Pv : Nat → L2.St → Hp → Prop, Pv 0 σ H1 ∧ (∀ i σ' H', i ≤ xs.length → Pv i σ' H' → SqT K H' l xs) ∧ (∀ i x σ' H', xs[i]? = some x → Pv i σ' H' → g x σ' H' fun σ2 H2 => tu { D with nx := Pv (i + 1), ct := Pv (i + 1), bk := tz D } σ2 H2) ∧ (∀ σ' H', Pv xs.length σ' H' → tz D σ' H')) : tSeq (tFor (iTup K tl) g tu) tz D σ H :=
  h _ fun l xs H1 c => by
    obtain ⟨hs, Pv, h0, hl, ht, hd⟩ := hC l xs H1 c
    exact ⟨l, rfl, ⟨xs, hs⟩, for_tup Pv h0 hl ht hd⟩
end
/-! wishes in the heap -/
structure WO (CW : Addr) (H : Hp) (v : V) (rows : List (List Wy)) : Prop where
  ex : ∃ w dx lv, v = .ref w ∧ H w = some (.ins CW dx (wf (rows.length : Int) lv)) ∧ Dq H lv (pd rows)
  g : GW rows
  n2 : 2 ≤ rows.length
  n8 : rows.length ≤ 8
  r6 : ∀ row ∈ rows, row.length ≤ 6
theorem WO.up {CW : Addr} {H H' : Hp} {v : V} {rows : List (List Wy)} (h : WO CW H v rows) (e : Ex H H') : WO CW H' v rows := by
  obtain ⟨w, dx, lv, h1, h2, h3⟩ := h.ex
  exact ⟨⟨w, dx, lv, h1, e _ _ h2, h3.mono e⟩, h.g, h.n2, h.n8, h.r6⟩
theorem ev_wsize {K : PySem.W.Frag} {mg : Str → Option Value} {CW : Addr} {σ : L2.St} {H : Hp} {te : TE} {v : V} {rows : List (List Wy)} (T : WTx K mg CW) (h : Ev te σ H v) (hw : WO CW H v rows) : Ev (tFld K te "size") σ H (.int (rows.length : Int)) := fun H1 e Q q =>
  h H1 e _ fun H2 e2 => by
    obtain ⟨w, dx, lv, rfl, h2, h3⟩ := (hw.up (e.trans e2)).ex
    exact ⟨w, CW, dx, _, _, rfl, h2, T.cl, T.nS, wf_size _ _, q H2 e2⟩
/-- wishes.ways(router) -/
theorem t_ways {CW CN : Addr} {W : L2.St → XK} {σ : L2.St} {H : Hp} {ta ti : TE} {v : V} {rows : List (List Wy)} {i : Nat} {row : List Wy} {Q : VK} (ha : Ev ta σ H v) (hw : WO CW H v rows) (hi : Ev ti σ H (.int (i : Int))) (hr : rows[i]? = some row) (k : ∀ u H', Ex H H' → Dq H' u (rd row) → Q u H') :
    tMeAt CW "ways" (spWays CW CN) W ta (tCons ti tNil) σ H Q := ha H (Ex.refl H) _ fun H1 e1 => by
  obtain ⟨w, dx, lv, rfl, h2, h3⟩ := (hw.up e1).ex
  refine ⟨w, dx, _, rfl, h2, wf_no _ _ (by decide +kernel) (by decide +kernel), hi H1 e1 _ fun H2 e2 => ?_⟩
  have hil := (List.getElem?_eq_some_iff.mp hr).1
  have hR : isR (((rows.map rd).length : Nat) : Int) (.int (i : Int)) = true := by
    rw [List.length_map]
    show (true && (decide (0 ≤ (i : Int)) && decide ((i : Int) ≤ (rows.length : Int) - 1))) = true
    rw [decide_eq_true (show 0 ≤ (i : Int) by omega), decide_eq_true (show (i : Int) ≤ (rows.length : Int) - 1 by omega)]
    rfl
  refine ⟨w, dx, lv, .int (i : Int), .int (i : Int), rows.map rd, rfl, by rw [List.length_map]; exact e2 _ _ h2, h3.mono e2, .int _, fun _ u d H3 hd hu e3 => ?_, fun z => ?_⟩
  · have ed : d = rd row := by
      rw [show (valI (.int (i : Int))).toNat = i by simp [valI], List.getElem?_map, hr] at hd
      exact (Option.some.inj hd).symm
    subst ed
    exact k u H3 ((e1.trans e2).trans e3) (hu.mono e3)
  · rw [hR] at z
    cases z
/-! data or wishes -/
def Tg (CW : Addr) (H : Hp) (v : V) : Option PyData → Prop
  | some d => Dq H v d
  | none => ∃ a dx fs, v = .ref a ∧ H a = some (.ins CW dx fs)
theorem Tg.up {CW : Addr} {H H' : Hp} {v : V} {o : Option PyData} (h : Tg CW H v o) (e : Ex H H') : Tg CW H' v o := by
  cases o with
  | some d => exact Dq.mono e h
  | none =>
    obtain ⟨a, dx, fs, h1, h2⟩ := h
    exact ⟨a, dx, fs, h1, e _ _ h2⟩
/-- what isinstance asks of the class -/
structure ITx (K : PySem.W.Frag) (CW : Addr) : Prop where
  cl : Cls K CW
  ha : PySem.W.findIn K (.ref CW) "__class__" = some (some (.builtin "object.__class__"))
  hn : PySem.W.specialIn K (.builtin "object.__class__") "__get__" = some (some (.builtin "getset_descriptor.__get__"))
  ht : PySem.W.takesIn K (.builtin "object.__class__") = some true
  hm : PySem.W.mroIn K CW (.type "object") = some true
  kt : PySem.W.kitOne K (.ref CW) (.type "tuple") = some false
def tgT : Option PyData → Bool
  | some d => isTu d
  | none => false
theorem ev_isiT {K : PySem.W.Frag} {CW : Addr} {σ : L2.St} {H : Hp} {ta : TE} {v : V} {o : Option PyData} (T : ITx K CW) (h : Ev ta σ H v) (hv : Tg CW H v o) : Ev (tCB (rIsi K) (tCons ta (tCons (tC (.ty "tuple")) tNil))) σ H (.bl (tgT o)) := by
  cases o with
  | some d => exact ev_isi h hv (kit_tup d)
  | none =>
    obtain ⟨a, dx, fs, rfl, h2⟩ := hv
    exact fun H1 e Q q => h H1 e _ fun H2 e2 => ⟨.ref a, .ty "tuple", .ref CW, .type "tuple", false, rfl, .ty "tuple", .base (.ins ((e.trans e2) _ _ h2) T.cl T.ha T.hn T.ht T.hm), T.kt, q H2 e2⟩
/-! takings, as plain rows -/
def od : Option Wy → PyData
  | none => .none
  | some w => wd w
def chW (rows : List (List Wy)) (i : Nat) : List Wy := if i = 0 then [[0]] else rows.getD i [] ++ [[]]
structure TkO (rows : List (List Wy)) (t : List (Option Wy)) : Prop where
  len : t.length = rows.length
  ok : ∀ (i : Nat) (x : Wy), t[i]? = some (some x) → x ∈ chW rows i
def hit (t : List (Option Wy)) (w : Wy) : Bool := decide (t.getD (w.getD 1 0).toNat none = some (w.drop 1))
def csL (t : List (Option Wy)) (own : Wy) : List Wy → Bool
  | [] => false
  | w :: ws => if w = own then false else if hit t w = true then true else csL t own ws
def csB (rows : List (List Wy)) (t : List (Option Wy)) (i : Nat) : Bool := match t.getD i none with
  | none => false
  | some own => if own ≠ [] ∧ t.getD (own.getD 1 0).toNat none ≠ none ∧ hit t own = false then true else csL t own (rows.getD i [])
theorem csL_drop {t : List (Option Wy)} {own : Wy} : ∀ {ws : List Wy} {i : Nat} {w : Wy}, ws[i]? = some w → csL t own (ws.drop i) = if w = own then false else if hit t w = true then true else csL t own (ws.drop (i + 1))
  | [], i, w, h => by simp at h
  | x :: ws, 0, w, h => by
    simp at h
    subst h
    rfl
  | x :: ws, i + 1, w, h => by
    simp only [List.drop_succ_cons]
    exact csL_drop (by simpa using h)
theorem ways_in {rows : List (List Wy)} (hG : GW rows) {i : Nat} {row : List Wy} {w : Wy} (hr : rows[i]? = some row) (hw : w ∈ row) : ∃ j : Nat, w[1]? = some (j : Int) ∧ w.getD 1 0 = (j : Int) ∧ j < rows.length ∧ w ≠ [] := by
  have ok := hG.ok i row hr w hw
  have h1 : w[1]? = some (w[1]'(by have := ok.l2; omega)) := List.getElem?_eq_getElem _
  have rg := ok.rg _ (List.mem_of_getElem? h1)
  generalize w[1]'(by have := ok.l2; omega) = x at *
  refine ⟨x.toNat, by rw [h1]; congr 1; omega, by rw [List.getD_eq_getElem?_getD, h1]; show x = _; omega, by omega, fun z => ?_⟩
  have := ok.l2
  rw [z] at this
  simp at this
theorem shaped_wd (w : Wy) : SeqAt.shaped (wd w) = true := shaped_ints w
theorem shaped_od (o : Option Wy) : SeqAt.shaped (od o) = true := by
  cases o with
  | none => rfl
  | some w => exact shaped_wd w
theorem eqv_od (o : Option Wy) (w : Wy) : PyData.eqv (od o) (wd w) = decide (o = some w) := by
  cases o with
  | none => simp [od, wd, PyData.eqv]
  | some u =>
    show PyData.eqv (wd u) (wd w) = _
    rw [eqv_wd]
    simp
end Wk

set_option Elab.async false
set_option linter.all false
set_option maxRecDepth 100000
set_option maxHeartbeats 2000000
namespace Wk
open PySem PySem.Spec PyProof.Rows L2 Evl
/-- wishes' methods and names, for one who calls them -/
structure WC (P : Program) (w : World) (K : PySem.W.Frag) (mg : Str → Option Value) (base : Heap) (CW CN : Addr) : Prop where
  tx : WTx K mg CW
  it : ITx K CW
  wy : ∃ (fM : Addr) (fd : FuncData), Meth K CW "ways" fM ∧ FnOk P w K mg base (L2.CX P w) 5 fM fd ["self", "router"] (spWays CW CN) ∧ Binds K fd ["self", "router"] []
def intsB (d : PyData) : Bool := isTu d && (itemsT d).all isI
theorem intsB_wd {d : PyData} (h : intsB d = true) : d = wd (rts d) := by
  unfold intsB at h
  obtain ⟨h1, h2⟩ := Bool.and_eq_true_iff.mp h
  cases d <;> first | (simp [isTu] at h1; done) | skip
  rename_i ds
  have h2' : ds.all isI = true := h2
  unfold wd rts itemsT
  congr 1
  clear h1 h2 h
  induction ds with
  | nil => rfl
  | cons x l ih =>
    have h3 : isI x = true ∧ l.all isI = true := by simpa using h2'
    show x :: l = .int (valI x) :: (l.map valI).map PyData.int
    rw [← ih h3.2, ← isI_eq h3.1]
def chB (rows : List (List Wy)) (i : Nat) (d : PyData) : Bool := intsB d && decide (rts d ∈ chW rows i)
def tgN (n : Int) : Option PyData → Bool
  | some d => isTu d && decide (V.int ((itemsT d).length : Int) = V.int n)
  | none => false
def tkB (rows : List (List Wy)) (o : Option PyData) : Bool := tgN (rows.length : Int) o && match o with
  | some d => ((List.range (itemsT d).length).map fun k => (((itemsT d)[k]?).map (chB rows k)).getD false).all id
  | none => true
section
variable {P : Program} {w : World} {K : PySem.W.Frag} {mg : Str → Option Value} {base : Heap} {f : Addr} {fd : FuncData} {CW CN : Addr}
/-! is_tuple_of, is_integer_tuple -/
abbrev spTupOf (CW : Addr) : Sp := spP fun H vs z => ∃ (n : Int) (v : V) (o : Option PyData), vs = [.int n, v] ∧ Tg CW H v o ∧ z = .bl (tgN n o)
abbrev sTupOf : Stmt := top 11
theorem scTupOf : FnScope ["many", "thing"] ["many", "thing"] (defScope sTupOf) := ⟨rfl, rfl, rfl, by decide +kernel, rfl, by decide +kernel, by decide +kernel⟩
theorem ok_tupOf (B : Bl mg) (T : ITx K CW) (F : FnP K "is_tuple_of" sTupOf f fd) : FnOk P w K mg base CX0 1 f fd ["many", "thing"] (spTupOf CW) := by
  refine F.ok scTupOf (fun vs H Q E h => ?_) (fun cdv A outer s H vs Q E hr h => ?_)
  · obtain ⟨z, ⟨n, v, o, rfl, _⟩, _⟩ := h
    rfl
  · obtain ⟨z, ⟨n, v, o, rfl, hv, rfl⟩, k⟩ := h
    refine ⟨_, pss_one (ps_ret (pe_and (pe_callB call_isi (by rfl) B.isi boot_isinstance (pa_cons (pv 1) (pa_cons (pe_bltn (v := .ty "tuple") (by rfl) B.tuple PyProof.Rows.boot_tuple rfl) pa_nil)))
      (pe_one (pe_cmpR op_eq (pe_callB call_len_seq (by rfl) B.len PySem.boot_len (pa_cons (pv 1) pa_nil)) (pv 0) (nomark _))))), ?_⟩
    have e : tgN n o = (tgT o && tgN n o) := by
      cases o with
      | none => rfl
      | some d =>
        show (isTu d && _) = (isTu d && (isTu d && _))
        cases isTu d <;> rfl
    rw [e] at k
    refine s_ret (ev_andV (ev_isiT T (ev_var rfl) hv) fun ht => ?_) k
    cases o with
    | none => cases ht
    | some d =>
      have ht' : isTu d = true := ht
      have hv' : Dq H v d := hv
      cases hv' <;> first | (simp [isTu] at ht'; done) | skip
      rename_i a xs ds h1 h2
      have q := ev_op (H := H) (σ := start ["many", "thing"] [.int n, .ref a]) (ev_lenT (K := K) (ta := tVar 1) (ev_var rfl) (st_of h1)) (ev_var (i := 0) rfl) (rv_eq (x := .int (xs.length : Int)) (y := .int n) rfl)
      rw [h2.length] at q
      exact q
abbrev spIntTup : Sp := spP fun H vs z => ∃ (v : V) (d : PyData), vs = [v] ∧ Dq H v d ∧ (itemsT d).length ≤ 1000 ∧ z = .bl (intsB d)
abbrev sIntTup : Stmt := top 12
theorem scIntTup : FnScope ["thing", "item"] ["thing"] (defScope sIntTup) := ⟨rfl, rfl, rfl, by decide +kernel, rfl, by decide +kernel, by decide +kernel⟩
theorem ok_intTup (B : Bl mg) (C : Cal P w K mg base "is_integer" ["thing"] 1 spIsInt) (F : FnP K "is_integer_tuple" sIntTup f fd) : FnOk P w K mg base CX0 2 f fd ["thing"] spIntTup := by
  refine F.ok scIntTup (fun vs H Q E h => ?_) (fun cdv A outer s H vs Q E hr h => ?_)
  · obtain ⟨z, ⟨v, d, rfl, _⟩, _⟩ := h
    rfl
  · obtain ⟨z, ⟨v, d, rfl, hv, hl, rfl⟩, k⟩ := h
    refine ⟨_, pss_one (ps_ret (pe_and (pe_callB call_isi (by rfl) B.isi boot_isinstance (pa_cons (pv 0) (pa_cons (pe_bltn (v := .ty "tuple") (by rfl) B.tuple PyProof.Rows.boot_tuple rfl) pa_nil)))
      (pe_one (pe_callB (cr_all rfl) (by rfl) B.all boot_all (pa_cons (pe_lc (own := [("item", 1)]) (g := gName 1) (tt := tYes) rfl scIntTup.nd (pi_tup (pv 0)) (blkOk_by (N := ["thing", "item"]) (sc := defScope sIntTup) (by decide +kernel))
          (fun _ _ _ _ _ => pg_name (i := 1) scIntTup.nd rfl (Or.inl rfl)) (fun _ _ _ _ _ => pts_nil) (fun _ _ _ _ _ => pe_cal C hr (by rfl) (pa_cons (pv 1) pa_nil))) pa_nil))))), ?_⟩
    refine s_ret (ev_andV (a := isTu d) (ev_isi (ev_var rfl) hv (kit_tup d)) fun ht => ?_) k
    cases hv <;> first | (simp [isTu] at ht; done) | skip
    rename_i a xs ds h1 h2
    have hxl := h2.length
    have hl' : ds.length ≤ 1000 := hl
    have q := ev_allT (K := K) (H := H) (j := 1) (vs := [1]) (σ := start ["thing", "item"] [.ref a]) (tl := tVar 0) (te := tCall spIsInt [] E0 (tCons (tVar 1) tNil)) (fun i => ((ds[i]?).map isI).getD false) (ev_var rfl) (st_of h1) (by omega) (fun x => rfl)
      (fun i x H2 e2 hx => by
        obtain ⟨dx, e3, e4⟩ := h2.get hx
        rw [e3]
        exact ev_call (ea_cons (ev_var rfl) ea_nil) (spP_v fun H3 e5 => ⟨x, dx, rfl, (e4.mono e2).mono e5, rfl⟩))
    rw [hxl, all_get] at q
    exact q
end
end Wk

set_option Elab.async false
set_option linter.all false
set_option maxRecDepth 100000
set_option maxHeartbeats 2000000
namespace Wk
open L2 PySem PySem.Spec PyProof.Rows Evl
theorem sl_tupK {X : Cx} {K : PySem.W.Frag} (hK : X.K = K) : SlR X (rSlA K) := by
  subst hK
  exact sl_tupA
theorem ret_any {te : TE} {D : Ends} {σ : L2.St} {H : Hp} (h : te σ H D.rt) : tRet te D σ H := h
theorem ey_sl {K : PySem.W.Frag} {σ : L2.St} {H : Hp} {te : TE} {tl th : TO} {a : Addr} {xs : List V} {lo hi : Option Int} (h : Ev te σ H (.ref a)) (h1 : EvO tl σ H lo) (h2 : EvO th σ H hi)
    (ha : H a = some (.tup xs)) : EvY (tSl (rSlA K) te tl th) σ H (fun u H2 => ∃ b, u = .ref b ∧ H2 b = some (.tup (cutV xs lo hi))) := fun H1 e Q q =>
  h H1 e _ fun H2 e2 => h1 H2 (e.trans e2) _ fun H3 e3 => h2 H3 ((e.trans e2).trans e3) _ fun H4 e4 => by
    have e14 := (e2.trans e3).trans e4
    have ha4 := (e.trans e14) _ _ ha
    refine ⟨a, xs, rfl, st_of ha4, fun hw => ?_, fun hw p hp => q _ _ (e14.trans (Ex.new hp)) ⟨p, rfl, upd_same⟩⟩
    have ec : cutV xs lo hi = xs := by
      unfold cutV
      rw [hw.1, hw.2]
      simp
    exact q _ _ e14 ⟨a, rfl, by rw [ec]; exact ha4⟩
def TupY (z : Nat → List V) : Nat → V → Hp → Prop := fun i u H => ∃ b, u = .ref b ∧ H b = some (.tup (z i))
theorem tupY_good (z : Nat → List V) : GoodY (TupY z) := by
  refine ⟨fun i u H H' e h => ?_, fun i u H D l hD h => ?_⟩
  · obtain ⟨b, h1, h2⟩ := h
    exact ⟨b, h1, e _ _ h2⟩
  · obtain ⟨b, h1, h2⟩ := h
    refine ⟨b, h1, (off_at ?_).trans h2⟩
    intro hb
    rw [hb, hD] at h2
    cases h2
theorem grown_wds {ws : Nat → Wy} {H : Hp} : ∀ {js : List Nat} {us : List V}, Grown (TupY fun i => (ws i).map V.int) H js us → DqA H us ((js.map ws).map wd)
  | [], us, h => by
    rw [show us = [] from h]
    exact .nil
  | j :: js, us, ⟨u, r, h1, ⟨b, h2, h3⟩, h4⟩ => by
    subst h1 h2
    exact .cons (wd_of h3) (grown_wds h4)
theorem upTo_all (n : Nat) : upTo (fun _ => true) n = List.range n := by
  unfold upTo
  simp
/-- [e for i in range(n)], the items new tuples of whole numbers -/
theorem q_lcR {ta : TA} {te : TE} {j : Nat} {vs : List Nat} {n : Int} {σ : L2.St} {H : Hp} {Q : VK} {Y : Nat → V → Hp → Prop} (h : EvA ta σ H [.int n]) (hn0 : -1 ≤ n) (hn : n ≤ 40000) (hY : GoodY Y)
    (hw : ∀ x, wipe ((wipe σ vs).set j (some x)) vs = wipe σ vs) (he : ∀ (i : Nat) H', Ex H H' → (i : Int) < n → EvY te ((wipe σ vs).set j (some (.int (i : Int)))) H' (Y i))
    (k : ∀ l us H', Ex H H' → H l = none → H' l = some (.lst us) → Grown Y H' (List.range n.toNat) us → Q (.ref l) H') : tLc (iRng1 ta) (gName j) tYes te vs σ H Q :=
  h H (Ex.refl H) _ fun H1 e1 => ⟨n, rfl, by omega, by omega, fun D hD => grow_lc (Yx := fun i x => x = .int ((0 : Int) + (i : Int))) walk_range hY (fun _ => true) hD (by omega) (fun _ _ => True.intro) hw (fun i x H' e hi hx => et_yes)
    (fun i x H' e hi hx _ => by
      have z : x = .int (i : Int) := by rw [hx, Int.zero_add]
      rw [z]
      exact he i H' (e1.trans e) (by omega))
    (fun us H' e hd g => k D us H' (e1.trans e) (fresh_back e1 hD) hd (by rw [upTo_all] at g; exact g))⟩
section
variable {P : Program} {w : World} {K : PySem.W.Frag} {mg : Str → Option Value} {base : Heap} {f : Addr} {fd : FuncData} {CW CN : Addr}
/-! ends, hops -/
def endsW (w : Wy) : List Wy := (List.range (w.length - 1)).map fun i => w.drop i
def hopsW (w : Wy) : List Wy := (List.range (w.length - 1)).map fun i => (w.drop i).take 2
def spEnds (g : Wy → List Wy) : Sp := fun vs H Q _ => ∃ (v : V) (w : Wy), vs = [v] ∧ Dq H v (wd w) ∧ w.length ≤ 1000 ∧ ∀ H' l us, Ex H H' → H l = none → H' l = some (.lst us) → DqA H' us ((g w).map wd) → Q (.ref l) H'
abbrev nEnds : List Str := ["way", "place"]
abbrev sEnds : Stmt := top 28
theorem scEnds : FnScope nEnds ["way"] (defScope sEnds) := ⟨rfl, rfl, rfl, by decide +kernel, rfl, by decide +kernel, by decide +kernel⟩
theorem ok_ends (B : Bl mg) (F : FnP K "ends" sEnds f fd) : FnOk P w K mg base CX0 1 f fd ["way"] (spEnds endsW) := by
  refine F.ok scEnds (fun vs H Q E h => ?_) (fun cdv A outer s H vs Q E hr h => ?_)
  · obtain ⟨v, w, rfl, _⟩ := h
    rfl
  · obtain ⟨v, w, rfl, hv, hl, k⟩ := h
    obtain ⟨a, rfl, ha⟩ := wd_ref hv
    refine ⟨_, pss_one (ps_ret (pe_lc (own := [("place", 1)]) (g := gName 1) (tt := tYes) rfl scEnds.nd
      (pi_range1 (by rfl) B.range (pa_cons (pe_op op_sub (pe_callB call_len_seq (by rfl) B.len PySem.boot_len (pa_cons (pv 0) pa_nil)) pe_int) pa_nil)) (blkOk_by (N := nEnds) (sc := defScope sEnds) (by decide +kernel))
      (fun _ _ _ _ _ => pg_name (i := 1) scEnds.nd rfl (Or.inl rfl)) (fun _ _ _ _ _ => pts_nil) (fun _ _ _ _ _ => pe_slice (sl_tupK (K := K) rfl) (pv 0) (po_some (pv 1)) po_none))), ?_⟩
    have hxl : (w.map V.int).length = w.length := List.length_map _
    refine ret_any (q_lcR (n := (w.length : Int) - 1) (Y := TupY fun i => (w.drop i).map V.int) (ea_cons (ev_op (ev_lenT (K := K) (ta := tVar 0) (ev_var rfl) (st_of ha)) ev_c ?_) ea_nil) (by omega) (by omega) (tupY_good _) (fun x => rfl) ?_ ?_)
    · rw [hxl]
      exact rv_I0
    · intro i H' e hi
      have q := ey_sl (K := K) (σ := (wipe (start nEnds [V.ref a]) [1]).set 1 (some (.int (i : Int)))) (ev_var (i := 0) rfl) (eo_some (ev_var (i := 1) rfl)) eo_none (e _ _ ha)
      rw [cut_from _ i (by rw [hxl]; omega), ← List.map_drop] at q
      exact q
    · intro l us H' e hl2 hd g
      rw [show ((w.length : Int) - 1).toNat = w.length - 1 by omega] at g
      exact k H' l us e hl2 hd (grown_wds g)
end
end Wk

set_option Elab.async false
set_option linter.all false
set_option maxRecDepth 100000
set_option maxHeartbeats 2000000
namespace Wk
open L2 PySem PySem.Spec PyProof.Rows Evl
theorem cut_two (xs : List V) (i : Nat) (h : i ≤ xs.length) : cutV xs (some (i : Int)) (some ((i : Int) + 2)) = (xs.drop i).take 2 := by
  unfold cutV
  rw [show ((i : Int) + 2) = ((i + 2 : Nat) : Int) by omega, HT.sIx_nat, HT.sIx_nat, Nat.min_eq_left h]
  by_cases z : i + 2 ≤ xs.length
  · rw [Nat.min_eq_left z]
    congr 1
    omega
  · rw [Nat.min_eq_right (by omega), List.take_of_length_le (by simp), List.take_of_length_le (by rw [List.length_drop]; omega)]
def keyW (w : Wy) : List L2.Key := w.map Sum.inl
theorem keyW_kV (w : Wy) : (keyW w).map kV = w.map V.int := by
  unfold keyW
  rw [List.map_map]
  rfl
theorem keyW_inj {v w : Wy} (h : keyW v = keyW w) : v = w := by
  unfold keyW at h
  induction v generalizing w with
  | nil =>
    cases w with
    | nil => rfl
    | cons b w => cases h
  | cons a v ih =>
    cases w with
    | nil => cases h
    | cons b w =>
      simp only [List.map_cons, List.cons.injEq] at h
      have h1 : a = b := by injection h.1
      rw [h1, ih h.2]
section
variable {K : PySem.W.Frag} {σ : L2.St} {H : Hp} {te td ty : TE}
theorem ey_old {b : Addr} {xs : List V} (h : Ev te σ H (.ref b)) (hb : H b = some (.tup xs)) : EvY te σ H (fun u H2 => ∃ b, u = .ref b ∧ H2 b = some (.tup xs)) := fun H1 e Q q =>
  h H1 e _ fun H2 e2 => q _ H2 e2 ⟨b, rfl, e2 _ _ (e _ _ hb)⟩
theorem ey_back {b : Addr} {x y : V} (h : Ev te σ H (.ref b)) (hb : H b = some (.tup [x, y])) : EvY (tBack K te) σ H (fun u H2 => ∃ b, u = .ref b ∧ H2 b = some (.tup [y, x])) := fun H1 e Q q =>
  h H1 e _ fun H2 e2 => ⟨b, x, y, rfl, st_of (e2 _ _ (e _ _ hb)), fun p hp => q _ _ (e2.trans (Ex.new hp)) ⟨p, rfl, upd_same⟩⟩
theorem ev_dInY {k : List L2.Key} {D : Addr} {kvs : List (List L2.Key × V)} (hy : EvY ty σ H (fun u H2 => ∃ b, u = .ref b ∧ H2 b = some (.tup (k.map kV)))) (hd : Ev td σ H (.ref D))
    (hD : H D = some (.dT kvs)) : Ev (tDIn ty td) σ H (.bl (valV kvs k).isSome) := fun H1 e Q q => hy H1 e _ fun u H2 e2 hu => by
  obtain ⟨b, rfl, hb⟩ := hu
  exact hd H2 (e.trans e2) _ fun H3 e3 => ⟨D, valV kvs k, rfl, DGet.t ((e.trans (e2.trans e3)) _ _ hD) (e3 _ _ hb), q H3 (e2.trans e3)⟩
end
section
variable {P : Program} {w : World} {K : PySem.W.Frag} {mg : Str → Option Value} {base : Heap} {f : Addr} {fd : FuncData} {CW CN : Addr}
abbrev sHops : Stmt := top 29
theorem scHops : FnScope nEnds ["way"] (defScope sHops) := ⟨rfl, rfl, rfl, by decide +kernel, rfl, by decide +kernel, by decide +kernel⟩
theorem ok_hops (B : Bl mg) (F : FnP K "hops" sHops f fd) : FnOk P w K mg base CX0 1 f fd ["way"] (spEnds hopsW) := by
  refine F.ok scHops (fun vs H Q E h => ?_) (fun cdv A outer s H vs Q E hr h => ?_)
  · obtain ⟨v, w, rfl, _⟩ := h
    rfl
  · obtain ⟨v, w, rfl, hv, hl, k⟩ := h
    obtain ⟨a, rfl, ha⟩ := wd_ref hv
    refine ⟨_, pss_one (ps_ret (pe_lc (own := [("place", 1)]) (g := gName 1) (tt := tYes) rfl scHops.nd
      (pi_range1 (by rfl) B.range (pa_cons (pe_op op_sub (pe_callB call_len_seq (by rfl) B.len PySem.boot_len (pa_cons (pv 0) pa_nil)) pe_int) pa_nil)) (blkOk_by (N := nEnds) (sc := defScope sHops) (by decide +kernel))
      (fun _ _ _ _ _ => pg_name (i := 1) scHops.nd rfl (Or.inl rfl)) (fun _ _ _ _ _ => pts_nil) (fun _ _ _ _ _ => pe_slice (sl_tupK (K := K) rfl) (pv 0) (po_some (pv 1)) (po_some (pe_op op_add (pv 1) pe_int))))), ?_⟩
    have hxl : (w.map V.int).length = w.length := List.length_map _
    refine ret_any (q_lcR (n := (w.length : Int) - 1) (Y := TupY fun i => ((w.drop i).take 2).map V.int) (ea_cons (ev_op (ev_lenT (K := K) (ta := tVar 0) (ev_var rfl) (st_of ha)) ev_c ?_) ea_nil) (by omega) (by omega) (tupY_good _) (fun x => rfl) ?_ ?_)
    · rw [hxl]
      exact rv_I0
    · intro i H' e hi
      have q := ey_sl (K := K) (σ := (wipe (start nEnds [V.ref a]) [1]).set 1 (some (.int (i : Int)))) (ev_var (i := 0) rfl) (eo_some (ev_var (i := 1) rfl)) (eo_some (i := (i : Int) + 2) (ev_op (r := rI0 fun a b => .int (a + b)) (x := .int (i : Int)) (y := .int 2) (ev_var (i := 1) rfl) ev_c rv_I0)) (e _ _ ha)
      rw [cut_two _ i (by rw [hxl]; omega), ← List.map_drop, ← List.map_take] at q
      exact q
    · intro l us H' e hl2 hd g
      rw [show ((w.length : Int) - 1).toNat = w.length - 1 by omega] at g
      exact k H' l us e hl2 hd (grown_wds g)
/-! is_cut -/
abbrev spCut : Sp := spP fun H vs z => ∃ (D : Addr) (kvs : List (List L2.Key × V)) (v : V) (x y : Int), vs = [.ref D, v] ∧ H D = some (.dT kvs) ∧ Dq H v (wd [x, y]) ∧
  z = .bl ((valV kvs (keyW [x, y])).isSome || (valV kvs (keyW [y, x])).isSome)
abbrev nCut : List Str := ["cut", "link"]
abbrev sCut : Stmt := top 30
theorem scCut : FnScope nCut ["cut", "link"] (defScope sCut) := ⟨rfl, rfl, rfl, by decide +kernel, rfl, by decide +kernel, by decide +kernel⟩
theorem ok_cut (F : FnP K "is_cut" sCut f fd) : FnOk P w K mg base CX0 1 f fd ["cut", "link"] spCut := by
  refine F.ok scCut (fun vs H Q E h => ?_) (fun cdv A outer s H vs Q E hr h => ?_)
  · obtain ⟨z, ⟨D, kvs, v, x, y, rfl, _⟩, _⟩ := h
    rfl
  · obtain ⟨z, ⟨D, kvs, v, x, y, rfl, hD, hv, rfl⟩, k⟩ := h
    have hu : (A.deeper (envOfC "is_cut" (defScope sCut) s.heap.objs.size f cdv)).units + 1 < cLine := by have := hr.un; omega
    obtain ⟨a, rfl, ha⟩ := wd_ref hv
    refine ⟨_, pss_one (ps_ret (pe_or (pe_cmp (pc_din hu (pv 1) (pv 0))) (pe_one (pe_cmp (pc_din hu (pe_back (pv 1)) (pv 0)))))), ?_⟩
    refine s_ret (ev_orV (ev_dInY (k := keyW [x, y]) ?_ (ev_var rfl) hD) fun _ => ev_dInY (k := keyW [y, x]) ?_ (ev_var rfl) hD) k
    · rw [keyW_kV]
      exact ey_old (ev_var rfl) ha
    · rw [keyW_kV]
      exact ey_back (ev_var rfl) ha
end
end Wk

set_option Elab.async false
set_option linter.all false
set_option maxRecDepth 100000
set_option maxHeartbeats 2000000
namespace Wk
open L2 PySem PySem.Spec PyProof.Rows Evl
theorem pi_tupK {X : Cx} {K : PySem.W.Frag} {tg l : Expr} {tl : TE} (hK : X.K = K) (hl : PE X l tl) : PI X tg l (iTup K tl) := by
  subst hK
  exact pi_tup hl
theorem wds_off {H : Hp} {D : Addr} {l : List V} (hD : H D = some (.lst l)) : ∀ {ws : List Wy} {us : List V}, DqA H us (ws.map wd) → DqA (off D H) us (ws.map wd)
  | [], _, h => by
    cases h
    exact .nil
  | w :: ws, _, h => by
    cases h with
    | cons h1 h2 =>
      obtain ⟨a, rfl, ha⟩ := wd_ref h1
      refine .cons (wd_of ((off_at ?_).trans ha)) (wds_off hD h2)
      intro z
      rw [z, hD] at ha
      cases ha
/-- the list that grows holds these ways -/
def LW (D : Addr) (H1 : Hp) (ws : List Wy) (H : Hp) : Prop := H1 D = none ∧ Ex H1 H ∧ ∃ us, H D = some (.lst us) ∧ DqA (off D H) us (ws.map wd)
theorem LW.ext {D : Addr} {H1 H H' : Hp} {ws : List Wy} (h : LW D H1 ws H) (e : Ex H H') : LW D H1 ws H' := by
  obtain ⟨h1, h2, us, h3, h4⟩ := h
  exact ⟨h1, h2.trans e, us, e _ _ h3, h4.mono (off_ex e)⟩
theorem LW.put {D : Addr} {H1 H : Hp} {ws : List Wy} {w : Wy} {u : V} (h : LW D H1 ws H) (hl : ws.length ≤ 1000) (hu : Dq (off D H) u (wd w)) :
    ∃ acc, H D = some (.lst acc) ∧ acc.length < sizeLine ∧ LW D H1 (ws ++ [w]) (upd H D (.lst (acc ++ [u]))) := by
  obtain ⟨h1, h2, us, h3, h4⟩ := h
  have l := h4.length
  rw [List.length_map] at l
  refine ⟨us, h3, sz_lt (by omega), h1, Ex.mut h2 h1, us ++ [u], upd_same, ?_⟩
  rw [off_upd, List.map_append]
  exact h4.append (.cons hu .nil)
def lwB (rows : List (List Wy)) (d : PyData) : Bool := intsB d && (!decide ((itemsT d).length = 0) && isR (rows.length : Int) ((itemsT d).getD 0 .none)) && decide (rts d ∈ rows.getD (valI ((itemsT d).getD 0 .none)).toNat [])
section
variable {P : Program} {w : World} {K : PySem.W.Frag} {mg : Str → Option Value} {base : Heap} {f : Addr} {fd : FuncData} {CW CN : Addr}
/-! let_ways -/
theorem len_flat {rows : List (List Wy)} (h6 : ∀ row ∈ rows, row.length ≤ 6) : rows.flatten.length ≤ 6 * rows.length := by
  induction rows with
  | nil => simp
  | cons r rs ih =>
    have := h6 r List.mem_cons_self
    have := ih fun row hm => h6 row (List.mem_cons_of_mem _ hm)
    simp only [List.flatten_cons, List.length_append, List.length_cons]
    omega
def spLetWays (CW : Addr) : Sp := fun vs H Q _ => ∃ (v : V) (rows : List (List Wy)), vs = [v] ∧ WO CW H v rows ∧ ∀ H' l us, Ex H H' → H l = none → H' l = some (.lst us) → DqA H' us (rows.flatten.map wd) → Q (.ref l) H'
abbrev nLetWays : List Str := ["wishes", "router", "way"]
abbrev sLetWays : Stmt := top 25
theorem scLetWays : FnScope nLetWays ["wishes"] (defScope sLetWays) := ⟨rfl, rfl, rfl, by decide +kernel, rfl, by decide +kernel, by decide +kernel⟩
theorem ok_letWays (B : Bl mg) (W : WC P w K mg base CW CN) (F : FnP K "let_ways" sLetWays f fd) : FnOk P w K mg base CX0 6 f fd ["wishes"] (spLetWays CW) := by
  obtain ⟨fM, fdM, me, FM, bM⟩ := W.wy
  refine F.ok scLetWays (fun vs H Q E h => ?_) (fun cdv A outer s H vs Q E hr h => ?_)
  · obtain ⟨v, rows, rfl, _⟩ := h
    rfl
  · obtain ⟨v, rows, rfl, hw, k⟩ := h
    refine ⟨_, pss_one (ps_ret (pe_lc2 (own := [("router", 1), ("way", 2)]) (vs1 := [2]) (g := gName 1) (g1 := gName 2) (tt := tYes) (tt1 := tYes) rfl scLetWays.nd
      (pi_range1 (by rfl) B.range (pa_cons (pe_fld (pv 0) rfl) pa_nil)) (blkOk_by (N := nLetWays) (sc := defScope sLetWays) (by decide +kernel)) (by decide)
      (fun _ _ _ _ _ => pg_name (i := 1) scLetWays.nd rfl (Or.inl rfl)) (fun _ _ _ _ _ => pts_nil)
      (fun _ _ _ _ _ => pi_tupK (K := K) rfl (pe_meAt (pv 0) W.tx.cl me FM hr bM (fun σ => passAt takes0 σ) (pa_cons (pv 1) pa_nil)))
      (fun _ _ _ _ _ => pg_name (i := 2) scLetWays.nd rfl (Or.inl rfl)) (fun _ _ _ _ _ => pts_nil) (fun _ _ _ _ _ => pv 2))), ?_⟩
    have n8 := hw.n8
    have v0 : ∀ {H1 : Hp}, Ev (tVar 0) (start nLetWays [v]) H1 v := ev_var rfl
    refine ret_any ?_
    unfold tLc2 iRng1
    refine ea_cons (ev_wsize W.tx v0 hw) ea_nil H (Ex.refl H) _ fun H1 e1 => ⟨(rows.length : Int), rfl, by omega, by omega, fun D hD => ?_⟩
    have hw1 := hw.up e1
    have hlf := len_flat hw.r6
    refine ⟨fun i m Hx => m = rows.length - i ∧ i ≤ rows.length ∧ LW D H1 (rows.take i).flatten Hx, ⟨rows.length, by simp, Nat.zero_le _, hD, Ex.new hD, [], upd_same, .nil⟩, ?_⟩
    rintro i m H2 ⟨rfl, hi, lw⟩
    by_cases lt : i < rows.length
    · refine .inr ⟨by show i < (rows.length : Int).toNat; omega, fun Hx => LW D H1 (rows.take (i + 1)).flatten Hx, fun Hx q => ⟨rows.length - (i + 1), by omega, rfl, lt, q⟩, ?_⟩
      rintro x H3 ⟨rfl, rfl⟩
      refine ⟨rfl, ?_⟩
      have hrw : rows[i]? = some rows[i] := List.getElem?_eq_getElem lt
      have hr6 := hw.r6 _ (List.getElem_mem lt)
      have etk : (rows.take (i + 1)).flatten = (rows.take i).flatten ++ rows[i] := by
        rw [take_snoc hrw, List.flatten_append]
        simp
      have hl0 : ((rows.take i).flatten).length ≤ 48 := by
        have := len_flat (rows := rows.take i) fun row hm => hw.r6 row (List.mem_of_mem_take hm)
        have := List.length_take_le i rows
        omega
      rw [etk]
      generalize rows[i] = row at *
      generalize (rows.take i).flatten = pre at *
      show tMeAt CW "ways" (spWays CW CN) _ (tVar 0) (tCons (tVar 1) tNil) _ H3 _
      have e2 : Ex H1 H3 := lw.2.1
      refine t_ways (i := i) (ev_var rfl) (hw1.up e2) ?_ hrw fun u H4 e4 hu => ?_
      · rw [show (V.int (i : Int)) = V.int ((0 : Int) + (i : Int)) by rw [Int.zero_add]]
        exact ev_var rfl
      · have lw4 := lw.ext e4
        obtain ⟨_, _, us4, hd4, _⟩ := lw4
        unfold rd at hu
        cases hu with
        | tup h1 h2 =>
          rename_i ua xs
          have hxl := h2.length
          rw [List.length_map] at hxl
          have hne : ua ≠ D := by
            intro z
            rw [z, hd4] at h1
            cases h1
          have g1 : off D H4 ua = some (.tup xs) := (off_at hne).trans h1
          have g2 := wds_off hd4 h2
          refine ⟨ua, rfl, ⟨xs, st_of h1⟩, fun j k Hx => k = row.length - j ∧ j ≤ row.length ∧ LW D H1 (pre ++ row.take j) Hx ∧ Ex (off D H4) (off D Hx), ⟨row.length, by simp, Nat.zero_le _, by simpa using lw.ext e4, Ex.refl _⟩, ?_⟩
          rintro j m H5 ⟨rfl, hj, lw5, ex5⟩
          have s5 : SqT K H5 ua xs := st_of (off_in D H5 _ _ (ex5 _ _ g1))
          by_cases ltj : j < row.length
          · refine .inr ⟨walk_tup.goes j H5 (by omega) s5, fun Hx => LW D H1 (pre ++ row.take (j + 1)) Hx ∧ Ex (off D H4) (off D Hx), fun Hx q => ⟨row.length - (j + 1), by omega, rfl, ltj, q.1, q.2⟩, ?_⟩
            intro y H6 hy
            have hyy := walk_tup.yields j H5 y H6 (by omega) s5 hy
            obtain ⟨rfl, hy2⟩ := hyy
            refine ⟨rfl, ?_⟩
            show ∃ z, _ ∧ _
            refine ⟨y, rfl, ?_⟩
            obtain ⟨w, hw1, hw2⟩ := DqA.wds_inv g2 hy2
            have etj : row.take (j + 1) = row.take j ++ [w] := take_snoc hw1
            obtain ⟨acc, a1, a2, a3⟩ := lw5.put (w := w) (u := y) (by rw [List.length_append, List.length_take]; omega) (hw2.mono ex5)
            refine ⟨acc, a1, a2, ?_, ?_⟩
            · rw [etj, ← List.append_assoc]
              exact a3
            · rw [off_upd]
              exact ex5
          · have ej : j = row.length := by omega
            subst ej
            refine .inl ⟨?_, ?_⟩
            · have := (walk_tup (K := K) (a := ua) (xs := xs)).stops H5 s5
              rw [hxl] at this
              exact this
            · rw [List.take_length] at lw5
              exact lw5
    · have ei : i = rows.length := by omega
      subst ei
      obtain ⟨l1, l2, us, l3, l4⟩ := lw
      rw [List.take_length] at l4
      refine .inl ⟨by show (rows.length : Int).toNat ≤ rows.length; omega, ?_⟩
      exact k H2 D us (e1.trans l2) (fresh_back e1 hD) l3 (l4.mono (off_in D H2))
end
end Wk

set_option Elab.async false
set_option linter.all false
set_option maxRecDepth 100000
set_option maxHeartbeats 2000000
namespace Wk
open L2 PySem PySem.Spec PyProof.Rows Evl
def letW (rows : List (List Wy)) : Wy → Bool
  | [] => false
  | r :: w => isR (rows.length : Int) (.int r) && decide (r :: w ∈ rows.getD r.toNat [])
def letB (rows : List (List Wy)) (d : PyData) : Bool := intsB d && letW rows (rts d)
section
variable {P : Program} {w : World} {K : PySem.W.Frag} {mg : Str → Option Value} {base : Heap} {f : Addr} {fd : FuncData} {CW CN : Addr}
/-! is_let_way -/
abbrev spLetWay (CW : Addr) : Sp := spP fun H vs z => ∃ (wv v : V) (d : PyData) (rows : List (List Wy)), vs = [wv, v] ∧ WO CW H wv rows ∧ Dq H v d ∧ (itemsT d).length ≤ 1000 ∧ z = .bl (letB rows d)
abbrev nLetWay : List Str := ["wishes", "thing"]
abbrev sLetWay : Stmt := top 26
theorem scLetWay : FnScope nLetWay ["wishes", "thing"] (defScope sLetWay) := ⟨rfl, rfl, rfl, by decide +kernel, rfl, by decide +kernel, by decide +kernel⟩
theorem ok_letWay (B : Bl mg) (W : WC P w K mg base CW CN) (C : Cal P w K mg base "is_integer_tuple" ["thing"] 2 spIntTup) (C2 : Cal P w K mg base "is_router" ["size", "thing"] 3 spRouter)
    (F : FnP K "is_let_way" sLetWay f fd) : FnOk P w K mg base CX0 6 f fd ["wishes", "thing"] (spLetWay CW) := by
  obtain ⟨fM, fdM, me, FM, bM⟩ := W.wy
  refine F.ok scLetWay (fun vs H Q E h => ?_) (fun cdv A outer s H vs Q E hr h => ?_)
  · obtain ⟨z, ⟨wv, v, d, rows, rfl, _⟩, _⟩ := h
    rfl
  · obtain ⟨z, ⟨wv, v, d, rows, rfl, hw, hv, hl, rfl⟩, k⟩ := h
    have hu : (A.deeper (envOfC "is_let_way" (defScope sLetWay) s.heap.objs.size f cdv)).units + 66 < cLine := by have := hr.un; omega
    refine ⟨_, pss_cons (ps_if (PW.pt (pw_or (pt_not (pt_val (pe_cal C hr (by rfl) (pa_cons (pv 1) pa_nil))))
        (pw_or (pt_cmpR op_eq (pe_callB call_len_seq (by rfl) B.len PySem.boot_len (pa_cons (pv 1) pa_nil)) pe_int (nomark _))
          (pw_or1 (pt_not (pt_val (pe_cal C2 hr (by rfl) (pa_cons (pe_fld (pv 0) rfl) (pa_cons (pe_ix ix_tup (pv 1) pe_int (fun _ _ => rfl)) pa_nil))))))))) (pss_one (ps_ret pe_bl)) pss_nil)
      (pss_one (ps_ret (pe_cmpR (op_inU hu) (pv 1) (pe_meAt (pv 0) W.tx.cl me FM hr bM (fun σ => passAt takes0 σ) (pa_cons (pe_ix ix_tup (pv 1) pe_int (fun _ _ => rfl)) pa_nil)) rfl))), ?_⟩
    have v0 : ∀ {H1 : Hp}, Ev (tVar 0) (start nLetWay [wv, v]) H1 wv := ev_var rfl
    have v1 : ∀ {H1 : Hp}, Ev (tVar 1) (start nLetWay [wv, v]) H1 v := ev_var rfl
    cases hI : intsB d with
    | false =>
      have ez : letB rows d = false := by
        unfold letB
        rw [hI]
        rfl
      rw [ez] at k
      refine q_when (b := true || true) (et_or (et_is (et_not (et_B (ev_call (ea_cons v1 ea_nil) (spP_v fun H1 e => ⟨v, d, rfl, hv.mono e, hl, rfl⟩)))) (by rw [hI]; rfl)) fun z => by cases z) (fun _ H1 e1 => s_ret ev_c fun H2 e2 => k H2 (e1.trans e2)) (fun z => by cases z)
    | true =>
      have ed := intsB_wd hI
      generalize hns : rts d = ns at *
      have ez : letB rows d = letW rows ns := by
        unfold letB
        rw [hI, hns]
        rfl
      rw [ez] at k
      clear ez hns
      subst ed
      obtain ⟨a, rfl, ha⟩ := wd_ref hv
      have c1 : EvT (tNot (tB (tCall spIntTup [] E0 (tCons (tVar 1) tNil)))) (start nLetWay [wv, V.ref a]) H false := et_is (et_not (et_B (ev_call (ea_cons v1 ea_nil) (spP_v fun H1 e => ⟨.ref a, wd ns, rfl, hv.mono e, hl, rfl⟩)))) (by rw [hI]; rfl)
      cases ns with
      | nil =>
        refine q_when (b := false || (true || true)) (et_or c1 fun _ => et_or (et_is (et_test (ev_op (ev_lenT (K := K) (ta := tVar 1) v1 (st_of ha)) ev_c (rv_eq rfl))) rfl) fun z => by cases z) (fun _ H1 e1 => s_ret ev_c fun H2 e2 => k H2 (e1.trans e2)) (fun z => by cases z)
      | cons r ns =>
        have hat : atI ((r :: ns).map V.int) 0 = some (.int r) := atI_nat (j := 0) (by rw [List.getElem?_map]; rfl)
        have i0 : ∀ {H1 : Hp}, Ex H H1 → Ev (tOp (rIxT K) (tVar 1) (tC (.int 0))) (start nLetWay [wv, V.ref a]) H1 (.int r) := fun e => ev_op v1 ev_c (rv_ixT (st_of (e _ _ ha)) hat)
        have hz : decide (V.int (((r :: ns).map V.int).length : Int) = V.int 0) = false := by
          apply decide_eq_false
          intro z
          injection z with z
          simp at z
          omega
        refine q_when (b := false || (false || !isR (rows.length : Int) (.int r))) (et_or c1 fun _ => et_or (et_is (et_test (ev_op (ev_lenT (K := K) (ta := tVar 1) v1 (st_of ha)) ev_c (rv_eq rfl))) hz) fun _ => et_not (et_B (ev_call (ea_cons (ev_wsize W.tx v0 hw) (ea_cons (i0 (Ex.refl H)) ea_nil)) (spP_v fun H1 e => ⟨_, .int r, .int r, rfl, .int r, rfl⟩)))) (fun hb H1 e1 => s_ret ev_c fun H2 e2 => ?_) (fun hb H1 e1 => ?_)
        · have hb' : isR (rows.length : Int) (.int r) = false := by simpa using hb
          rw [show letW rows (r :: ns) = (isR (rows.length : Int) (.int r) && decide (r :: ns ∈ rows.getD r.toNat [])) from rfl, hb'] at k
          exact k H2 (e1.trans e2)
        · have hb' : isR (rows.length : Int) (.int r) = true := by simpa using hb
          rw [show letW rows (r :: ns) = (isR (rows.length : Int) (.int r) && decide (r :: ns ∈ rows.getD r.toNat [])) from rfl, hb'] at k
          have hb2 := hb'
          unfold isR at hb2
          simp only [Bool.and_eq_true, decide_eq_true_eq] at hb2
          obtain ⟨_, h0, hn⟩ := hb2
          have h0' : 0 ≤ r := h0
          have hn' : r ≤ (rows.length : Int) - 1 := hn
          have hrl : r.toNat < rows.length := by omega
          have hrw : rows[r.toNat]? = some rows[r.toNat] := List.getElem?_eq_getElem hrl
          have erg : rows.getD r.toNat [] = rows[r.toNat] := by
            rw [List.getD_eq_getElem?_getD, hrw]
            rfl
          rw [erg] at k
          generalize rows[r.toNat] = row at *
          refine ret_op (v1 H1 (Ex.refl _) _ fun H2 e2 => ?_)
          refine t_ways (σ := start nLetWay [wv, V.ref a]) (i := r.toNat) v0 (hw.up (e1.trans e2)) ?_ hrw fun u H3 e3 hu => ?_
          · rw [show (V.int ((r.toNat : Nat) : Int)) = V.int r by rw [Int.toNat_of_nonneg h0']]
            exact i0 (e1.trans e2)
          · have hv3 := hv.mono ((e1.trans e2).trans e3)
            refine ⟨wd (r :: ns), row.map wd, Dq.dp (SeqAt.canLay_of_shaped (shaped_wd _)) hv3, ?_, shaped_wd _, ?_, ?_⟩
            · exact Dq.dp (by simpa [PyData.canLay0] using lay_wds row) hu
            · exact lay_wds row
            · rw [any_wd]
              exact k H3 ((e1.trans e2).trans e3)
end
end Wk

set_option Elab.async false
set_option linter.all false
set_option maxRecDepth 100000
set_option maxHeartbeats 2000000
namespace Wk
open L2 PySem PySem.Spec PyProof.Rows Evl
theorem asc_eq : ∀ {l m : List Nat}, l.Pairwise (· < ·) → m.Pairwise (· < ·) → (∀ x, x ∈ l ↔ x ∈ m) → l = m
  | [], [], _, _, _ => rfl
  | [], b :: m, _, _, h => absurd ((h b).mpr List.mem_cons_self) (by simp)
  | a :: l, [], _, _, h => absurd ((h a).mp List.mem_cons_self) (by simp)
  | a :: l, b :: m, h1, h2, h => by
    obtain ⟨ha, hl⟩ := List.pairwise_cons.mp h1
    obtain ⟨hb, hm⟩ := List.pairwise_cons.mp h2
    have e : a = b := by
      rcases List.mem_cons.mp ((h a).mp List.mem_cons_self) with z | z
      · exact z
      · rcases List.mem_cons.mp ((h b).mpr List.mem_cons_self) with y | y
        · exact y.symm
        · have := ha b y
          have := hb a z
          omega
    subst e
    rw [asc_eq hl hm fun x => ?_]
    constructor
    · intro hx
      rcases List.mem_cons.mp ((h x).mp (List.mem_cons_of_mem _ hx)) with z | z
      · have := ha x hx
        omega
      · exact z
    · intro hx
      rcases List.mem_cons.mp ((h x).mpr (List.mem_cons_of_mem _ hx)) with z | z
      · have := hb x hx
        omega
      · exact z
def prW (w : Wy) : Wy := [w.getD 1 0, w.getD 0 0]
def lnB (w : Wy) : Bool := !decide (w.getD 1 0 = 0)
def pairsW (rows : List (List Wy)) : List Wy := (rows.flatten.filter lnB).map prW
def cdW (c : Nat) : Wy := [((c / 8 : Nat) : Int), ((c % 8 : Nat) : Int)]
def linesW (rows : List (List Wy)) : List Wy := ((List.range 64).filter fun c => decide (cdW c ∈ pairsW rows)).map cdW
theorem cd_pair {u v : Nat} (hv : v < 8) : cdW (u * 8 + v) = [(u : Int), (v : Int)] := by
  unfold cdW
  rw [show (u * 8 + v) / 8 = u by omega, show (u * 8 + v) % 8 = v by omega]
def enW (w : Wy) : Nat := (w.getD 0 0).toNat * 8 + (w.getD 1 0).toNat
theorem lines_unique {rows : List (List Wy)} {M : List Wy} (hb : ∀ p ∈ pairsW rows, ∃ u v : Nat, u < 8 ∧ v < 8 ∧ p = [(u : Int), (v : Int)]) (hm : ∀ p, p ∈ M ↔ p ∈ pairsW rows) (nd : M.Nodup)
    (pw : M.Pairwise fun q r => TS.code 64 q ≤ TS.code 64 r) : M = linesW rows := by
  have hM : ∀ p ∈ M, ∃ u v : Nat, u < 8 ∧ v < 8 ∧ p = [(u : Int), (v : Int)] := fun p hp => hb p ((hm p).mp hp)
  have e1 : (M.map enW).map cdW = M := by
    rw [List.map_map]
    refine (List.map_congr_left fun p hp => ?_).trans (List.map_id M)
    obtain ⟨u, v, hu, hv, rfl⟩ := hM p hp
    show cdW ((u : Int).toNat * 8 + (v : Int).toNat) = _
    rw [Int.toNat_natCast, Int.toNat_natCast, cd_pair hv]
    rfl
  have e2 : (M.map enW).Pairwise (· < ·) := by
    rw [List.pairwise_map]
    refine List.Pairwise.imp_of_mem (R := fun q r => TS.code 64 q ≤ TS.code 64 r ∧ q ≠ r) ?_ (pw.and nd)
    intro q r hq hr ⟨h, hne⟩
    obtain ⟨u, v, hu, hv, rfl⟩ := hM q hq
    obtain ⟨x, y, hx, hy, rfl⟩ := hM r hr
    have z := pair_lt h hne (by omega) (by omega) (by omega) (by omega)
    show (u : Int).toNat * 8 + (v : Int).toNat < (x : Int).toNat * 8 + (y : Int).toNat
    rw [Int.toNat_natCast, Int.toNat_natCast, Int.toNat_natCast, Int.toNat_natCast]
    omega
  have e3 : ((List.range 64).filter fun c => decide (cdW c ∈ pairsW rows)).Pairwise (· < ·) := List.Pairwise.filter _ List.pairwise_lt_range
  have e4 : M.map enW = (List.range 64).filter fun c => decide (cdW c ∈ pairsW rows) := by
    refine asc_eq e2 e3 fun c => ?_
    rw [List.mem_map, List.mem_filter, List.mem_range, decide_eq_true_eq]
    constructor
    · rintro ⟨p, hp, rfl⟩
      have hp2 := (hm p).mp hp
      obtain ⟨u, v, hu, hv, rfl⟩ := hM p hp
      have ee : enW [(u : Int), (v : Int)] = u * 8 + v := by
        show (u : Int).toNat * 8 + (v : Int).toNat = _
        rw [Int.toNat_natCast, Int.toNat_natCast]
      rw [ee]
      exact ⟨by omega, by rw [cd_pair hv]; exact hp2⟩
    · rintro ⟨hc, hp⟩
      refine ⟨cdW c, (hm _).mpr hp, ?_⟩
      show (((c / 8 : Nat) : Int)).toNat * 8 + (((c % 8 : Nat) : Int)).toNat = c
      rw [Int.toNat_natCast, Int.toNat_natCast]
      omega
  rw [← e1, e4]
  rfl
theorem pairs_bd {rows : List (List Wy)} (hG : GW rows) (h8 : rows.length ≤ 8) : ∀ p ∈ pairsW rows, ∃ u v : Nat, u < 8 ∧ v < 8 ∧ p = [(u : Int), (v : Int)] := by
  intro p hp
  obtain ⟨w, hw, rfl⟩ := List.mem_map.mp hp
  obtain ⟨hw, _⟩ := List.mem_filter.mp hw
  obtain ⟨row, hr, hwr⟩ := List.mem_flatten.mp hw
  obtain ⟨i, hi, rfl⟩ := List.getElem_of_mem hr
  have ok := hG.ok i _ (List.getElem?_eq_getElem hi) w hwr
  have l2 := ok.l2
  have g : ∀ k, k < 2 → ∃ n : Nat, n < 8 ∧ w.getD k 0 = (n : Int) := by
    intro k hk
    have hkl : k < w.length := by omega
    have e : w.getD k 0 = w[k] := by
      rw [List.getD_eq_getElem?_getD, List.getElem?_eq_getElem hkl]
      rfl
    have b := ok.rg _ (List.getElem_mem hkl)
    refine ⟨(w[k]).toNat, by omega, ?_⟩
    rw [e]
    omega
  obtain ⟨u, hu, eu⟩ := g 1 (by omega)
  obtain ⟨v, hv, ev⟩ := g 0 (by omega)
  exact ⟨u, v, hu, hv, by unfold prW; rw [eu, ev]⟩
end Wk

set_option Elab.async false
set_option linter.all false
set_option maxRecDepth 100000
set_option maxHeartbeats 2000000
namespace Wk
open L2 PySem PySem.Spec PyProof.Rows Evl
/-- what has grown as pairs of an address and whole numbers -/
theorem grown_ks {z : Nat → Wy} {H : Hp} : ∀ {js : List Nat} {us : List V}, Grown (TupY fun i => (z i).map V.int) H js us → ∃ ks : List (Addr × List Int), us = (ks.map fun p => V.ref p.1) ∧ ks.map (·.2) = js.map z ∧
    ∀ p ∈ ks, H p.1 = some (.tup (p.2.map V.int))
  | [], us, h => ⟨[], h, rfl, fun p hp => by cases hp⟩
  | j :: js, us, ⟨u, r, h1, ⟨b, h2, h3⟩, h4⟩ => by
    obtain ⟨ks, k1, k2, k3⟩ := grown_ks h4
    subst h1 h2
    refine ⟨(b, z j) :: ks, by rw [k1]; rfl, by rw [List.map_cons, k2]; rfl, ?_⟩
    intro p hp
    rcases List.mem_cons.mp hp with e | e
    · subst e
      exact h3
    · exact k3 p e
theorem ks_wds {H : Hp} : ∀ {ks : List (Addr × List Int)}, (∀ p ∈ ks, H p.1 = some (.tup (p.2.map V.int))) → DqA H (ks.map fun p => V.ref p.1) ((ks.map (·.2)).map wd)
  | [], _ => .nil
  | p :: ks, h => .cons (wd_of (h p List.mem_cons_self)) (ks_wds fun q hq => h q (List.mem_cons_of_mem _ hq))
theorem upTo_pairs {l : List Wy} (p : Wy) : p ∈ (upTo (fun i => lnB (l.getD i [])) l.length).map (fun i => prW (l.getD i [])) ↔ p ∈ (l.filter lnB).map prW := by
  unfold upTo
  have gd : ∀ i (h : i < l.length), l.getD i [] = l[i] := fun i h => by
    rw [List.getD_eq_getElem?_getD, List.getElem?_eq_getElem h]
    rfl
  constructor
  · intro h
    obtain ⟨i, hi, rfl⟩ := List.mem_map.mp h
    obtain ⟨h1, h2⟩ := List.mem_filter.mp hi
    have h3 := List.mem_range.mp h1
    rw [gd i h3] at h2 ⊢
    exact List.mem_map.mpr ⟨_, List.mem_filter.mpr ⟨List.getElem_mem h3, h2⟩, rfl⟩
  · intro h
    obtain ⟨w, hw, rfl⟩ := List.mem_map.mp h
    obtain ⟨h1, h2⟩ := List.mem_filter.mp hw
    obtain ⟨i, hi, rfl⟩ := List.getElem_of_mem h1
    refine List.mem_map.mpr ⟨i, List.mem_filter.mpr ⟨List.mem_range.mpr hi, ?_⟩, ?_⟩
    · rw [gd i hi]
      exact h2
    · rw [gd i hi]
section
variable {P : Program} {w : World} {K : PySem.W.Frag} {mg : Str → Option Value} {base : Heap} {f : Addr} {fd : FuncData} {CW CN : Addr}
/-! Wishes.lines -/
def spLines (CW : Addr) : Sp := fun vs H Q _ => ∃ (v : V) (rows : List (List Wy)), vs = [v] ∧ WO CW H v rows ∧ ∀ H' l us, Ex H H' → H l = none → H' l = some (.lst us) → DqA H' us ((linesW rows).map wd) → Q (.ref l) H'
abbrev nLines : List Str := ["self", "way"]
abbrev sLines : Stmt := inClass (top 21) 3
theorem scLines : FnScope nLines ["self"] (defScope sLines) := ⟨rfl, rfl, rfl, by decide +kernel, rfl, by decide +kernel, by decide +kernel⟩
theorem ok_lines (B : Bl mg) (hs : mg "sorted" = none) (C : Cal P w K mg base "let_ways" ["wishes"] 6 (spLetWays CW)) (F : FnM K "lines" "Wishes.lines" sLines f fd) : FnOk P w K mg base CX0 7 f fd ["self"] (spLines CW) := by
  refine F.ok scLines (fun vs H Q E h => ?_) (fun cdv A outer s H vs Q E hr h => ?_)
  · obtain ⟨v, rows, rfl, _⟩ := h
    rfl
  · obtain ⟨v, rows, rfl, hw, k⟩ := h
    have hu : (A.deeper (envOfC "Wishes.lines" (defScope sLines) s.heap.objs.size f cdv)).units + 64 < cLine := by have := hr.un; omega
    refine ⟨_, pss_one (ps_ret (pe_callB (cr_sortedT rfl) (by rfl) hs boot_sorted (pa_cons (pe_callTy (cr_setOfT rfl hu) (by rfl) B.set PyProof.Rows.boot_set (pa_cons
      (pe_lc (own := [("way", 1)]) (g := gName 1) (tt := tTest (tOp rNe (tOp (rIxT K) (tVar 1) (tC (.int 1))) (tC (.int 0)))) (te := tTup (tCons (tOp (rIxT K) (tVar 1) (tC (.int 1))) (tCons (tOp (rIxT K) (tVar 1) (tC (.int 0))) tNil))) rfl scLines.nd
        (pi_list (pe_cal C hr (by rfl) (pa_cons (pv 0) pa_nil))) (blkOk_by (N := nLines) (sc := defScope sLines) (by decide +kernel)) (fun _ _ _ _ _ => pg_name (i := 1) scLines.nd rfl (Or.inl rfl))
        (fun _ _ _ _ _ => pts_one (pt_cmpR op_ne (pe_ix ix_tup (pv 1) pe_int (fun _ _ => rfl)) pe_int (nomark _)))
        (fun _ _ _ _ _ => pe_tup (pa_cons (pe_ix ix_tup (pv 1) pe_int (fun _ _ => rfl)) (pa_cons (pe_ix ix_tup (pv 1) pe_int (fun _ _ => rfl)) pa_nil)))) pa_nil)) pa_nil))), ?_⟩
    have hlf := len_flat hw.r6
    have n8 := hw.n8
    have hpb := pairs_bd hw.g hw.n8
    refine ret_cb (cb1 ?_)
    refine ⟨v, rfl, v, rows, rfl, hw, fun H1 l us e1 hl0 hl hus => ?_⟩
    have hul := hus.length
    rw [List.length_map] at hul
    have two : ∀ {i : Nat} {x : V}, us[i]? = some x → ∃ (a : Addr) (w : Wy), x = .ref a ∧ rows.flatten.getD i [] = w ∧ H1 a = some (.tup (w.map V.int)) ∧ atI (w.map V.int) 1 = some (.int (w.getD 1 0)) ∧ atI (w.map V.int) 0 = some (.int (w.getD 0 0)) := by
      intro i x hx
      obtain ⟨w, h1, h2⟩ := DqA.wds_inv hus hx
      obtain ⟨a, rfl, ha⟩ := wd_ref h2
      obtain ⟨row, hr, hwr⟩ := List.mem_flatten.mp (List.mem_of_getElem? h1)
      obtain ⟨j, hj, rfl⟩ := List.getElem_of_mem hr
      have ok := hw.g.ok j _ (List.getElem?_eq_getElem hj) w hwr
      have l2 := ok.l2
      refine ⟨a, w, rfl, by rw [List.getD_eq_getElem?_getD, h1]; rfl, ha, ?_, ?_⟩
      · refine atI_nat (j := 1) ?_
        rw [List.getElem?_map, List.getD_eq_getElem?_getD, List.getElem?_eq_getElem (by omega)]
        rfl
      · refine atI_nat (j := 0) ?_
        rw [List.getElem?_map, List.getD_eq_getElem?_getD, List.getElem?_eq_getElem (by omega)]
        rfl
    refine ⟨l, rfl, ⟨us, sq_of hl⟩, fun D hD => ?_⟩
    refine grow_lc (walk_list (K := K) (a := l) (xs := us)) (Yx := fun i x => us[i]? = some x) (tupY_good fun i => (prW (rows.flatten.getD i [])).map V.int) (fun i => lnB (rows.flatten.getD i [])) hD (by omega)
      (fun H' e => sq_of (e _ _ hl)) (fun x => rfl) (fun i x H' e hi hx => ?_) (fun i x H' e hi hx _ => ?_) (fun us2 H2 e2 hd g => ?_)
    · obtain ⟨a, w, rfl, ew, ha, at1, _⟩ := two hx
      rw [ew]
      have i1 : Ev (tOp (rIxT K) (tVar 1) (tC (.int 1))) ((wipe (start nLines [v]) [1]).set 1 (some (.ref a))) H' (.int (w.getD 1 0)) := ev_op (ev_var rfl) ev_c (rv_ixT (st_of (e _ _ ha)) at1)
      refine et_is (et_test (ev_op i1 ev_c (rv_ne rfl))) ?_
      unfold lnB
      congr 1
      exact decide_eq_decide.mpr ⟨fun z => by injection z, fun z => by rw [z]⟩
    · obtain ⟨a, w, rfl, ew, ha, at1, at0⟩ := two hx
      have i1 : Ev (tOp (rIxT K) (tVar 1) (tC (.int 1))) ((wipe (start nLines [v]) [1]).set 1 (some (.ref a))) H' (.int (w.getD 1 0)) := ev_op (ev_var rfl) ev_c (rv_ixT (st_of (e _ _ ha)) at1)
      have i0 : Ev (tOp (rIxT K) (tVar 1) (tC (.int 0))) ((wipe (start nLines [v]) [1]).set 1 (some (.ref a))) H' (.int (w.getD 0 0)) := ev_op (ev_var rfl) ev_c (rv_ixT (st_of (e _ _ ha)) at0)
      intro H3 e3 Q3 q
      refine (ea_cons i1 (ea_cons i0 ea_nil)) H3 e3 _ fun H4 e4 => ⟨by show 2 ≤ sizeLine; decide, fun p hp => q _ _ (e4.trans (Ex.new hp)) ⟨p, rfl, ?_⟩⟩
      show upd H4 p _ p = some (.tup ((prW (rows.flatten.getD i [])).map V.int))
      rw [ew]
      exact upd_same
    · obtain ⟨ks, k1, k2, k3⟩ := grown_ks g
      subst k1
      have hkl : ks.length < 64 := by
        have z := congrArg List.length k2
        rw [List.length_map, List.length_map] at z
        have := upTo_len (fun i => lnB (rows.flatten.getD i [])) us.length
        omega
      have hmem : ∀ p, p ∈ ks.map (·.2) ↔ p ∈ pairsW rows := by
        intro p
        rw [k2, hul]
        exact upTo_pairs p
      refine ⟨D, ks, rfl, sq_of hd, fun p hp => st_of (k3 p hp), hkl, fun a L ha h1 h2 => ?_⟩
      have ea := Ex.new (o := SetTO P w a L) ha
      refine ⟨a, L, 2, 64, rfl, upd_same, fun p hp => st_of (ea _ _ (k3 p (h1 p hp))), by decide, fun p hp => ?_, fun L' p pm nd l64 pw hp => ?_⟩
      · obtain ⟨u, v', hu', hv', ep⟩ := hpb p.2 ((hmem _).mp (List.mem_map.mpr ⟨p, h1 p hp, rfl⟩))
        rw [ep]
        refine ⟨rfl, fun m hm => ?_⟩
        rcases List.mem_cons.mp hm with z | z
        · omega
        · rcases List.mem_cons.mp z with z | z
          · omega
          · cases z
      · have eM : L'.map (·.2) = linesW rows := by
          refine lines_unique hpb (fun q => ?_) nd (List.pairwise_map.mpr pw)
          rw [← hmem]
          constructor
          · intro hq
            obtain ⟨r, hr', rfl⟩ := List.mem_map.mp hq
            exact List.mem_map.mpr ⟨r, h1 r (pm.mem_iff.mp hr'), rfl⟩
          · intro hq
            obtain ⟨r, hr', rfl⟩ := List.mem_map.mp hq
            obtain ⟨r2, hr2, e⟩ := List.mem_map.mp (h2 r hr')
            exact List.mem_map.mpr ⟨r2, pm.mem_iff.mpr hr2, e⟩
        have ep := Ex.new (o := .lst (L'.map fun q => V.ref q.1)) hp
        refine k _ p _ ((e1.trans e2).trans (ea.trans ep)) (fresh_back ((e1.trans e2).trans ea) hp) upd_same ?_
        rw [← eM]
        exact ks_wds fun q hq => ep _ _ (ea _ _ (k3 q (h1 q (pm.mem_iff.mp hq))))
end
end Wk

set_option Elab.async false
set_option linter.all false
set_option maxRecDepth 100000
set_option maxHeartbeats 2000000
namespace Wk
open L2 PySem PySem.Spec PyProof.Rows Evl
def keepW (rows : List (List Wy)) (ws : List Wy) : List (List Wy) := rows.map fun row => row.filter fun w => !decide (w ∈ ws)
theorem khas_in {kvs : List (List L2.Key × V)} {ws : List Wy} (h : KHas (fun i => keyW (ws.getD i [])) ws.length kvs) (w : Wy) : (valV kvs (keyW w)).isSome = decide (w ∈ ws) := by
  have gd : ∀ i (h : i < ws.length), ws.getD i [] = ws[i] := fun i h => by
    rw [List.getD_eq_getElem?_getD, List.getElem?_eq_getElem h]
    rfl
  rcases h (keyW w) with ⟨z, j, hj, e⟩ | ⟨z, n⟩
  · rw [z]
    have e2 := keyW_inj e
    rw [gd j hj] at e2
    exact (decide_eq_true (by rw [← e2]; exact List.getElem_mem hj)).symm
  · rw [z]
    refine (decide_eq_false ?_).symm
    intro hm
    obtain ⟨j, hj, e⟩ := List.getElem_of_mem hm
    exact n j hj (by show keyW (ws.getD j []) = _; rw [gd j hj, e])
/-- Wishes(lists), the lists good -/
theorem t_makeH {CW CB : Addr} {σ : L2.St} {H : Hp} {rows : List (List Wy)} {Q : VK} {W : L2.St → XK} {ta : TE} (ha : ∀ R : VK, (∀ v H1, Ex H H1 → Dq H1 v (pd rows) → R v H1) → ta σ H R) (hG : GW rows) (h2 : 2 ≤ rows.length) (h8 : rows.length ≤ 8)
    (h6 : ∀ row ∈ rows, row.length ≤ 6) (k : ∀ H' x, Ex H H' → WO CW H' (.ref x) rows → Q (.ref x) H') : tMkAt CW (spWI CW CB) W (tCons ta tNil) σ H Q := by
  refine ha _ fun v H1 e1 hv => fun x dx nx ndx nex => ?_
  have hdue := due_pd hG h2 h8 h6
  have hl : (itemsT (pd rows)).length = rows.length := by simp [pd, itemsT]
  refine ⟨H1, x, dx, v, pd rows, rfl, upd_same, fun b o hb => ?_, nx, hv, fun _ H2 e2 hx => ⟨rfl, ?_⟩, fun r hr => ?_⟩
  · rw [upd_ne (ne_of_none hb nx), upd_ne (ne_of_none hb ndx)]
    exact hb
  · rw [hl] at hx
    exact k H2 x (e1.trans e2) ⟨⟨x, dx, v, rfl, hx, hv.mono e2⟩, hG, h2, h8, h6⟩
  · rw [hdue] at hr
    cases hr
theorem q_asgW {te : TE} {tz : TS} {D : Ends} {σ : L2.St} {H : Hp} {i : Nat} (h : te σ H fun x H1 => tz D (σ.set i (some x)) H1) : tSeq (tAsg te (gName i)) tz D σ H := h
theorem ev_dNotInY {ty td : TE} {σ : L2.St} {H : Hp} {k : List L2.Key} {D : Addr} {kvs : List (List L2.Key × V)} (hy : EvY ty σ H (fun u H2 => ∃ b, u = .ref b ∧ H2 b = some (.tup (k.map kV)))) (hd : Ev td σ H (.ref D))
    (hD : H D = some (.dT kvs)) : Ev (tDNotIn ty td) σ H (.bl (!(valV kvs k).isSome)) := fun H1 e Q q => hy H1 e _ fun u H2 e2 hu => by
  obtain ⟨b, rfl, hb⟩ := hu
  exact hd H2 (e.trans e2) _ fun H3 e3 => ⟨D, valV kvs k, rfl, DGet.t ((e.trans (e2.trans e3)) _ _ hD) (e3 _ _ hb), q H3 (e2.trans e3)⟩
theorem range_rows {α : Type} (d : α) (l : List α) : (List.range l.length).map (fun i => l.getD i d) = l := by
  apply List.ext_getElem (by simp)
  intro i h1 h2
  rw [List.getElem_map, List.getElem_range, List.getD_eq_getElem?_getD, List.getElem?_eq_getElem h2]
  rfl
def RdY (rows : Nat → List Wy) : Nat → V → Hp → Prop := fun i u H => Dq H u (rd (rows i))
theorem rdY_good (rows : Nat → List Wy) : GoodY (RdY rows) := by
  refine ⟨fun i u H H' e h => Dq.mono e h, fun i u H D l hD h => ?_⟩
  unfold RdY rd at h ⊢
  cases h with
  | tup h1 h2 =>
    refine .tup ((off_at ?_).trans h1) (wds_off hD h2)
    intro z
    rw [z, hD] at h1
    cases h1
theorem grown_rds {rs : Nat → List Wy} {H : Hp} : ∀ {js : List Nat} {us : List V}, Grown (RdY rs) H js us → DqA H us ((js.map rs).map rd)
  | [], us, h => by
    rw [show us = [] from h]
    exact .nil
  | j :: js, us, ⟨u, r, h1, h2, h4⟩ => by
    subst h1
    exact .cons h2 (grown_rds h4)
theorem upTo_filter (g : Wy → Bool) (l : List Wy) : (upTo (fun i => g (l.getD i [])) l.length).map (fun i => l.getD i []) = l.filter g := by
  suffices h : ∀ n, n ≤ l.length → (upTo (fun i => g (l.getD i [])) n).map (fun i => l.getD i []) = (l.take n).filter g by
    have z := h l.length (Nat.le_refl _)
    rw [List.take_length] at z
    exact z
  intro n
  induction n with
  | zero => intro _; rfl
  | succ n ih =>
    intro hn
    have hl : l[n]? = some l[n] := List.getElem?_eq_getElem hn
    have gd : l.getD n [] = l[n] := by
      rw [List.getD_eq_getElem?_getD, hl]
      rfl
    have ih := ih (by omega)
    rw [take_snoc hl, List.filter_append]
    cases hg : g (l.getD n []) with
    | true =>
      rw [upTo_yes (f := fun i => g (l.getD i [])) hg, List.map_append, ih]
      rw [gd] at hg
      simp [hg, hl]
    | false =>
      rw [upTo_no (f := fun i => g (l.getD i [])) hg, ih]
      rw [gd] at hg
      simp [hg]
section
variable {P : Program} {w : World} {K : PySem.W.Frag} {mg : Str → Option Value} {base : Heap} {f : Addr} {fd : FuncData} {CW CN CB : Addr}
structure MkW (P : Program) (w : World) (K : PySem.W.Frag) (mg : Str → Option Value) (base : Heap) (CW CB : Addr) : Prop where
  tx : WTx K mg CW
  ex : ∃ (fI : Addr) (fd : FuncData), Mk K CW fI ∧ FnOk P w K mg base (L2.CX P w) 8 fI fd ["self", "lists"] (spWI CW CB) ∧ Binds K fd ["self", "lists"] []
/-! Wishes._without -/
def spWithout (CW : Addr) : Sp := fun vs H Q _ => ∃ (v : V) (l : Addr) (us : List V) (rows : List (List Wy)) (ws : List Wy), vs = [v, .ref l] ∧ WO CW H v rows ∧ H l = some (.lst us) ∧ DqA H us (ws.map wd) ∧ ws.length ≤ 1000 ∧ GW (keepW rows ws) ∧
  ∀ H' x, Ex H H' → WO CW H' (.ref x) (keepW rows ws) → Q (.ref x) H'
abbrev nWithout : List Str := ["self", "lost", "gone", "way", "item"]
abbrev sWithout : Stmt := inClass (top 21) 6
theorem scWithout : FnScope nWithout ["self", "lost"] (defScope sWithout) := ⟨rfl, rfl, rfl, by decide +kernel, rfl, by decide +kernel, by decide +kernel⟩
theorem ok_without (B : Bl mg) (M : MkW P w K mg base CW CB) (F : FnM K "_without" "Wishes._without" sWithout f fd) : FnOk P w K mg base (L2.CX P w) 10 f fd ["self", "lost"] (spWithout CW) := by
  obtain ⟨fI, fdI, mk, FI, bI⟩ := M.ex
  refine F.ok scWithout (fun vs H Q E h => ?_) (fun cdv A outer s H vs Q E hr h => ?_)
  · obtain ⟨v, l, us, rows, ws, rfl, _⟩ := h
    rfl
  · obtain ⟨v, l, us, rows, ws, rfl, hw, hl, hus, hwl, hG, k⟩ := h
    have hu : (A.deeper (envOfC "Wishes._without" (defScope sWithout) s.heap.objs.size f cdv)).units + 1 < cLine := by have := hr.un; omega
    refine ⟨_, pss_cons (ps_set (i := 2) scWithout.nd rfl (Or.inr rfl) (pe_dq (own := [("way", 3)]) (g := gName 3) (tt := tYes) (tk := tVar 3) (tv := tC (.bl true)) rfl hu scWithout.nd (pi_list (pv 1)) (blkOk_by (N := nWithout) (sc := defScope sWithout) (by decide +kernel))
        (fun _ _ _ _ _ => pg_name (i := 3) scWithout.nd rfl (Or.inl rfl)) (fun _ _ _ _ _ => pts_nil) (fun _ _ _ _ _ => pv 3) (fun _ _ _ _ _ => pe_bl)))
      (pss_one (ps_ret (pe_mkAt mk FI hr (by rfl) M.tx.g bI (fun σ => passAt takes0 σ) (pa_cons
        (pe_callTy (call_tupleK (K := K) rfl) (by rfl) B.tuple PyProof.Rows.boot_tuple (pa_cons
          (pe_lc (own := [("item", 4)]) (g := gName 4) (tt := tYes) (te := tCB (fun xs H Q => ∃ p ys, xs = [.ref p] ∧ ((SqL K H p ys ∧ ∀ l, H l = none → Q (.ref l) (upd H l (.tup ys))) ∨ (SqT K H p ys ∧ Q (.ref p) H)))
              (tCons (tLc (iTup K (tVar 4)) (gName 3) (tTest (tDNotIn (tVar 3) (tVar 2))) (tVar 3) [3]) tNil)) rfl scWithout.nd (pi_tup (pe_fld (pv 0) rfl)) (blkOk_by (N := nWithout) (sc := defScope sWithout) (by decide +kernel))
            (fun _ _ _ _ _ => pg_name (i := 4) scWithout.nd rfl (Or.inl rfl)) (fun _ _ _ _ _ => pts_nil)
            (fun _ _ _ _ _ => pe_callTy (call_tupleK (K := K) rfl) (by rfl) B.tuple PyProof.Rows.boot_tuple (pa_cons
              (pe_lc (own := [("way", 3)]) (g := gName 3) (tt := tTest (tDNotIn (tVar 3) (tVar 2))) rfl scWithout.nd (pi_tupK (K := K) rfl (pv 4)) (blkOk_by (N := nWithout) (by first | rfl | decide +kernel))
                (fun _ _ _ _ _ => pg_name (i := 3) scWithout.nd rfl (Or.inl rfl)) (fun _ _ _ _ _ => pts_one (pt_cmp (pc_dnotin hu (pv 3) (pv 2)))) (fun _ _ _ _ _ => pv 3)) pa_nil))) pa_nil)) pa_nil)))), ?_⟩
    obtain ⟨wa, dx, lv, rfl, hwa, hlv⟩ := hw.ex
    have n2 := hw.n2
    have n8 := hw.n8
    have hul := hus.length
    rw [List.length_map] at hul
    unfold pd at hlv
    cases hlv with
    | tup hla hlx =>
      rename_i la lxs
      have hll := hlx.length
      rw [List.length_map] at hll
      have kl : (keepW rows ws).length = rows.length := by unfold keepW; rw [List.length_map]
      refine q_asgW ?_
      refine ⟨.ref l, rfl, l, rfl, ⟨us, sq_of hl⟩, fun D hD => ?_⟩
      refine grow_dq (walk_list (K := K) (a := l) (xs := us)) (Yx := fun i x => us[i]? = some x) (k := fun i => keyW (ws.getD i [])) hD (by omega) (fun H' e => sq_of (e _ _ hl)) (fun x => rfl) (fun i x H' e hi hx => ?_) (fun i x H' e hi hx => ev_c) (fun kvs H1 e1 hd hk => ?_)
      · obtain ⟨w, h1, h2⟩ := DqA.wds_inv hus hx
        obtain ⟨a, rfl, ha⟩ := wd_ref h2
        show EvY _ _ _ (fun u H2 => ∃ b, u = .ref b ∧ H2 b = some (.tup ((keyW (ws.getD i [])).map kV)))
        rw [show ws.getD i [] = w by rw [List.getD_eq_getElem?_getD, h1]; rfl, keyW_kV]
        exact ey_old (ev_var rfl) (e _ _ ha)
      · rw [hul] at hk
        refine ret_any (t_makeH (rows := keepW rows ws) (fun R q => cb1 ?_) hG (by omega) (by omega) ?_ (fun H' x e hW => k H' x (e1.trans e) hW))
        · refine ⟨.ref wa, rfl, wa, CW, dx, _, _, rfl, e1 _ _ hwa, M.tx.cl, M.tx.nL, wf_lists _ _, la, rfl, ⟨lxs, st_of (e1 _ _ hla)⟩, fun D2 hD2 => ?_⟩
          refine grow_lc (walk_tup (K := K) (a := la) (xs := lxs)) (Yx := fun i x => lxs[i]? = some x) (rdY_good fun i => (keepW rows ws).getD i []) (fun _ => true) hD2 (by omega) (fun H' e => st_of (e _ _ (e1 _ _ hla))) (fun x => rfl)
            (fun _ _ _ _ _ _ => et_yes) (fun i x H2 e2 hi hx _ => ?_) (fun us2 H2 e2 hd2 g => ?_)
          · obtain ⟨d, hd1, hd2⟩ := hlx.get hx
            have hil : i < rows.length := by omega
            have hrw : rows[i]? = some rows[i] := List.getElem?_eq_getElem hil
            have hr6 := hw.r6 _ (List.getElem_mem hil)
            rw [List.getElem?_map, hrw] at hd1
            have ekw : (keepW rows ws).getD i [] = rows[i].filter fun w => !decide (w ∈ ws) := by
              unfold keepW
              rw [List.getD_eq_getElem?_getD, List.getElem?_map, hrw]
              rfl
            generalize rows[i] = row at *
            obtain rfl : rd row = d := Option.some.inj hd1
            unfold rd at hd2
            cases hd2 with
            | tup h1 h2 =>
              rename_i ua xs
              have hxl := h2.length
              rw [List.length_map] at hxl
              intro H3 e3 R3 q3
              have e03 := (e1.trans e2).trans e3
              refine cb1 ?_
              refine ⟨.ref ua, rfl, ua, rfl, ⟨xs, st_of (e03 _ _ h1)⟩, fun D3 hD3 => ?_⟩
              refine grow_lc (walk_tup (K := K) (a := ua) (xs := xs)) (Yx := fun i x => xs[i]? = some x) (tupY_good fun j => (row.getD j []).map V.int) (fun j => !decide (row.getD j [] ∈ ws)) hD3 (by omega) (fun H' e => st_of (e _ _ (e03 _ _ h1))) (fun x => rfl)
                (fun j y H4 e4 hj hy => ?_) (fun j y H4 e4 hj hy _ => ?_) (fun us3 H4 e4 hd3 g3 => ?_)
              · obtain ⟨w, g1, g2⟩ := DqA.wds_inv h2 hy
                obtain ⟨b, rfl, hb⟩ := wd_ref g2
                rw [show row.getD j [] = w by rw [List.getD_eq_getElem?_getD, g1]; rfl]
                refine et_is (et_test (ev_dNotInY (k := keyW w) ?_ (ev_var rfl) ((e2.trans (e3.trans e4)) _ _ hd))) (by rw [khas_in hk])
                rw [keyW_kV]
                exact ey_old (ev_var rfl) ((e03.trans e4) _ _ hb)
              · obtain ⟨w, g1, g2⟩ := DqA.wds_inv h2 hy
                obtain ⟨b, rfl, hb⟩ := wd_ref g2
                show EvY _ _ _ (fun u H2 => ∃ b, u = .ref b ∧ H2 b = some (.tup ((row.getD j []).map V.int)))
                rw [show row.getD j [] = w by rw [List.getD_eq_getElem?_getD, g1]; rfl]
                exact ey_old (ev_var rfl) ((e03.trans e4) _ _ hb)
              · have g4 := grown_wds g3
                rw [hxl, upTo_filter (fun w => !decide (w ∈ ws)) row] at g4
                refine ⟨D3, us3, rfl, .inl ⟨sq_of hd3, fun t ht => q3 _ _ (e4.trans (Ex.new ht)) ?_⟩⟩
                show Dq _ _ (rd ((keepW rows ws).getD i []))
                rw [ekw]
                exact .tup upd_same (g4.mono (Ex.new ht))
          · have g4 := grown_rds g
            rw [upTo_all, hll, ← kl, range_rows] at g4
            exact ⟨D2, us2, rfl, .inl ⟨sq_of hd2, fun t ht => q _ _ (e2.trans (Ex.new ht)) (.tup upd_same (g4.mono (Ex.new ht)))⟩⟩
        · intro row hr'
          unfold keepW at hr'
          obtain ⟨r0, hr0, rfl⟩ := List.mem_map.mp hr'
          exact Nat.le_trans (List.length_filter_le _ _) (hw.r6 r0 hr0)
end
end Wk


set_option Elab.async false
set_option linter.all false
set_option maxRecDepth 100000
set_option maxHeartbeats 2000000
namespace Wk
open L2 PySem PySem.Spec PyProof.Rows Evl
def isLi : PyData → Bool
  | .list _ => true
  | _ => false
theorem kit_lst (d : PyData) : kitB (tyN d) "list" = some (isLi d) := by
  cases d with
  | none => exact show kitB "NoneType" "list" = some false by decide +kernel
  | bool b => exact show kitB "bool" "list" = some false by decide +kernel
  | int i => exact show kitB "int" "list" = some false by decide +kernel
  | str z => exact show kitB "str" "list" = some false by decide +kernel
  | list ds => exact show kitB "list" "list" = some true by decide +kernel
  | tuple ds => exact show kitB "tuple" "list" = some false by decide +kernel
  | dict ds => exact show kitB "dict" "list" = some false by decide +kernel
def iSq (K : PySem.W.Frag) (tl : TE) : TI := fun σ H R => iList K tl σ H R ∨ iTup K tl σ H R
theorem pi_sqK {X : Cx} {K : PySem.W.Frag} {tg l : Expr} {tl : TE} (hK : X.K = K) (hl : PE X l tl) : PI X tg l (iSq K tl) := by
  subst hK
  exact ⟨fun pins s σ H R I h => h.elim (fun z => (pi_list hl).run pins s σ H R I z) (fun z => (pi_tup hl).run pins s σ H R I z)⟩
theorem pe_or2 {X : Cx} {e : Expr} {t u : TE} (h1 : PE X e t) (h2 : PE X e u) : PE X e (fun σ H Q => t σ H Q ∨ u σ H Q) :=
  ⟨fun pins s σ H Q I h => h.elim (fun z => h1.run pins s σ H Q I z) (fun z => h2.run pins s σ H Q I z)⟩
section
variable {X : Cx}
/-- len(set(xs)), xs a list of tuples of ints -/
def tLenSLU (K : PySem.W.Frag) (ta : TE) : TE := fun σ H Q => ta σ H fun x H1 => ∃ (l : Addr) (ks : List (Addr × List Int)), x = V.ref l ∧ SqL K H1 l (ks.map fun p => V.ref p.1) ∧ (∀ p ∈ ks, SqT K H1 p.1 (p.2.map V.int)) ∧ ks.length < 64 ∧
  ∀ n : Nat, (n = ks.length ↔ (ks.map (·.2)).Nodup) → Q (.int n) H1
theorem pe_lenSLU {a : Expr} {ta : TE} {p p2 q pos : Pos} (hc : X.calm = true) (hu : X.A.units + 64 < cLine) (hg : Gl X "len") (hm : X.mg "len" = none) (hg2 : Gl X "set") (hm2 : X.mg "set" = none) (ha : PE X a ta)
    (na : starEach [a] X.env = (false, eval a X.env) :: starEach [] X.env := by rfl) : PE X (.Call (.Name "len" p) [.Call (.Name "set" p2) [a] [] q] [] pos) (tLenSLU X.K ta) := by
  refine ⟨fun pins s σ H Q I h => Call_ (ld_blt I hg hm PySem.boot_len (PyProof.Rows.callWith_builtin1 (PyProof.Rows.args_cons (Call_ (ld_blt I hg2 hm2 PyProof.Rows.boot_set ?_)) rfl) rfl rfl))⟩
  refine PyProof.Rows.callWith_type1 (PyProof.Rows.args_cons (thn (ha.run pins s σ H _ I h) fun v s1 hh => PyProof.Rows.args_nil ?_) na) na rfl
  obtain ⟨x, H1, I1, r1, l, ks, rfl, hq, hk, few, q1⟩ := hh
  cases r1
  obtain ⟨its, r, pl, hz⟩ := I1.list hq
  refine call_set_tups (P := X.prog) (w := X.w) ks (I1.ok.hd hc) pl.isList (by simpa using refs_of_vals r) (fun p hp => I1.isT (hk p hp)) few (by omega) fun h' tk L es ep t R g k => PyProof.Rows.args_nil ?_
  have I2 : Inv X pins σ H1 { s1 with heap := h', toks := tk } := I1.kept fun b o e => k b o e
  have hes : es.size = L.length := R.size (s := { s1 with heap := h', toks := tk })
  have hf := R.fits (s := { s1 with heap := h', toks := tk })
  obtain ⟨o, ho, hex, hd⟩ := R.ob
  refine call_len_set (s := { s1 with heap := h', toks := tk }) ho hex hd hf (by have := R.few; omega) ⟨.int es.size, H1, I2.tok _, ⟨_, rfl⟩, q1 es.size ?_⟩
  have e1 : (L.map (·.2)).length = es.size := by simp [hes]
  have e2 : (ks.map (·.2)).length = ks.length := by simp
  rw [← e1, ← e2]
  refine nd_iff R.nd fun k => ⟨fun z => ?_, fun z => ?_⟩
  · obtain ⟨p, hp, rfl⟩ := List.mem_map.mp z
    exact List.mem_map.mpr ⟨p, List.mem_of_mem_take (g.sub p hp), rfl⟩
  · obtain ⟨p, hp, rfl⟩ := List.mem_map.mp z
    exact g.all p (by rw [List.take_length]; exact hp)
end
section
variable {K : PySem.W.Frag} {σ : L2.St} {H : Hp} {ta tb tl te : TE}
def tLenSq (K : PySem.W.Frag) (ta : TE) : TE := fun σ H Q => tLenSLU K ta σ H Q ∨ tLenSUU K ta σ H Q
theorem ev_lenSq {l : Addr} {ks : List (Addr × List Int)} (ha : Ev ta σ H (.ref l)) (h : H l = some (.lst (ks.map fun p => V.ref p.1)) ∨ H l = some (.tup (ks.map fun p => V.ref p.1))) (hk : ∀ p ∈ ks, H p.1 = some (.tup (p.2.map V.int))) (hl : ks.length < 64)
    (hb : Ev tb σ H (.int (ks.length : Int))) : Ev (tOp rEq (tLenSq K ta) tb) σ H (.bl (decide (ks.map (·.2)).Nodup)) := by
  have fin : ∀ H2 (Q : VK), Ex H H2 → (∀ H3, Ex H2 H3 → Q (.bl (decide (ks.map (·.2)).Nodup)) H3) → ∀ m : Nat, (m = ks.length ↔ (ks.map (·.2)).Nodup) → tb σ H2 fun y H3 => rEq (.int (m : Int)) y H3 Q := by
    intro H2 Q e2 q m hm
    refine hb H2 e2 _ fun H3 e3 => ⟨rfl, ?_⟩
    have ed : decide (V.int (m : Int) = V.int (ks.length : Int)) = decide (ks.map (·.2)).Nodup := by
      rw [decide_eq_decide]
      constructor
      · intro z
        injection z with z
        exact hm.mp (by omega)
      · intro z
        rw [hm.mpr z]
    rw [ed]
    exact q H3 e3
  intro H1 e Q q
  rcases h with h | h
  · exact .inl (ha H1 e _ fun H2 e2 => ⟨l, ks, rfl, sq_of ((e.trans e2) _ _ h), fun p hp => st_of ((e.trans e2) _ _ (hk p hp)), hl, fin H2 Q (e.trans e2) fun H3 e3 => q H3 (e2.trans e3)⟩)
  · exact .inr (ha H1 e _ fun H2 e2 => ⟨l, ks, rfl, st_of ((e.trans e2) _ _ h), fun p hp => st_of ((e.trans e2) _ _ (hk p hp)), hl, fin H2 Q (e.trans e2) fun H3 e3 => q H3 (e2.trans e3)⟩)
/-- all([e for x in xs]), xs a list or a tuple -/
theorem ev_allSq {a : Addr} {xs : List V} {j : Nat} {vs : List Nat} (f : Nat → Bool) (h : Ev tl σ H (.ref a)) (hx : H a = some (.lst xs) ∨ H a = some (.tup xs)) (hz : xs.length ≤ 1000) (hw : ∀ x, wipe ((wipe σ vs).set j (some x)) vs = wipe σ vs)
    (he : ∀ (i : Nat) (x : V) H1, Ex H H1 → xs[i]? = some x → Ev te ((wipe σ vs).set j (some x)) H1 (.bl (f i))) :
    Ev (tCB (rAll K) (tCons (tLc (iSq K tl) (gName j) tYes te vs) tNil)) σ H (.bl (((List.range xs.length).map f).all id)) := by
  rcases hx with hx | hx
  · have q := ev_allL (K := K) (ta := tLc (iList K tl) (gName j) tYes te vs) (σ := σ) (H := H) (bs := (List.range xs.length).map f) (by
      have q := el_lcL (K := K) (te := te) (t := tYes) (fun _ => true) (fun k => .bl (f k)) h (sq_of hx) (by omega) hw (fun _ _ _ _ _ => et_yes) (fun i x H1 e hi _ => he i x H1 e hi)
      rw [given_all] at q
      rw [List.map_map]
      exact q)
    exact fun H1 e Q k => Or.inl (q H1 e Q k)
  · have q := ev_allT (K := K) (te := te) f h (st_of hx) (by omega) hw he
    exact fun H1 e Q k => Or.inr (q H1 e Q k)
end
end Wk

set_option Elab.async false
set_option linter.all false
set_option maxRecDepth 100000
set_option maxHeartbeats 2000000
namespace Wk
open L2 PySem PySem.Spec PyProof.Rows Evl
def itemsS : PyData → List PyData
  | .list ds => ds
  | .tuple ds => ds
  | _ => []
def rowP (rows : List (List Wy)) (d : PyData) : Bool := ((isLi d || isTu d) && (itemsS d).all (letB rows)) && decide ((itemsS d).map rts).Nodup
theorem row_keys {G : Hp} {rows : List (List Wy)} : ∀ {ds : List PyData} {vs : List V}, DqA G vs ds → ds.all (letB rows) = true → ∃ ks : List (Addr × List Int), vs = ks.map (fun p => V.ref p.1) ∧ (∀ p ∈ ks, G p.1 = some (.tup (p.2.map V.int))) ∧ ks.map (·.2) = ds.map rts
  | [], _, .nil, _ => ⟨[], rfl, fun p hp => (by cases hp), rfl⟩
  | d :: ds, _, .cons h t, c => by
    have c' : letB rows d = true ∧ ds.all (letB rows) = true := by simpa using c
    obtain ⟨ks, e1, e2, e3⟩ := row_keys t c'.2
    have ed := intsB_wd (Bool.and_eq_true_iff.mp (show (intsB d && letW rows (rts d)) = true from c'.1)).1
    rw [ed] at h
    obtain ⟨a, rfl, ha⟩ := wd_ref h
    refine ⟨(a, rts d) :: ks, by rw [e1]; rfl, ?_, by rw [List.map_cons, e3]; rfl⟩
    intro p hp
    rcases List.mem_cons.mp hp with z | z
    · subst z
      exact ha
    · exact e2 p z
theorem pe_lenSq {X : Cx} {K : PySem.W.Frag} {a : Expr} {ta : TE} {p p2 q pos : Pos} (hK : X.K = K) (hc : X.calm = true) (hu : X.A.units + 64 < cLine) (hg : Gl X "len") (hm : X.mg "len" = none) (hg2 : Gl X "set") (hm2 : X.mg "set" = none) (ha : PE X a ta)
    (na : starEach [a] X.env = (false, eval a X.env) :: starEach [] X.env := by rfl) : PE X (.Call (.Name "len" p) [.Call (.Name "set" p2) [a] [] q] [] pos) (tLenSq K ta) := by
  subst hK
  exact pe_or2 (pe_lenSLU hc hu hg hm hg2 hm2 ha na) (pe_lenSUU hc hu hg hm hg2 hm2 ha na)
section
variable {P : Program} {w : World} {K : PySem.W.Frag} {mg : Str → Option Value} {base : Heap} {f : Addr} {fd : FuncData} {CW CN CB : Addr}
abbrev spIsRow : Sp := spP fun H vs z => ∃ (v : V) (d : PyData), vs = [v] ∧ Dq H v d ∧ z = .bl (isLi d || isTu d)
abbrev sIsRow : Stmt := top 10
theorem scIsRow : FnScope ["thing"] ["thing"] (defScope sIsRow) := ⟨rfl, rfl, rfl, by decide +kernel, rfl, by decide +kernel, by decide +kernel⟩
theorem ok_isRow (B : Bl mg) (F : FnP K "is_row" sIsRow f fd) : FnOk P w K mg base CX0 1 f fd ["thing"] spIsRow := by
  refine F.ok scIsRow (fun vs H Q E h => ?_) (fun cdv A outer s H vs Q E hr h => ?_)
  · obtain ⟨z, ⟨v, d, rfl, _⟩, _⟩ := h
    rfl
  · obtain ⟨z, ⟨v, d, rfl, hv, rfl⟩, k⟩ := h
    exact ⟨_, pss_one (ps_ret (pe_callB call_isiT (by rfl) B.isi boot_isinstance (pa_cons (pv 0) (pa_cons (pe_tup (pa_cons (pe_bltn (v := .ty "list") (by rfl) B.list PyProof.Rows.boot_list rfl) (pa_cons (pe_bltn (v := .ty "tuple") (by rfl) B.tuple PyProof.Rows.boot_tuple rfl) pa_nil))) pa_nil)))),
      s_ret (ev_isi2 (ev_var rfl) hv (kit_lst d) (kit_tup d)) k⟩
/-! is_row_of_unlike_ways -/
abbrev spRowW (CW : Addr) : Sp := spP fun H vs z => ∃ (wv v : V) (d : PyData) (rows : List (List Wy)), vs = [wv, v] ∧ WO CW H wv rows ∧ Dq H v d ∧ (itemsS d).length < 64 ∧ (∀ x ∈ itemsS d, (itemsT x).length ≤ 1000) ∧ z = .bl (rowP rows d)
abbrev nRowW : List Str := ["wishes", "thing", "way"]
abbrev sRowW : Stmt := top 27
theorem scRowW : FnScope nRowW ["wishes", "thing"] (defScope sRowW) := ⟨rfl, rfl, rfl, by decide +kernel, rfl, by decide +kernel, by decide +kernel⟩
theorem ok_rowW (B : Bl mg) (C : Cal P w K mg base "is_row" ["thing"] 1 spIsRow) (C2 : Cal P w K mg base "is_let_way" ["wishes", "thing"] 6 (spLetWay CW)) (F : FnP K "is_row_of_unlike_ways" sRowW f fd) : FnOk P w K mg base CX0 7 f fd ["wishes", "thing"] (spRowW CW) := by
  refine F.ok scRowW (fun vs H Q E h => ?_) (fun cdv A outer s H vs Q E hr h => ?_)
  · obtain ⟨z, ⟨wv, v, d, rows, rfl, _⟩, _⟩ := h
    rfl
  · obtain ⟨z, ⟨wv, v, d, rows, rfl, hw, hv, hl, hi, rfl⟩, k⟩ := h
    have hu : (A.deeper (envOfC "is_row_of_unlike_ways" (defScope sRowW) s.heap.objs.size f cdv)).units + 64 < cLine := by have := hr.un; omega
    refine ⟨_, pss_cons (ps_if (PW.pt (pw_or (pt_not (pt_val (pe_cal C hr (by rfl) (pa_cons (pv 1) pa_nil))))
        (pw_or1 (pt_not (pt_val (pe_callB (cr_all rfl) (by rfl) B.all boot_all (pa_cons (pe_lc (own := [("way", 2)]) (g := gName 2) (tt := tYes) rfl scRowW.nd (pi_sqK (K := K) rfl (pv 1)) (blkOk_by (N := nRowW) (sc := defScope sRowW) (by decide +kernel))
          (fun _ _ _ _ _ => pg_name (i := 2) scRowW.nd rfl (Or.inl rfl)) (fun _ _ _ _ _ => pts_nil) (fun _ _ _ _ _ => pe_cal C2 hr (by rfl) (pa_cons (pv 0) (pa_cons (pv 2) pa_nil)))) pa_nil))))))) (pss_one (ps_ret pe_bl)) pss_nil)
      (pss_one (ps_ret (pe_cmpR op_eq (pe_lenSq (K := K) rfl rfl hu (by rfl) B.len (by rfl) B.set (pv 1)) (pe_callB call_len_seq (by rfl) B.len PySem.boot_len (pa_cons (pv 1) pa_nil)) (nomark _)))), ?_⟩
    have v1 : ∀ {H1 : Hp}, Ev (tVar 1) (start nRowW [wv, v]) H1 v := ev_var rfl
    have c1 : EvT (tNot (tB (tCall spIsRow [] E0 (tCons (tVar 1) tNil)))) (start nRowW [wv, v]) H (!(isLi d || isTu d)) := et_not (et_B (ev_call (ea_cons v1 ea_nil) (spP_v fun H1 e => ⟨v, d, rfl, hv.mono e, rfl⟩)))
    cases hq : (isLi d || isTu d) with
    | false =>
      rw [hq] at c1
      have ez : rowP rows d = false := by
        unfold rowP
        rw [hq]
        rfl
      rw [ez] at k
      exact q_when (b := true || true) (et_or c1 fun z => by cases z) (fun _ H1 e1 => s_ret ev_c fun H2 e2 => k H2 (e1.trans e2)) (fun z => by cases z)
    | true =>
      rw [hq] at c1
      obtain ⟨a, xs, ds, rfl, hx, hxs, eds⟩ : ∃ (a : Addr) (xs : List V) (ds : List PyData), v = .ref a ∧ (H a = some (.lst xs) ∨ H a = some (.tup xs)) ∧ DqA H xs ds ∧ itemsS d = ds := by
        cases hv <;> first | (cases hq; done) | skip
        · rename_i a xs ds h1 h2
          exact ⟨a, xs, ds, rfl, .inl h1, h2, rfl⟩
        · rename_i a xs ds h1 h2
          exact ⟨a, xs, ds, rfl, .inr h1, h2, rfl⟩
      rw [eds] at hl hi
      have ez : rowP rows d = (ds.all (letB rows) && decide (ds.map rts).Nodup) := by
        unfold rowP
        rw [hq, eds]
        rfl
      rw [ez] at k
      have hxl := hxs.length
      have qa := ev_allSq (K := K) (σ := start nRowW [wv, V.ref a]) (H := H) (j := 2) (vs := [2]) (tl := tVar 1) (te := tCall (spLetWay CW) [] E0 (tCons (tVar 0) (tCons (tVar 2) tNil))) (fun i => ((ds[i]?).map (letB rows)).getD false) (ev_var rfl) hx (by omega) (fun x => rfl)
        (fun i x H2 e2 hx2 => by
          obtain ⟨dx, e3, e4⟩ := hxs.get hx2
          rw [e3]
          exact ev_call (ea_cons (ev_var rfl) (ea_cons (ev_var rfl) ea_nil)) (spP_v fun H3 e5 => ⟨wv, x, dx, rows, rfl, hw.up (e2.trans e5), (e4.mono e2).mono e5, hi dx (List.mem_of_getElem? e3), rfl⟩))
      rw [hxl, all_get] at qa
      refine q_when (b := false || !ds.all (letB rows)) (et_or c1 fun _ => et_not (et_B qa)) (fun hb H1 e1 => s_ret ev_c fun H2 e2 => ?_) (fun hb H1 e1 => ?_)
      · have hb' : ds.all (letB rows) = false := by simpa using hb
        rw [hb'] at k
        exact k H2 (e1.trans e2)
      · have hb' : ds.all (letB rows) = true := by simpa using hb
        rw [hb'] at k
        obtain ⟨ks, k1, k2, k3⟩ := row_keys hxs hb'
        have hkl : ks.length = xs.length := by rw [k1, List.length_map]
        have hx1 : H1 a = some (.lst xs) ∨ H1 a = some (.tup xs) := hx.imp (fun z => e1 _ _ z) (fun z => e1 _ _ z)
        refine s_ret (ev_is (ev_lenSq (K := K) (ta := tVar 1) (l := a) (ks := ks) (ev_var rfl) (by rw [← k1]; exact hx1) (fun p hp => e1 _ _ (k2 p hp)) (by omega) ?_) (by rw [k3]; rfl)) fun H2 e2 => k H2 (e1.trans e2)
        rw [hkl]
        rcases hx1 with z | z
        · exact fun H2 e2 Q2 q => ⟨.ref a, rfl, a, xs, rfl, .inl (sq_of (e2 _ _ z)), q H2 (Ex.refl _)⟩
        · exact fun H2 e2 Q2 q => ⟨.ref a, rfl, a, xs, rfl, .inr (st_of (e2 _ _ z)), q H2 (Ex.refl _)⟩
end
end Wk

set_option Elab.async false
set_option linter.all false
set_option maxRecDepth 100000
set_option maxHeartbeats 2000000
namespace Wk
open L2 PySem PySem.Spec PyProof.Rows Evl
/-- an error class without a field -/
structure ErrN (K : PySem.W.Frag) (mg : Str → Option Value) (x : Str) (C : Addr) : Prop where
  g : mg x = some (.ref C)
  q : PySem.W.excIn K C [.type "ValueError", .type "Exception", .type "BaseException", .type "object"] "ValueError.__new__" = true
  k : PySem.W.keepIn K (.ref C) = true
  b : PySem.W.subIn K (.ref C) (.type "BaseException") = some true
  t : PySem.W.typeIn K (.ref C) = some (.type "type")
theorem pmk_errN {X : Cx} {K : PySem.W.Frag} {mg : Str → Option Value} {x : Str} {C : Addr} {p pos : Pos} (hK : X.K = K) (hm : X.mg = mg) (T : ErrN K mg x C) (hg : Gl X x) (hdb : (x == ("__debug__" : Str)) = false := by decide) :
    PMk X (.Call (.Name x p) [] [] pos) (fun _ H Q => Q (.ref C) none H) := by
  subst hK hm
  intro ps s σ H Q I h
  refine wpAny_Call_Name_kw (ld_glob I hg T.g ?_ hdb)
  refine PySem.W.callWith_K0 I.kIn T.k ?_
  show wpAny _ _ (call (.ref C) []) _ _ _
  obtain ⟨bm, N, nm, qn, bs, hdct, sn, sub, ab, col, dd, k0, k1, k2, k3, k5, mN, hC, hN, hni, T2⟩ := exc_obj I.kIn T.q
  refine wpAny_call_exc_subT PySem.F.excBase_ValueError T2 hC hN hni (fun h' e hm => ?_) (Nat.zero_le _)
  exact mk_of I hm (raises_own T.b T.t) h (I.hok.gone hm.new)
theorem wy_len {n r : Nat} {l : Nat} {w : Wy} (e : n = l) (h : WyOk n r w) : WyOk l r w := by
  subst e
  exact h
theorem gw_keep {rows : List (List Wy)} (hG : GW rows) {lost : List Wy} (hc : ∀ (i : Nat) (row : List Wy), rows[i]? = some row → ∀ w ∈ row, w ∉ lost → w.drop 1 = [0] ∨ w.drop 1 ∉ lost) : GW (keepW rows lost) := by
  have hl : (keepW rows lost).length = rows.length := by unfold keepW; rw [List.length_map]
  have back : ∀ (i : Nat) (row : List Wy), (keepW rows lost)[i]? = some row → ∃ r0, rows[i]? = some r0 ∧ row = r0.filter fun w => !decide (w ∈ lost) := by
    intro i row h
    unfold keepW at h
    rw [List.getElem?_map] at h
    cases hq : rows[i]? with
    | none => rw [hq] at h; cases h
    | some r0 => rw [hq] at h; exact ⟨r0, rfl, (Option.some.inj h).symm⟩
  refine ⟨fun row h => ?_, fun i row h => ?_, fun i row h w hw => ?_, fun i row h w hw => ?_⟩
  · obtain ⟨r0, h0, rfl⟩ := back 0 row h
    rw [hG.goal r0 h0]
    rfl
  · obtain ⟨r0, h0, rfl⟩ := back i row h
    exact (hG.nd i r0 h0).filter _
  · obtain ⟨r0, h0, rfl⟩ := back i row h
    exact wy_len hl.symm (hG.ok i r0 h0 w (List.mem_filter.mp hw).1)
  · obtain ⟨r0, h0, rfl⟩ := back i row h
    obtain ⟨hw1, hw2⟩ := List.mem_filter.mp hw
    have hnl : w ∉ lost := by simpa using hw2
    rcases hc i r0 h0 w hw1 hnl with z | z
    · exact .inl z
    · rcases hG.rest i r0 h0 w hw1 with y | ⟨j, row', y1, y2, y3⟩
      · exact .inl y
      · refine .inr ⟨j, row'.filter fun w => !decide (w ∈ lost), y1, ?_, List.mem_filter.mpr ⟨y3, by simpa using z⟩⟩
        unfold keepW
        rw [List.getElem?_map, y2]
        rfl
def lostS (rows : List (List Wy)) (ws : List Wy) : List Wy := rows.flatten.filter fun w => (endsW w).any fun e => decide (e ∈ ws)
theorem ends_rest {w e : Wy} (h : e ∈ endsW (w.drop 1)) : e ∈ endsW w := by
  unfold endsW at h ⊢
  obtain ⟨i, hi, rfl⟩ := List.mem_map.mp h
  rw [List.mem_range, List.length_drop] at hi
  refine List.mem_map.mpr ⟨i + 1, List.mem_range.mpr (by omega), ?_⟩
  rw [List.drop_drop, Nat.add_comm]
theorem gw_struck {rows : List (List Wy)} (hG : GW rows) (ws : List Wy) : GW (keepW rows (lostS rows ws)) := by
  refine gw_keep hG fun i row hr w hw hn => .inr fun hm => hn ?_
  obtain ⟨_, h2⟩ := List.mem_filter.mp hm
  refine List.mem_filter.mpr ⟨List.mem_flatten.mpr ⟨row, List.mem_of_getElem? hr, hw⟩, ?_⟩
  rw [List.any_eq_true] at h2 ⊢
  obtain ⟨e, he, h3⟩ := h2
  exact ⟨e, ends_rest he, h3⟩
def BlY (g : Nat → Bool) : Nat → V → Hp → Prop := fun i u _ => u = .bl (g i)
theorem blY_good (g : Nat → Bool) : GoodY (BlY g) := ⟨fun _ _ _ _ _ h => h, fun _ _ _ _ _ _ h => h⟩
theorem grown_bls {g : Nat → Bool} {H : Hp} : ∀ {js : List Nat} {us : List V}, Grown (BlY g) H js us → us = (js.map g).map V.bl
  | [], us, h => h
  | j :: js, us, ⟨u, r, h1, h2, h3⟩ => by
    subst h1
    rw [show u = .bl (g j) from h2, grown_bls h3]
    rfl
theorem any_get {α : Type} (d : α) (ds : List α) (p : α → Bool) : ((List.range ds.length).map (fun i => p (ds.getD i d))).any id = ds.any p := by
  have e : (List.range ds.length).map (fun i => p (ds.getD i d)) = ds.map p := by
    have z := congrArg (List.map p) (range_rows d ds)
    rw [List.map_map] at z
    exact z
  rw [e, List.any_map]
  rfl
end Wk

set_option Elab.async false
set_option linter.all false
set_option maxRecDepth 100000
set_option maxHeartbeats 2000000
namespace Wk
open L2 PySem PySem.Spec PyProof.Rows Evl
section
variable {P : Program} {w : World} {K : PySem.W.Frag} {mg : Str → Option Value} {base : Heap} {f : Addr} {fd : FuncData} {CW CN CB : Addr}
/-- {x: True for x in xs}, xs a list or a tuple -/
theorem q_dqSq {tl tk tv : TE} {j : Nat} {vs : List Nat} {a : Addr} {xs : List V} {σ : L2.St} {H : Hp} {Q : VK} {k : Nat → List L2.Key} (hl : Ev tl σ H (.ref a)) (hx : H a = some (.lst xs) ∨ H a = some (.tup xs)) (hz : xs.length ≤ 1000)
    (hw : ∀ x, wipe ((wipe σ vs).set j (some x)) vs = wipe σ vs) (hk : ∀ (i : Nat) (x : V) (H' : Hp), Ex H H' → xs[i]? = some x → EvY tk ((wipe σ vs).set j (some x)) H' (fun u H2 => ∃ b, u = .ref b ∧ H2 b = some (.tup ((k i).map kV))))
    (hv : ∀ (i : Nat) (x : V) (H' : Hp), Ex H H' → xs[i]? = some x → Ev tv ((wipe σ vs).set j (some x)) H' (.bl true)) (q : ∀ D kvs H', Ex H H' → H' D = some (.dT kvs) → KHas k xs.length kvs → Q (.ref D) H') : tDq (iSq K tl) (gName j) tYes tk tv vs σ H Q := by
  rcases hx with hx | hx
  · exact .inl (hl H (Ex.refl H) _ fun H1 e1 => ⟨a, rfl, ⟨xs, sq_of (e1 _ _ hx)⟩, fun D hD => grow_dq (walk_list (K := K) (a := a) (xs := xs)) (Yx := fun i x => xs[i]? = some x) hD (by omega) (fun H' e => sq_of (e _ _ (e1 _ _ hx))) hw
      (fun i x H' e _ hx2 => hk i x H' (e1.trans e) hx2) (fun i x H' e _ hx2 => hv i x H' (e1.trans e) hx2) (fun kvs H' e hd hk2 => q D kvs H' (e1.trans e) hd hk2)⟩)
  · exact .inr (hl H (Ex.refl H) _ fun H1 e1 => ⟨a, rfl, ⟨xs, st_of (e1 _ _ hx)⟩, fun D hD => grow_dq (walk_tup (K := K) (a := a) (xs := xs)) (Yx := fun i x => xs[i]? = some x) hD (by omega) (fun H' e => st_of (e _ _ (e1 _ _ hx))) hw
      (fun i x H' e _ hx2 => hk i x H' (e1.trans e) hx2) (fun i x H' e _ hx2 => hv i x H' (e1.trans e) hx2) (fun kvs H' e hd hk2 => q D kvs H' (e1.trans e) hd hk2)⟩)
/-- how _without is found -/
structure MwW (P : Program) (w : World) (K : PySem.W.Frag) (mg : Str → Option Value) (base : Heap) (CW : Addr) : Prop where
  tx : WTx K mg CW
  ex : ∃ (fM : Addr) (fd : FuncData), Meth K CW "_without" fM ∧ FnOk P w K mg base (L2.CX P w) 10 fM fd ["self", "lost"] (spWithout CW) ∧ Binds K fd ["self", "lost"] []
/-! Wishes.struck -/
def spStruck (CW CB : Addr) : Sp := fun vs H Q E => ∃ (wv v : V) (d : PyData) (rows : List (List Wy)), vs = [wv, v] ∧ WO CW H wv rows ∧ Dq H v d ∧ (itemsS d).length < 64 ∧ (∀ x ∈ itemsS d, (itemsT x).length ≤ 1000) ∧
  (rowP rows d = true → ∀ H' x, Ex H H' → WO CW H' (.ref x) (keepW rows (lostS rows ((itemsS d).map rts))) → Q (.ref x) H') ∧ (rowP rows d = false → ∀ H', Ex H H' → E (.ref CB) none H')
abbrev nStruck : List Str := ["self", "ways", "gone", "way", "end"]
abbrev sStruck : Stmt := inClass (top 21) 4
theorem scStruck : FnScope nStruck ["self", "ways"] (defScope sStruck) := ⟨rfl, rfl, rfl, by decide +kernel, rfl, by decide +kernel, by decide +kernel⟩
theorem ok_struck (B : Bl mg) (hA : mg "any" = none) (T : ErrN K mg "BadWays" CB) (C1 : Cal P w K mg base "is_row_of_unlike_ways" ["wishes", "thing"] 7 (spRowW CW)) (C2 : Cal P w K mg base "let_ways" ["wishes"] 6 (spLetWays CW)) (C3 : Cal P w K mg base "ends" ["way"] 1 (spEnds endsW))
    (M : MwW P w K mg base CW) (F : FnM K "struck" "Wishes.struck" sStruck f fd) : FnOk P w K mg base (L2.CX P w) 11 f fd ["self", "ways"] (spStruck CW CB) := by
  obtain ⟨fM, fdM, me, FM, bM⟩ := M.ex
  refine F.ok scStruck (fun vs H Q E h => ?_) (fun cdv A outer s H vs Q E hr h => ?_)
  · obtain ⟨wv, v, d, rows, rfl, _⟩ := h
    rfl
  · obtain ⟨wv, v, d, rows, rfl, hw, hv, hl, hi, kQ, kE⟩ := h
    have hu : (A.deeper (envOfC "Wishes.struck" (defScope sStruck) s.heap.objs.size f cdv)).units + 1 < cLine := by have := hr.un; omega
    refine ⟨_, pss_cons (ps_if (pt_not (pt_val (pe_cal C1 hr (by rfl) (pa_cons (pv 0) (pa_cons (pv 1) pa_nil))))) (pss_one (ps_raise rfl (takes_of rfl rfl rfl rfl) (pmk_errN rfl rfl T (by rfl)))) pss_nil)
      (pss_cons (ps_set (i := 2) scStruck.nd rfl (Or.inr rfl) (pe_dq (own := [("way", 3)]) (g := gName 3) (tt := tYes) (tk := tVar 3) (tv := tC (.bl true)) rfl hu scStruck.nd (pi_sqK (K := K) rfl (pv 1)) (blkOk_by (N := nStruck) (sc := defScope sStruck) (by decide +kernel))
        (fun _ _ _ _ _ => pg_name (i := 3) scStruck.nd rfl (Or.inl rfl)) (fun _ _ _ _ _ => pts_nil) (fun _ _ _ _ _ => pv 3) (fun _ _ _ _ _ => pe_bl)))
      (pss_one (ps_ret (pe_meAt (pv 0) M.tx.cl me FM hr bM (fun σ => passAt takes0 σ) (pa_cons
        (pe_lc (own := [("way", 3)]) (g := gName 3) (tt := tB (tCB (rAny K) (tCons (tLc (iList K (tCall (spEnds endsW) [] E0 (tCons (tVar 3) tNil))) (gName 4) tYes (tDIn (tVar 4) (tVar 2)) [4]) tNil))) rfl scStruck.nd
          (pi_list (pe_cal C2 hr (by rfl) (pa_cons (pv 0) pa_nil))) (blkOk_by (N := nStruck) (sc := defScope sStruck) (by decide +kernel))
          (fun _ _ _ _ _ => pg_name (i := 3) scStruck.nd rfl (Or.inl rfl))
          (fun _ _ _ _ _ => pts_one (pt_val (pe_callB (cr_any rfl) (by rfl) hA boot_any (pa_cons
            (pe_lc (own := [("end", 4)]) (g := gName 4) (tt := tYes) rfl scStruck.nd (pi_list (pe_cal C3 hr (by rfl) (pa_cons (pv 3) pa_nil))) (blkOk_by (N := nStruck) (by first | rfl | decide +kernel))
              (fun _ _ _ _ _ => pg_name (i := 4) scStruck.nd rfl (Or.inl rfl)) (fun _ _ _ _ _ => pts_nil) (fun _ _ _ _ _ => pe_cmp (pc_din hu (pv 4) (pv 2)))) pa_nil))))
          (fun _ _ _ _ _ => pv 3)) pa_nil))))), ?_⟩
    refine q_when (b := !rowP rows d) (et_not (et_B (ev_call (ea_cons (ev_var rfl) (ea_cons (ev_var rfl) ea_nil)) (spP_v fun H1 e => ⟨wv, v, d, rows, rfl, hw.up e, hv.mono e, hl, hi, rfl⟩)))) (fun hb H1 e1 => kE (by simpa using hb) H1 e1) (fun hb H1 e1 => ?_)
    have hb' : rowP rows d = true := by simpa using hb
    have kQ' := kQ hb'
    have hsp : ((isLi d || isTu d) = true ∧ (itemsS d).all (letB rows) = true) := by
      unfold rowP at hb'
      rw [Bool.and_eq_true, Bool.and_eq_true] at hb'
      exact hb'.1
    obtain ⟨hq, hall⟩ := hsp
    obtain ⟨a, xs, ds, rfl, hx, hxs, eds⟩ : ∃ (a : Addr) (xs : List V) (ds : List PyData), v = .ref a ∧ (H a = some (.lst xs) ∨ H a = some (.tup xs)) ∧ DqA H xs ds ∧ itemsS d = ds := by
      cases hv <;> first | (cases hq; done) | skip
      · rename_i a xs ds h1 h2
        exact ⟨a, xs, ds, rfl, .inl h1, h2, rfl⟩
      · rename_i a xs ds h1 h2
        exact ⟨a, xs, ds, rfl, .inr h1, h2, rfl⟩
    rw [eds] at hl hall kQ'
    clear kQ kE hb hb' hq hi
    have hxl := hxs.length
    have hws : (ds.map rts).length = xs.length := by rw [List.length_map]; exact hxl.symm
    have hwk : ∀ (i : Nat) (x : V), xs[i]? = some x → ∃ b, x = .ref b ∧ H b = some (.tup (((ds.map rts).getD i []).map V.int)) := by
      intro i x hx2
      obtain ⟨dx, h1, h2⟩ := hxs.get hx2
      have hlb : letB rows dx = true := List.all_eq_true.mp hall dx (List.mem_of_getElem? h1)
      have ed := intsB_wd (Bool.and_eq_true_iff.mp (show (intsB dx && letW rows (rts dx)) = true from hlb)).1
      have eg : (ds.map rts).getD i [] = rts dx := by
        rw [List.getD_eq_getElem?_getD, List.getElem?_map, h1]
        rfl
      rw [ed] at h2
      obtain ⟨b, rfl, hb⟩ := wd_ref h2
      exact ⟨b, rfl, by rw [eg]; exact hb⟩
    generalize ds.map rts = ws at *
    have hlf := len_flat hw.r6
    have n8 := hw.n8
    refine q_asgW (q_dqSq (k := fun i => keyW (ws.getD i [])) (ev_var rfl) (hx.imp (fun z => e1 _ _ z) (fun z => e1 _ _ z)) (by omega) (fun x => rfl) (fun i x H' e hx2 => ?_) (fun i x H' e hx2 => ev_c) (fun D kvs H2 e2 hd hk => ?_))
    · obtain ⟨b, rfl, hb⟩ := hwk i x hx2
      show EvY _ _ _ (fun u H2 => ∃ b, u = .ref b ∧ H2 b = some (.tup ((keyW (ws.getD i [])).map kV)))
      rw [keyW_kV]
      exact ey_old (ev_var rfl) ((e1.trans e) _ _ hb)
    · rw [← hws] at hk
      have e02 := e1.trans e2
      have hw2 := hw.up e02
      obtain ⟨wa, dx, lv, rfl, hwa, hlv⟩ := hw2.ex
      refine ret_any ?_
      refine ⟨.ref wa, rfl, wa, dx, _, rfl, hwa, wf_no _ _ (by decide +kernel) (by decide +kernel), ?_⟩
      refine ⟨.ref wa, rfl, .ref wa, rows, rfl, hw2, fun H3 l us e3 hl0 hl3 hus => ⟨l, rfl, ⟨us, sq_of hl3⟩, fun D2 hD2 => ?_⟩⟩
      have hul := hus.length
      rw [List.length_map] at hul
      refine grow_lc (walk_list (K := K) (a := l) (xs := us)) (Yx := fun i x => us[i]? = some x) (tupY_good fun i => (rows.flatten.getD i []).map V.int) (fun i => (endsW (rows.flatten.getD i [])).any fun e => decide (e ∈ ws)) hD2 (by omega) (fun H' e => sq_of (e _ _ hl3)) (fun x => rfl)
        (fun i y H4 e4 hi hy => ?_) (fun i y H4 e4 hi hy _ => ?_) (fun us2 H4 e4 hd4 g => ?_)
      · obtain ⟨w, h1, h2⟩ := DqA.wds_inv hus hy
        have hwl : w.length ≤ 8 := by
          obtain ⟨row, hr', hwr⟩ := List.mem_flatten.mp (List.mem_of_getElem? h1)
          obtain ⟨j, hj, rfl⟩ := List.getElem_of_mem hr'
          exact (hw.g.ok j _ (List.getElem?_eq_getElem hj) w hwr).l8
        rw [show rows.flatten.getD i [] = w by rw [List.getD_eq_getElem?_getD, h1]; rfl]
        intro H5 e5 Q5 q5
        show tCB (rAny K) _ _ H5 (fun x H' => ∃ b, x = .bl b ∧ Q5 b H')
        refine cb1 ?_
        refine ⟨y, rfl, y, w, rfl, h2.mono (e4.trans e5), by omega, fun H6 l6 us6 e6 hl60 hl6 hus6 => ⟨l6, rfl, ⟨us6, sq_of hl6⟩, fun D6 hD6 => ?_⟩⟩
        have hul6 := hus6.length
        rw [List.length_map] at hul6
        have hel : (endsW w).length ≤ 8 := by
          unfold endsW
          rw [List.length_map, List.length_range]
          omega
        refine grow_lc (walk_list (K := K) (a := l6) (xs := us6)) (Yx := fun i x => us6[i]? = some x) (blY_good fun j => decide ((endsW w).getD j [] ∈ ws)) (fun _ => true) hD6 (by omega) (fun H' e => sq_of (e _ _ hl6)) (fun x => rfl) (fun _ _ _ _ _ _ => et_yes)
          (fun j z H7 e7 hj hz _ => ?_) (fun us7 H7 e7 hd7 g7 => ?_)
        · obtain ⟨w2, g1, g2⟩ := DqA.wds_inv hus6 hz
          obtain ⟨b, rfl, hb⟩ := wd_ref g2
          intro H8 e8 Q8 q8
          refine ev_dInY (k := keyW w2) ?_ (ev_var rfl) ((e3.trans (e4.trans (e5.trans (e6.trans e7)))) _ _ hd) H8 e8 _ fun H9 e9 => q8 _ _ e9 ?_
          · rw [keyW_kV]
            exact ey_old (ev_var rfl) (e7 _ _ hb)
          · show V.bl (valV kvs (keyW w2)).isSome = V.bl (decide ((endsW w).getD j [] ∈ ws))
            rw [khas_in hk, show (endsW w).getD j [] = w2 by rw [List.getD_eq_getElem?_getD, g1]; rfl]
        · have g8 := grown_bls g7
          rw [upTo_all, hul6] at g8
          refine ⟨D6, (List.range (endsW w).length).map fun j => decide ((endsW w).getD j [] ∈ ws), rfl, by rw [← g8]; exact sq_of hd7, _, rfl, ?_⟩
          rw [any_get [] (endsW w) fun e => decide (e ∈ ws)]
          exact q5 H7 (e6.trans e7)
      · obtain ⟨w, h1, h2⟩ := DqA.wds_inv hus hy
        obtain ⟨b, rfl, hb⟩ := wd_ref h2
        show EvY _ _ _ (fun u H2 => ∃ b, u = .ref b ∧ H2 b = some (.tup ((rows.flatten.getD i []).map V.int)))
        rw [show rows.flatten.getD i [] = w by rw [List.getD_eq_getElem?_getD, h1]; rfl]
        exact ey_old (ev_var rfl) (e4 _ _ hb)
      · have g4 := grown_wds g
        rw [hul, upTo_filter (fun w => (endsW w).any fun e => decide (e ∈ ws)) rows.flatten] at g4
        have hll : (lostS rows ws).length ≤ 1000 := by
          unfold lostS
          exact Nat.le_trans (List.length_filter_le _ _) (by omega)
        exact ⟨.ref wa, D2, us2, rows, lostS rows ws, rfl, hw2.up (e3.trans e4), hd4, g4, hll, gw_struck hw.g ws, fun H' x e hW => kQ' H' x ((e02.trans e3).trans (e4.trans e)) hW⟩
end
end Wk

set_option Elab.async false
set_option linter.all false
set_option maxRecDepth 100000
set_option maxHeartbeats 2000000
namespace Wk
open L2 PySem PySem.Spec PyProof.Rows Evl
def twoB (d : PyData) : Bool := isTu d && decide ((itemsT d).length = 2)
def linkB (n : Int) (d : PyData) : Bool := twoB d && (isR n ((itemsT d).getD 0 .none) && isR n ((itemsT d).getD 1 .none))
def linkP (n : Int) (d : PyData) : Bool := (isLi d || isTu d) && (itemsS d).all (linkB n)
theorem link_wd {n : Int} {d : PyData} (h : linkB n d = true) : ∃ x y : Int, d = wd [x, y] ∧ rts d = [x, y] := by
  unfold linkB twoB at h
  simp only [Bool.and_eq_true, decide_eq_true_eq] at h
  obtain ⟨⟨h1, h2⟩, h3, h4⟩ := h
  cases d <;> first | (simp [isTu] at h1; done) | skip
  rename_i ds
  match ds, h2, h3, h4 with
  | [p, q], _, h3, h4 =>
    have e1 := isI_eq (Bool.and_eq_true_iff.mp h3).1
    have e2 := isI_eq (Bool.and_eq_true_iff.mp h4).1
    refine ⟨valI p, valI q, ?_, rfl⟩
    have e1' : p = .int (valI p) := e1
    have e2' : q = .int (valI q) := e2
    show PyData.tuple [p, q] = PyData.tuple [.int (valI p), .int (valI q)]
    rw [← e1', ← e2']
def lostF (rows : List (List Wy)) (ls : List Wy) : List Wy := rows.flatten.filter fun w => (hopsW w).any fun h => decide (h ∈ ls) || decide (h.reverse ∈ ls)
theorem hops_rest {w e : Wy} (h : e ∈ hopsW (w.drop 1)) : e ∈ hopsW w := by
  unfold hopsW at h ⊢
  obtain ⟨i, hi, rfl⟩ := List.mem_map.mp h
  rw [List.mem_range, List.length_drop] at hi
  refine List.mem_map.mpr ⟨i + 1, List.mem_range.mpr (by omega), ?_⟩
  rw [List.drop_drop, Nat.add_comm]
theorem gw_failed {rows : List (List Wy)} (hG : GW rows) (ls : List Wy) : GW (keepW rows (lostF rows ls)) := by
  refine gw_keep hG fun i row hr w hw hn => .inr fun hm => hn ?_
  obtain ⟨_, h2⟩ := List.mem_filter.mp hm
  refine List.mem_filter.mpr ⟨List.mem_flatten.mpr ⟨row, List.mem_of_getElem? hr, hw⟩, ?_⟩
  rw [List.any_eq_true] at h2 ⊢
  obtain ⟨e, he, h3⟩ := h2
  exact ⟨e, hops_rest he, h3⟩
theorem hop_two {w h : Wy} (hh : h ∈ hopsW w) : ∃ x y : Int, h = [x, y] := by
  unfold hopsW at hh
  obtain ⟨i, hi, rfl⟩ := List.mem_map.mp hh
  rw [List.mem_range] at hi
  have hl : ((w.drop i).take 2).length = 2 := by rw [List.length_take, List.length_drop]; omega
  match (w.drop i).take 2, hl with
  | [x, y], _ => exact ⟨x, y, rfl⟩
theorem link_keys {G : Hp} {n : Int} : ∀ {ds : List PyData} {vs : List V}, DqA G vs ds → ds.all (linkB n) = true → ∀ (i : Nat) (x : V), vs[i]? = some x → ∃ b, x = .ref b ∧ G b = some (.tup (((ds.map rts).getD i []).map V.int)) := by
  intro ds vs h hall i x hx
  obtain ⟨dx, h1, h2⟩ := h.get hx
  have hlb : linkB n dx = true := List.all_eq_true.mp hall dx (List.mem_of_getElem? h1)
  obtain ⟨p, q, ed, er⟩ := link_wd hlb
  have eg : (ds.map rts).getD i [] = [p, q] := by
    rw [List.getD_eq_getElem?_getD, List.getElem?_map, h1]
    exact er
  rw [ed] at h2
  obtain ⟨b, rfl, hb⟩ := wd_ref h2
  exact ⟨b, rfl, by rw [eg]; exact hb⟩
section
variable {P : Program} {w : World} {K : PySem.W.Frag} {mg : Str → Option Value} {base : Heap} {f : Addr} {fd : FuncData} {CW CN CB : Addr}
/-! is_router_pair -/
abbrev spPair : Sp := spP fun H vs z => ∃ (n : Int) (v : V) (d : PyData), vs = [.int n, v] ∧ Dq H v d ∧ z = .bl (linkB n d)
abbrev nPair : List Str := ["size", "thing"]
abbrev sPair : Stmt := top 16
theorem scPair : FnScope nPair ["size", "thing"] (defScope sPair) := ⟨rfl, rfl, rfl, by decide +kernel, rfl, by decide +kernel, by decide +kernel⟩
theorem ok_pair (C1 : Cal P w K mg base "is_tuple_of" ["many", "thing"] 1 (spTupOf CW)) (C2 : Cal P w K mg base "is_router" ["size", "thing"] 3 spRouter) (F : FnP K "is_router_pair" sPair f fd) : FnOk P w K mg base CX0 5 f fd ["size", "thing"] spPair := by
  refine F.ok scPair (fun vs H Q E h => ?_) (fun cdv A outer s H vs Q E hr h => ?_)
  · obtain ⟨z, ⟨n, v, d, rfl, _⟩, _⟩ := h
    rfl
  · obtain ⟨z, ⟨n, v, d, rfl, hv, rfl⟩, k⟩ := h
    refine ⟨_, pss_one (ps_ret (pe_and (pe_cal C1 hr (by rfl) (pa_cons pe_int (pa_cons (pv 1) pa_nil))) (pe_and (pe_cal C2 hr (by rfl) (pa_cons (pv 0) (pa_cons (pe_ix ix_tup (pv 1) pe_int (fun _ _ => rfl)) pa_nil)))
      (pe_one (pe_cal C2 hr (by rfl) (pa_cons (pv 0) (pa_cons (pe_ix ix_tup (pv 1) pe_int (fun _ _ => rfl)) pa_nil))))))), ?_⟩
    have et : tgN 2 (some d) = twoB d := by
      show (isTu d && decide (V.int ((itemsT d).length : Int) = V.int 2)) = (isTu d && decide ((itemsT d).length = 2))
      congr 1
      refine decide_eq_decide.mpr ⟨fun z => ?_, fun z => ?_⟩
      · injection z with z
        omega
      · rw [z]
        rfl
    refine s_ret (ev_andV (a := twoB d) (ev_is (ev_call (ea_cons ev_c (ea_cons (ev_var rfl) ea_nil)) (spP_v fun H1 e => ⟨2, v, some d, rfl, Dq.mono e hv, rfl⟩)) (by rw [et])) fun ht => ?_) k
    unfold twoB at ht
    simp only [Bool.and_eq_true, decide_eq_true_eq] at ht
    obtain ⟨t1, t2⟩ := ht
    cases hv <;> first | (simp [isTu] at t1; done) | skip
    rename_i a xs ds h1 h2
    have hxl := h2.length
    have t2' : ds.length = 2 := t2
    have at_ : ∀ i : Nat, i < 2 → ∃ y, xs[i]? = some y ∧ Dq H y (ds.getD i .none) := fun i hi => by
      have hd : ds[i]? = some ds[i] := List.getElem?_eq_getElem (by omega)
      obtain ⟨y, hy1, hy2⟩ := h2.at hd
      exact ⟨y, hy1, by rw [List.getD_eq_getElem?_getD, hd]; exact hy2⟩
    obtain ⟨y0, a0, d0⟩ := at_ 0 (by omega)
    obtain ⟨y1, a1, d1⟩ := at_ 1 (by omega)
    have c : ∀ {j : Nat} {y : V} {dy : PyData}, xs[j]? = some y → Dq H y dy → Ev (tCall spRouter [] E0 (tCons (tVar 0) (tCons (tOp (rIxT K) (tVar 1) (tC (.int (j : Int)))) tNil))) (start nPair [.int n, .ref a]) H (.bl (isR n dy)) := fun {j y dy} hj hy =>
      ev_call (ea_cons (ev_var rfl) (ea_cons (ev_op (ev_var rfl) ev_c (rv_ixT (st_of h1) (atI_nat hj))) ea_nil)) (spP_v fun H1 e => ⟨n, y, dy, rfl, hy.mono e, rfl⟩)
    exact ev_andV (c (j := 0) a0 d0) fun _ => c (j := 1) a1 d1
end
end Wk

set_option Elab.async false
set_option linter.all false
set_option maxRecDepth 100000
set_option maxHeartbeats 2000000
namespace Wk
open L2 PySem PySem.Spec PyProof.Rows Evl
section
variable {P : Program} {w : World} {K : PySem.W.Frag} {mg : Str → Option Value} {base : Heap} {f : Addr} {fd : FuncData} {CW CN CB : Addr}
/-! Wishes.failed -/
def spFailed (CW CB : Addr) : Sp := fun vs H Q E => ∃ (wv v : V) (d : PyData) (rows : List (List Wy)), vs = [wv, v] ∧ WO CW H wv rows ∧ Dq H v d ∧ (itemsS d).length < 64 ∧
  (linkP (rows.length : Int) d = true → ∀ H' x, Ex H H' → WO CW H' (.ref x) (keepW rows (lostF rows ((itemsS d).map rts))) → Q (.ref x) H') ∧ (linkP (rows.length : Int) d = false → ∀ H', Ex H H' → E (.ref CB) none H')
abbrev nFailed : List Str := ["self", "links", "cut", "way", "link"]
abbrev sFailed : Stmt := inClass (top 21) 5
theorem scFailed : FnScope nFailed ["self", "links"] (defScope sFailed) := ⟨rfl, rfl, rfl, by decide +kernel, rfl, by decide +kernel, by decide +kernel⟩
theorem ok_failed (B : Bl mg) (hA : mg "any" = none) (T : ErrN K mg "BadLinks" CB) (C0 : Cal P w K mg base "is_row" ["thing"] 1 spIsRow) (C1 : Cal P w K mg base "is_router_pair" ["size", "thing"] 5 spPair) (C2 : Cal P w K mg base "let_ways" ["wishes"] 6 (spLetWays CW))
    (C3 : Cal P w K mg base "hops" ["way"] 1 (spEnds hopsW)) (C4 : Cal P w K mg base "is_cut" ["cut", "link"] 1 spCut) (M : MwW P w K mg base CW) (F : FnM K "failed" "Wishes.failed" sFailed f fd) : FnOk P w K mg base (L2.CX P w) 11 f fd ["self", "links"] (spFailed CW CB) := by
  obtain ⟨fM, fdM, me, FM, bM⟩ := M.ex
  refine F.ok scFailed (fun vs H Q E h => ?_) (fun cdv A outer s H vs Q E hr h => ?_)
  · obtain ⟨wv, v, d, rows, rfl, _⟩ := h
    rfl
  · obtain ⟨wv, v, d, rows, rfl, hw, hv, hl, kQ, kE⟩ := h
    have hu : (A.deeper (envOfC "Wishes.failed" (defScope sFailed) s.heap.objs.size f cdv)).units + 1 < cLine := by have := hr.un; omega
    refine ⟨_, pss_cons (ps_if (PW.pt (pw_or (pt_not (pt_val (pe_cal C0 hr (by rfl) (pa_cons (pv 1) pa_nil))))
        (pw_or1 (pt_not (pt_val (pe_callB (cr_all rfl) (by rfl) B.all boot_all (pa_cons (pe_lc (own := [("link", 4)]) (g := gName 4) (tt := tYes) (te := tCall spPair [] E0 (tCons (tFld K (tVar 0) "size") (tCons (tVar 4) tNil))) rfl scFailed.nd (pi_sqK (K := K) rfl (pv 1)) (blkOk_by (N := nFailed) (sc := defScope sFailed) (by decide +kernel))
          (fun _ _ _ _ _ => pg_name (i := 4) scFailed.nd rfl (Or.inl rfl)) (fun _ _ _ _ _ => pts_nil) (fun _ _ _ _ _ => pe_cal C1 hr (by rfl) (pa_cons (pe_fld (pv 0) rfl) (pa_cons (pv 4) pa_nil)))) pa_nil))))))) (pss_one (ps_raise rfl (takes_of rfl rfl rfl rfl) (pmk_errN rfl rfl T (by rfl)))) pss_nil)
      (pss_cons (ps_set (i := 2) scFailed.nd rfl (Or.inr rfl) (pe_dq (own := [("link", 4)]) (g := gName 4) (tt := tYes) (tk := tVar 4) (tv := tC (.bl true)) rfl hu scFailed.nd (pi_sqK (K := K) rfl (pv 1)) (blkOk_by (N := nFailed) (sc := defScope sFailed) (by decide +kernel))
        (fun _ _ _ _ _ => pg_name (i := 4) scFailed.nd rfl (Or.inl rfl)) (fun _ _ _ _ _ => pts_nil) (fun _ _ _ _ _ => pv 4) (fun _ _ _ _ _ => pe_bl)))
      (pss_one (ps_ret (pe_meAt (pv 0) M.tx.cl me FM hr bM (fun σ => passAt takes0 σ) (pa_cons
        (pe_lc (own := [("way", 3)]) (g := gName 3) (tt := tB (tCB (rAny K) (tCons (tLc (iList K (tCall (spEnds hopsW) [] E0 (tCons (tVar 3) tNil))) (gName 4) tYes (tCall spCut [] E0 (tCons (tVar 2) (tCons (tVar 4) tNil))) [4]) tNil))) rfl scFailed.nd
          (pi_list (pe_cal C2 hr (by rfl) (pa_cons (pv 0) pa_nil))) (blkOk_by (N := nFailed) (sc := defScope sFailed) (by decide +kernel))
          (fun _ _ _ _ _ => pg_name (i := 3) scFailed.nd rfl (Or.inl rfl))
          (fun _ _ _ _ _ => pts_one (pt_val (pe_callB (cr_any rfl) (by rfl) hA boot_any (pa_cons
            (pe_lc (own := [("link", 4)]) (g := gName 4) (tt := tYes) rfl scFailed.nd (pi_list (pe_cal C3 hr (by rfl) (pa_cons (pv 3) pa_nil))) (blkOk_by (N := nFailed) (by first | rfl | decide +kernel))
              (fun _ _ _ _ _ => pg_name (i := 4) scFailed.nd rfl (Or.inl rfl)) (fun _ _ _ _ _ => pts_nil) (fun _ _ _ _ _ => pe_cal C4 hr (by rfl) (pa_cons (pv 2) (pa_cons (pv 4) pa_nil)))) pa_nil))))
          (fun _ _ _ _ _ => pv 3)) pa_nil))))), ?_⟩
    have v1 : ∀ {H1 : Hp}, Ev (tVar 1) (start nFailed [wv, v]) H1 v := ev_var rfl
    have v0 : ∀ {H1 : Hp}, Ev (tVar 0) (start nFailed [wv, v]) H1 wv := ev_var rfl
    have c1 : EvT (tNot (tB (tCall spIsRow [] E0 (tCons (tVar 1) tNil)))) (start nFailed [wv, v]) H (!(isLi d || isTu d)) := et_not (et_B (ev_call (ea_cons v1 ea_nil) (spP_v fun H1 e => ⟨v, d, rfl, hv.mono e, rfl⟩)))
    cases hq : (isLi d || isTu d) with
    | false =>
      rw [hq] at c1
      have ez : linkP (rows.length : Int) d = false := by
        unfold linkP
        rw [hq]
        rfl
      exact q_when (b := true || true) (et_or c1 fun z => by cases z) (fun _ H1 e1 => kE ez H1 e1) (fun z => by cases z)
    | true =>
    rw [hq] at c1
    obtain ⟨a, xs, ds, rfl, hx, hxs, eds⟩ : ∃ (a : Addr) (xs : List V) (ds : List PyData), v = .ref a ∧ (H a = some (.lst xs) ∨ H a = some (.tup xs)) ∧ DqA H xs ds ∧ itemsS d = ds := by
      cases hv <;> first | (cases hq; done) | skip
      · rename_i a xs ds h1 h2
        exact ⟨a, xs, ds, rfl, .inl h1, h2, rfl⟩
      · rename_i a xs ds h1 h2
        exact ⟨a, xs, ds, rfl, .inr h1, h2, rfl⟩
    have ez : linkP (rows.length : Int) d = ds.all (linkB (rows.length : Int)) := by
      unfold linkP
      rw [hq, eds]
      rfl
    rw [ez] at kQ kE
    rw [eds] at hl kQ
    have hxl0 := hxs.length
    have qa := ev_allSq (K := K) (σ := start nFailed [wv, V.ref a]) (H := H) (j := 4) (vs := [4]) (tl := tVar 1) (te := tCall spPair [] E0 (tCons (tFld K (tVar 0) "size") (tCons (tVar 4) tNil))) (fun i => ((ds[i]?).map (linkB (rows.length : Int))).getD false) (ev_var rfl) hx (by omega) (fun x => rfl)
      (fun i x H2 e2 hx2 => by
        obtain ⟨dx, e3, e4⟩ := hxs.get hx2
        rw [e3]
        exact ev_call (ea_cons (ev_wsize M.tx (ev_var rfl) (hw.up e2)) (ea_cons (ev_var rfl) ea_nil)) (spP_v fun H3 e5 => ⟨_, x, dx, rfl, (e4.mono e2).mono e5, rfl⟩))
    rw [hxl0, all_get] at qa
    refine q_when (b := false || !ds.all (linkB (rows.length : Int))) (et_or c1 fun _ => et_not (et_B qa)) (fun hb H1 e1 => kE (by simpa using hb) H1 e1) (fun hb H1 e1 => ?_)
    have hall : ds.all (linkB (rows.length : Int)) = true := by simpa using hb
    have kQ' := kQ hall
    clear kQ kE hb hq qa c1 ez
    have hxl := hxs.length
    have hws : (ds.map rts).length = xs.length := by rw [List.length_map]; exact hxl.symm
    have hwk := link_keys hxs hall
    generalize ds.map rts = ws at *
    have hlf := len_flat hw.r6
    have n8 := hw.n8
    refine q_asgW (q_dqSq (k := fun i => keyW (ws.getD i [])) (ev_var rfl) (hx.imp (fun z => e1 _ _ z) (fun z => e1 _ _ z)) (by omega) (fun x => rfl) (fun i x H' e hx2 => ?_) (fun i x H' e hx2 => ev_c) (fun D kvs H2 e2 hd hk => ?_))
    · obtain ⟨b, rfl, hb⟩ := hwk i x hx2
      show EvY _ _ _ (fun u H2 => ∃ b, u = .ref b ∧ H2 b = some (.tup ((keyW (ws.getD i [])).map kV)))
      rw [keyW_kV]
      exact ey_old (ev_var rfl) ((e1.trans e) _ _ hb)
    · rw [← hws] at hk
      have e02 := e1.trans e2
      have hw2 := hw.up e02
      obtain ⟨wa, dx, lv, rfl, hwa, hlv⟩ := hw2.ex
      refine ret_any ?_
      refine ⟨.ref wa, rfl, wa, dx, _, rfl, hwa, wf_no _ _ (by decide +kernel) (by decide +kernel), ?_⟩
      refine ⟨.ref wa, rfl, .ref wa, rows, rfl, hw2, fun H3 l us e3 hl0 hl3 hus => ⟨l, rfl, ⟨us, sq_of hl3⟩, fun D2 hD2 => ?_⟩⟩
      have hul := hus.length
      rw [List.length_map] at hul
      refine grow_lc (walk_list (K := K) (a := l) (xs := us)) (Yx := fun i x => us[i]? = some x) (tupY_good fun i => (rows.flatten.getD i []).map V.int) (fun i => (hopsW (rows.flatten.getD i [])).any fun e => decide (e ∈ ws) || decide (e.reverse ∈ ws)) hD2 (by omega) (fun H' e => sq_of (e _ _ hl3)) (fun x => rfl)
        (fun i y H4 e4 hi hy => ?_) (fun i y H4 e4 hi hy _ => ?_) (fun us2 H4 e4 hd4 g => ?_)
      · obtain ⟨w, h1, h2⟩ := DqA.wds_inv hus hy
        have hwl : w.length ≤ 8 := by
          obtain ⟨row, hr', hwr⟩ := List.mem_flatten.mp (List.mem_of_getElem? h1)
          obtain ⟨j, hj, rfl⟩ := List.getElem_of_mem hr'
          exact (hw.g.ok j _ (List.getElem?_eq_getElem hj) w hwr).l8
        rw [show rows.flatten.getD i [] = w by rw [List.getD_eq_getElem?_getD, h1]; rfl]
        intro H5 e5 Q5 q5
        show tCB (rAny K) _ _ H5 (fun x H' => ∃ b, x = .bl b ∧ Q5 b H')
        refine cb1 ?_
        refine ⟨y, rfl, y, w, rfl, h2.mono (e4.trans e5), by omega, fun H6 l6 us6 e6 hl60 hl6 hus6 => ⟨l6, rfl, ⟨us6, sq_of hl6⟩, fun D6 hD6 => ?_⟩⟩
        have hul6 := hus6.length
        rw [List.length_map] at hul6
        have hel : (hopsW w).length ≤ 8 := by
          unfold hopsW
          rw [List.length_map, List.length_range]
          omega
        refine grow_lc (walk_list (K := K) (a := l6) (xs := us6)) (Yx := fun i x => us6[i]? = some x) (blY_good fun j => decide ((hopsW w).getD j [] ∈ ws) || decide (((hopsW w).getD j []).reverse ∈ ws)) (fun _ => true) hD6 (by omega) (fun H' e => sq_of (e _ _ hl6)) (fun x => rfl) (fun _ _ _ _ _ _ => et_yes)
          (fun j z H7 e7 hj hz _ => ?_) (fun us7 H7 e7 hd7 g7 => ?_)
        · obtain ⟨w2, g1, g2⟩ := DqA.wds_inv hus6 hz
          obtain ⟨b, rfl, hb⟩ := wd_ref g2
          have hwm : w2 ∈ hopsW w := List.mem_of_getElem? g1
          obtain ⟨p1, p2, rfl⟩ := hop_two hwm
          intro H8 e8 Q8 q8
          refine ev_call (sp := spCut) (ea_cons (ev_var rfl) (ea_cons (ev_var rfl) ea_nil)) (spP_v fun H9 e9 => ⟨D, kvs, .ref b, p1, p2, rfl, (e3.trans (e4.trans (e5.trans (e6.trans (e7.trans e9))))) _ _ hd, wd_of ((e7.trans e9) _ _ hb), rfl⟩) H8 e8 _ fun H9 e9 => q8 _ _ e9 ?_
          show V.bl ((valV kvs (keyW [p1, p2])).isSome || (valV kvs (keyW [p2, p1])).isSome) = V.bl (decide ((hopsW w).getD j [] ∈ ws) || decide (((hopsW w).getD j []).reverse ∈ ws))
          rw [khas_in hk, khas_in hk, show (hopsW w).getD j [] = [p1, p2] by rw [List.getD_eq_getElem?_getD, g1]; rfl]
          rfl
        · have g8 := grown_bls g7
          rw [upTo_all, hul6] at g8
          refine ⟨D6, (List.range (hopsW w).length).map fun j => decide ((hopsW w).getD j [] ∈ ws) || decide (((hopsW w).getD j []).reverse ∈ ws), rfl, by rw [← g8]; exact sq_of hd7, _, rfl, ?_⟩
          rw [any_get [] (hopsW w) fun e => decide (e ∈ ws) || decide (e.reverse ∈ ws)]
          exact q5 H7 (e6.trans e7)
      · obtain ⟨w, h1, h2⟩ := DqA.wds_inv hus hy
        obtain ⟨b, rfl, hb⟩ := wd_ref h2
        show EvY _ _ _ (fun u H2 => ∃ b, u = .ref b ∧ H2 b = some (.tup ((rows.flatten.getD i []).map V.int)))
        rw [show rows.flatten.getD i [] = w by rw [List.getD_eq_getElem?_getD, h1]; rfl]
        exact ey_old (ev_var rfl) (e4 _ _ hb)
      · have g4 := grown_wds g
        rw [hul, upTo_filter (fun w => (hopsW w).any fun e => decide (e ∈ ws) || decide (e.reverse ∈ ws)) rows.flatten] at g4
        have hll : (lostF rows ws).length ≤ 1000 := by
          unfold lostF
          exact Nat.le_trans (List.length_filter_le _ _) (by omega)
        exact ⟨.ref wa, D2, us2, rows, lostF rows ws, rfl, hw2.up (e3.trans e4), hd4, g4, hll, gw_failed hw.g ws, fun H' x e hW => kQ' H' x ((e02.trans e3).trans (e4.trans e)) hW⟩
end
end Wk

set_option Elab.async false
set_option linter.all false
set_option maxRecDepth 100000
set_option maxHeartbeats 2000000
namespace Wk
open L2 PySem PySem.Spec PyProof.Rows Evl
def dK (kl : Bool) (ds : List PyData) : PyData := if kl = true then .list ds else .tuple ds
def sqO (kl : Bool) (xs : List V) : HO := if kl = true then .lst xs else .tup xs
theorem dK_inv {H : Hp} {v : V} {kl : Bool} {ds : List PyData} (h : Dq H v (dK kl ds)) : ∃ a xs, v = .ref a ∧ H a = some (sqO kl xs) ∧ DqA H xs ds := by
  cases kl with
  | true =>
    cases (show Dq H v (.list ds) from h) with
    | lst a b => exact ⟨_, _, rfl, a, b⟩
  | false =>
    cases (show Dq H v (.tuple ds) from h) with
    | tup a b => exact ⟨_, _, rfl, a, b⟩
theorem dK_sq (kl : Bool) (ds : List PyData) : (isLi (dK kl ds) || isTu (dK kl ds)) = true := by cases kl <;> rfl
/-- plain data: ints, lists and tuples of such -/
inductive Smq : Nat → PyData → Prop
  | int (n : Nat) (i : Int) : Smq n (.int i)
  | sq (n : Nat) (kl : Bool) (ds : List PyData) : (∀ d ∈ ds, Smq n d) → ds.length ≤ 200 → Smq (n + 1) (dK kl ds)
/-- x[i], x a list or a tuple -/
def rIxB (K : PySem.W.Frag) : R2 := fun x y H Q => rIxL K x y H Q ∨ rIxT K x y H Q
theorem ix_both {X : Cx} {K : PySem.W.Frag} (hK : X.K = K) : IxR X (rIxB K) := by
  subst hK
  exact IxR.or ix_list ix_tup
section
variable {K : PySem.W.Frag} {σ : L2.St} {H : Hp} {ta tb : TE}
theorem rv_ixB {kl : Bool} {a : Addr} {xs : List V} {i : Int} {v : V} (h : H a = some (sqO kl xs)) (hi : atI xs i = some v) : RV (rIxB K) (.ref a) (.int i) H v := by
  cases kl with
  | true => exact fun H1 e Q q => .inl (rv_ixL (sq_of (show H a = some (.lst xs) from h)) hi H1 e Q q)
  | false => exact fun H1 e Q q => .inr (rv_ixT (st_of (show H a = some (.tup xs) from h)) hi H1 e Q q)
theorem ev_lenB {kl : Bool} {a : Addr} {xs : List V} (h : Ev ta σ H (.ref a)) (ha : H a = some (sqO kl xs)) : Ev (tCB (rLenS K) (tCons ta tNil)) σ H (.int (xs.length : Int)) := by
  cases kl with
  | true => exact ev_len h (sq_of (show H a = some (.lst xs) from ha))
  | false => exact ev_lenT h (st_of (show H a = some (.tup xs) from ha))
/-- isinstance(x, C), C an own class -/
theorem ev_isiO {CW : Addr} {v : V} (T : ITx K CW) (me : PySem.W.kitOne K (.ref CW) (.ref CW) = some true) (h : Ev ta σ H v) (hv : ∃ a dx fs, v = .ref a ∧ H a = some (.ins CW dx fs)) : Ev (tCB (rIsi K) (tCons ta (tCons (tC (.ref CW)) tNil))) σ H (.bl true) := by
  obtain ⟨a, dx, fs, rfl, h2⟩ := hv
  exact fun H1 e Q q => h H1 e _ fun H2 e2 => ⟨.ref a, .ref CW, .ref CW, .ref CW, true, rfl, .own CW, .base (.ins ((e.trans e2) _ _ h2) T.cl T.ha T.hn T.ht T.hm), me, q H2 e2⟩
end
section
variable {P : Program} {w : World} {K : PySem.W.Frag} {mg : Str → Option Value} {base : Heap} {f : Addr} {fd : FuncData} {CW CN CB : Addr}
/-! _law_same -/
abbrev spSamq (n : Nat) : Sp := spP fun H vs z => ∃ (va ve : V) (d : PyData), vs = [va, ve] ∧ Dq H va d ∧ Dq H ve d ∧ Smq n d ∧ z = .bl true
abbrev sSame : Stmt := top 38
abbrev nSame : List Str := ["_law_actual", "_law_expected", "_law_place"]
theorem scSame : FnScope nSame ["_law_actual", "_law_expected"] (defScope sSame) := ⟨rfl, rfl, rfl, by decide +kernel, rfl, by decide +kernel, by decide +kernel⟩
theorem ok_samq (B : Bl mg) (n k' : Nat) (sp' : Sp) (hk : k' ≤ n) (C : Cal P w K mg base "_law_same" ["_law_actual", "_law_expected"] k' sp') (hC : ∀ (va ve : V) (d : PyData) (H : Hp), Dq H va d → Dq H ve d → (∃ m, n = m + 1 ∧ Smq m d) → SpV sp' [va, ve] H (.bl true)) (F : FnP K "_law_same" sSame f fd) : FnOk P w K mg base CX0 (n + 1) f fd ["_law_actual", "_law_expected"] (spSamq n) := by
  refine F.ok scSame (fun vs H Q E h => ?_) (fun cdv A outer s H vs Q E hr h => ?_)
  · obtain ⟨z, ⟨va, ve, d, rfl, _⟩, _⟩ := h
    rfl
  · obtain ⟨z, ⟨va, ve, d, rfl, ha, he, hs, rfl⟩, k⟩ := h
    have hr' : Room k' _ := hr.mono hk
    refine ⟨_, pss_cons (ps_if (pt_val (pe_callB call_isiT (by rfl) B.isi boot_isinstance (pa_cons (pv 1) (pa_cons (pe_tup (pa_cons (pe_bltn (v := .ty "list") (by rfl) B.list PyProof.Rows.boot_list rfl) (pa_cons (pe_bltn (v := .ty "tuple") (by rfl) B.tuple PyProof.Rows.boot_tuple rfl) pa_nil))) pa_nil))))
        (pss_cons (ps_if (PW.pt (pw_or (pt_not (pt_val (pe_callB call_isiT (by rfl) B.isi boot_isinstance (pa_cons (pv 0) (pa_cons (pe_tup (pa_cons (pe_bltn (v := .ty "list") (by rfl) B.list PyProof.Rows.boot_list rfl) (pa_cons (pe_bltn (v := .ty "tuple") (by rfl) B.tuple PyProof.Rows.boot_tuple rfl) pa_nil))) pa_nil)))))
            (pw_or1 (pt_cmpR op_ne (pe_callB call_isi (by rfl) B.isi boot_isinstance (pa_cons (pv 1) (pa_cons (pe_bltn (v := .ty "list") (by rfl) B.list PyProof.Rows.boot_list rfl) pa_nil))) (pe_callB call_isi (by rfl) B.isi boot_isinstance (pa_cons (pv 0) (pa_cons (pe_bltn (v := .ty "list") (by rfl) B.list PyProof.Rows.boot_list rfl) pa_nil))) (nomark _))))) (pss_one (ps_ret pe_bl)) pss_nil)
        (pss_cons (ps_if (pt_cmpR op_ne (pe_callB call_len_seq (by rfl) B.len PySem.boot_len (pa_cons (pv 0) pa_nil)) (pe_callB call_len_seq (by rfl) B.len PySem.boot_len (pa_cons (pv 1) pa_nil)) (nomark _)) (pss_one (ps_ret pe_bl)) pss_nil)
        (pss_cons (ps_for (passes_of rfl) rfl (pi_range1 (by rfl) B.range (pa_cons (pe_callB call_len_seq (by rfl) B.len PySem.boot_len (pa_cons (pv 1) pa_nil)) pa_nil)) (pg_name (i := 2) scSame.nd rfl (Or.inl rfl))
          (pss_one (ps_if (pt_not (pt_val (pe_cal C hr' (by rfl) (pa_cons (pe_ix (ix_both (K := K) rfl) (pv 0) (pv 2) (fun _ _ => rfl)) (pa_cons (pe_ix (ix_both (K := K) rfl) (pv 1) (pv 2) (fun _ _ => rfl)) pa_nil)) (Nat.le_refl _)))) (pss_one (ps_ret pe_bl)) pss_nil)))
        (pss_one (ps_ret pe_bl))))) pss_nil)
      (pss_cons (ps_if (pt_val (pe_callB call_isi (by rfl) B.isi boot_isinstance (pa_cons (pv 1) (pa_cons (pe_bltn (v := .ty "int") (by rfl) B.int PyProof.Rows.boot_int rfl) pa_nil))))
        (pss_one (ps_ret (pe_and (pe_callB call_isi (by rfl) B.isi boot_isinstance (pa_cons (pv 0) (pa_cons (pe_bltn (v := .ty "int") (by rfl) B.int PyProof.Rows.boot_int rfl) pa_nil)))
          (pe_and (pe_cmpR op_eq (pe_callB call_isi (by rfl) B.isi boot_isinstance (pa_cons (pv 0) (pa_cons (pe_bltn (v := .ty "bool") (by rfl) B.bool PyProof.Rows.boot_bool rfl) pa_nil))) (pe_callB call_isi (by rfl) B.isi boot_isinstance (pa_cons (pv 1) (pa_cons (pe_bltn (v := .ty "bool") (by rfl) B.bool PyProof.Rows.boot_bool rfl) pa_nil))) (nomark _))
            (pe_one (pe_cmpR op_eq (pv 0) (pv 1) (nomark _))))))) pss_nil)
      (pss_cons (ps_if (pt_cmp (pc_isN (pv 1))) (pss_one (ps_ret (pe_cmp (pc_isN (pv 0))))) pss_nil)
      (pss_one (ps_ret (pe_and (pe_callB call_isi (by rfl) B.isi boot_isinstance (pa_cons (pv 0) (pa_cons (pe_bltn (v := .ty "str") (by rfl) B.str PyProof.Rows.boot_str rfl) pa_nil))) (pe_one (pe_cmpR op_eq (pv 0) (pv 1) (nomark _)))))))), ?_⟩
    have v0 : ∀ {H1 : Hp} {o : Option V}, Ev (tVar 0) [some va, some ve, o] H1 va := ev_var rfl
    have v1 : ∀ {H1 : Hp} {o : Option V}, Ev (tVar 1) [some va, some ve, o] H1 ve := ev_var rfl
    cases hs with
    | int _ i =>
      have ea := ha
      have ee := he
      cases ha
      cases he
      refine q_when (b := false || false) (et_B (ev_isi2 v1 ee k_il k_it)) (fun hb => by cases hb) (fun _ H1 e1 => ?_)
      refine q_when (b := true) (et_B (ev_isi v1 (ee.mono e1) k_ii)) (fun _ H2 e2 => ?_) (fun hb => by cases hb)
      have ea2 := ea.mono (e1.trans e2)
      have ee2 := ee.mono (e1.trans e2)
      refine s_ret (ev_is (ev_andV (ev_isi v0 ea2 k_ii) fun _ => ev_andV (ev_op (ev_isi v0 ea2 k_ib) (ev_isi v1 ee2 k_ib) (rv_eq rfl)) fun _ => ev_op v0 v1 (rv_eq rfl)) (by simp)) fun H3 e3 => k _ ((e1.trans e2).trans e3)
    | sq _ kl ds hds hl =>
      obtain ⟨aa, xs, rfl, ha1, ha2⟩ := dK_inv ha
      obtain ⟨ab, ys, rfl, he1, he2⟩ := dK_inv he
      have l1 := ha2.length
      have l2 := he2.length
      have hsq := dK_sq kl ds
      refine q_when (b := isLi (dK kl ds) || isTu (dK kl ds)) (et_B (ev_isi2 v1 he (kit_lst _) (kit_tup _))) (fun _ H1 e1 => ?_) (fun hb => by rw [hsq] at hb; cases hb)
      have ea1 := ha.mono e1
      have ee1 := he.mono e1
      refine q_when (b := !(isLi (dK kl ds) || isTu (dK kl ds)) || !decide (V.bl (isLi (dK kl ds)) = V.bl (isLi (dK kl ds)))) (et_or (et_not (et_B (ev_isi2 v0 ea1 (kit_lst _) (kit_tup _)))) fun _ => et_test (ev_op (ev_isi v1 ee1 (kit_lst _)) (ev_isi v0 ea1 (kit_lst _)) (rv_ne rfl))) (fun hb => by rw [hsq] at hb; simp at hb) (fun _ H2 e2 => ?_)
      have e12 := e1.trans e2
      have hn1 := ev_lenB (K := K) (v0 (H1 := H2) (o := none)) (e12 _ _ ha1)
      have hn2 := ev_lenB (K := K) (v1 (H1 := H2) (o := none)) (e12 _ _ he1)
      rw [l1] at hn1
      rw [l2] at hn2
      refine q_when (b := !decide (V.int (ds.length : Int) = V.int (ds.length : Int))) (et_test (ev_op hn1 hn2 (rv_ne rfl))) (fun hb => by simp at hb) (fun _ H3 e3 => ?_)
      have e13 := e12.trans e3
      have hn3 := ev_lenB (K := K) (v1 (H1 := H3) (o := none)) (e13 _ _ he1)
      rw [l2] at hn3
      refine q_forR1 (ea_cons hn3 ea_nil) (by omega) (fun i σ' H' => Ex H H' ∧ ∃ o, σ' = [some (.ref aa), some (.ref ab), o]) (fun H4 e4 => ⟨e13.trans e4, _, rfl⟩) ?_ ?_
      · rintro i σ' H4 hi ⟨e4, o, rfl⟩
        change tIfS _ _ _ _ [some (.ref aa), some (.ref ab), some (.int (i : Int))] _
        have hdi : ds[i]? = some ds[i] := List.getElem?_eq_getElem (by omega)
        obtain ⟨x, hx, hdx⟩ := ha2.at hdi
        obtain ⟨y, hy, hdy⟩ := he2.at hdi
        refine s_when (b := !true) (et_not (et_B (ev_call (ea_cons (ev_op (ev_var rfl) (ev_var rfl) (rv_ixB (e4 _ _ ha1) (atI_nat hx))) (ea_cons (ev_op (ev_var rfl) (ev_var rfl) (rv_ixB (e4 _ _ he1) (atI_nat hy))) ea_nil)) (hC x y ds[i] H4 (hdx.mono e4) (hdy.mono e4) ⟨_, rfl, hds _ (List.mem_of_getElem? hdi)⟩)))) (fun hb => by simp at hb) (fun _ H5 e5 => ⟨e4.trans e5, _, rfl⟩)
      · rintro σ' H4 ⟨e4, o, rfl⟩
        exact s_ret ev_c fun H5 e5 => k _ (e4.trans e5)
/-- each depth, one after another -/
theorem samq_all (B : Bl mg) (F : FnP K "_law_same" sSame f fd) (hg : mg "_law_same" = some (.ref f)) : ∀ n, FnOk P w K mg base CX0 (n + 1) f fd ["_law_actual", "_law_expected"] (spSamq n)
  | 0 => ok_samq B 0 0 (fun _ _ _ _ => False) (Nat.le_refl _) ⟨⟨f, fd, ⟨fun _ _ _ _ h => h.elim, fun _ _ _ _ _ _ _ _ _ _ _ _ _ h => h.elim⟩, hg, F.kp, F.bindsN fun _ _ _ _ _ _ us hl => match us, hl with | [_, _], _ => rfl⟩⟩ (fun _ _ _ _ _ _ ⟨m, e, _⟩ => by cases e) F
  | n + 1 => ok_samq B (n + 1) (n + 1) (spSamq n) (Nat.le_refl _) ⟨⟨f, fd, samq_all B F hg n, hg, F.kp, F.bindsN fun _ _ _ _ _ _ us hl => match us, hl with | [_, _], _ => rfl⟩⟩ (fun va ve d H h1 h2 ⟨m, e, hs⟩ => by
      cases e
      exact spP_v fun H1 e1 => ⟨va, ve, d, rfl, h1.mono e1, h2.mono e1, hs, rfl⟩) F
theorem smq_wd {n : Nat} (w : Wy) (h : w.length ≤ 200) : Smq (n + 1) (wd w) := .sq n false _ (fun d hd => by
  obtain ⟨i, _, rfl⟩ := List.mem_map.mp hd
  exact .int n i) (by rw [List.length_map]; exact h)
theorem smq_rd {n : Nat} (row : List Wy) (h : row.length ≤ 200) (hw : ∀ w ∈ row, w.length ≤ 200) : Smq (n + 2) (rd row) := .sq (n + 1) false _ (fun d hd => by
  obtain ⟨w, hm, rfl⟩ := List.mem_map.mp hd
  exact smq_wd w (hw w hm)) (by rw [List.length_map]; exact h)
theorem smq_wl {n : Nat} (row : List Wy) (h : row.length ≤ 200) (hw : ∀ w ∈ row, w.length ≤ 200) : Smq (n + 2) (.list (row.map wd)) := .sq (n + 1) true _ (fun d hd => by
  obtain ⟨w, hm, rfl⟩ := List.mem_map.mp hd
  exact smq_wd w (hw w hm)) (by rw [List.length_map]; exact h)
end
end Wk

set_option Elab.async false
set_option linter.all false
set_option maxRecDepth 100000
set_option maxHeartbeats 2000000
namespace Wk
open PySem PySem.SeqAt
open AutoSeq1 (wpAny_loadPart')
open MeetsSeq MeetsSeq2 MeetsSeq3 SeqRoads2
section
variable {prog : Program} {w : World} {A : Around} {R : Result → Shared → Prop}
/-- at each turn the list is read anew; whether its i-th item is x -/
def InI (prog : Program) (w : World) (A : Around) (E : Value → Shared → Prop) (l : Addr) (x : Value) (e : Nat → Bool) (N : Nat) (I : Shared → Prop) : Prop :=
  ∀ s, I s → ∃ (items : Array Value) (n : Nat), s.heap.get? l = some { cls := .type "list", data := .seq items n } ∧ items.size = N ∧ ∀ (i : Nat) (h : i < items.size), wpAny (model prog w) A.in1 (eqBool items[i] x) (fun r s' => r = e i ∧ I s') E s
theorem in_loopB (l : Addr) (x : Value) (e : Nat → Bool) (N : Nat) (I : Shared → Prop) (hl : InI prog w A (fun er s' => R (.error er) s') l x e N I)
    (fin : ∀ (b : Bool) s, (b = true ↔ ∃ j, j < N ∧ e j = true) → I s → R (.ok (.ret (.bool b))) s) (k : Nat) :
    ∀ i : Nat, N - i = k → i ≤ N → (∀ j, j < i → e j = false) → ∀ s, I s →
      wpAny (model prog w) A.in1 (Builtin.«list.__contains__.loop» ⟨[.ref l, x, rawInt i], []⟩) (GQ.FinOf prog w A R) (fun er s' => R (.error er) s') s := by
  induction k with
  | zero =>
    intro i hk hi hno s h
    obtain ⟨items, n, hl1, hs1, _⟩ := hl _ h
    have hR : R (.ok (.ret (.bool false))) s := fin false s ⟨fun z => (by cases z), fun ⟨j, hj, hj2⟩ => by rw [hno j (by omega)] at hj2; cases hj2⟩ h
    obtain ⟨hp, g, d, tk, os⟩ := s
    wp_walk using wpAny_loadPart' hl1
    have hi1 : items[((i : Nat) : Int).toNat]? = none := by simp; omega
    rw [hi1]
    wp_walk
    exact hR
  | succ k ih =>
    intro i hk hi hno s h
    obtain ⟨items, n, hl1, hs1, turn⟩ := hl _ h
    have hlt : i < items.size := by omega
    have ht := turn i hlt
    obtain ⟨hp, g, d, tk, os⟩ := s
    wp_walk using wpAny_loadPart' hl1
    have hi1 : items[((i : Nat) : Int).toNat]? = some items[i] := by simp [hlt]
    have hc : ((i : Int) + 1) = ((i + 1 : Nat) : Int) := by omega
    rw [hi1]
    refine wpAny_bind (wpAny_mono ht (fun r s2 h2 => ?_) fun _ _ x => x)
    obtain ⟨hr, h2⟩ := h2
    subst hr
    cases hb : e i with
    | true =>
      have hR := fin true s2 ⟨fun _ => ⟨i, by omega, hb⟩, fun _ => rfl⟩ h2
      obtain ⟨hp2, g2, d2, tk2, os2⟩ := s2
      wp_walk
      exact hR
    | false =>
      have hrec := ih (i + 1) (by omega) (by omega) (fun j hj => by
        by_cases c : j = i
        · rw [c]; exact hb
        · exact hno j (by omega)) s2 h2
      obtain ⟨hp2, g2, d2, tk2, os2⟩ := s2
      wp_walk
      rw [hc]
      exact ⟨plainId_quiet plain_contains_loop _, codeAny_builtin entry_contains_loop (by
        rw [Around.under_plainId plain_contains_loop _]
        exact hrec)⟩
theorem list_inB (l : Addr) (x : Value) (e : Nat → Bool) (N : Nat) (I : Shared → Prop) (hl : InI prog w A (fun er s' => R (.error er) s') l x e N I)
    (fin : ∀ (b : Bool) s, (b = true ↔ ∃ j, j < N ∧ e j = true) → I s → R (.ok (.ret (.bool b))) s) {s : Shared} (h : I s) :
    wpAny (model prog w) A.in1 (Builtin.«list.__contains__» ⟨[.ref l, x], []⟩) (GQ.FinOf prog w A R) (fun er s' => R (.error er) s') s := by
  obtain ⟨items, n, hl1, hs1, _⟩ := hl _ h
  have hrec := in_loopB (A := A) (R := R) l x e N I hl fin _ 0 rfl (Nat.zero_le _) (fun j hj => by omega) s h
  obtain ⟨hp, g, d, tk, os⟩ := s
  wp_walk using wpAny_loadPart' hl1
  exact ⟨plainId_quiet plain_contains_loop _, codeAny_builtin entry_contains_loop (by
    rw [Around.under_plainId plain_contains_loop _]
    exact hrec)⟩
/-- the same of two lists -/
def EqI (prog : Program) (w : World) (A : Around) (E : Value → Shared → Prop) (l b : Addr) (e : Nat → Bool) (N : Nat) (I : Shared → Prop) : Prop :=
  ∀ s, I s → ∃ (items items2 : Array Value) (n n2 : Nat), s.heap.get? l = some { cls := .type "list", data := .seq items n } ∧ s.heap.get? b = some { cls := .type "list", data := .seq items2 n2 } ∧ items.size = N ∧ items2.size = N ∧
    ∀ (i : Nat) (h1 : i < items.size) (h2 : i < items2.size), wpAny (model prog w) A.in1 (eqBool items[i] items2[i]) (fun r s' => r = e i ∧ I s') E s
theorem eq_loopB (l b : Addr) (e : Nat → Bool) (N : Nat) (I : Shared → Prop) (hl : EqI prog w A (fun er s' => R (.error er) s') l b e N I)
    (fin : ∀ (r : Bool) s, (r = true ↔ ∀ j, j < N → e j = true) → I s → R (.ok (.ret (.bool r))) s) (k : Nat) :
    ∀ i : Nat, N - i = k → i ≤ N → (∀ j, j < i → e j = true) → ∀ s, I s →
      wpAny (model prog w) A.in1 (Builtin.«list.__eq__.loop» ⟨[.ref l, .ref b, rawInt i, rawInt 2], []⟩) (GQ.FinOf prog w A R) (fun er s' => R (.error er) s') s := by
  induction k with
  | zero =>
    intro i hk hi hyes s h
    obtain ⟨items, items2, n, n2, hl1, hb1, hs1, hs2, _⟩ := hl _ h
    have hR : R (.ok (.ret (.bool true))) s := fin true s ⟨fun _ j hj => hyes j (by omega), fun _ => rfl⟩ h
    obtain ⟨hp, g, d, tk, os⟩ := s
    wp_walk using wpAny_loadPart' hl1, wpAny_loadPart' hb1
    have hi1 : items[((i : Nat) : Int).toNat]? = none := by simp; omega
    have hi2 : items2[((i : Nat) : Int).toNat]? = none := by simp; omega
    rw [hi1, hi2]
    wp_walk using wpAny_loadPart' hl1, wpAny_loadPart' hb1
    show R (.ok (.ret (.bool (items.size == items2.size)))) _
    rw [hs1, hs2]
    simpa using hR
  | succ k ih =>
    intro i hk hi hyes s h
    obtain ⟨items, items2, n, n2, hl1, hb1, hs1, hs2, turn⟩ := hl _ h
    have hlt : i < items.size := by omega
    have hlt2 : i < items2.size := by omega
    have ht := turn i hlt hlt2
    obtain ⟨hp, g, d, tk, os⟩ := s
    wp_walk using wpAny_loadPart' hl1, wpAny_loadPart' hb1
    have hi1 : items[((i : Nat) : Int).toNat]? = some items[i] := by simp [hlt]
    have hi2 : items2[((i : Nat) : Int).toNat]? = some items2[i] := by simp [hlt2]
    have hc : ((i : Int) + 1) = ((i + 1 : Nat) : Int) := by omega
    rw [hi1, hi2]
    refine wpAny_bind (wpAny_mono ht (fun r s2 h2 => ?_) fun _ _ x => x)
    obtain ⟨hr, h2⟩ := h2
    subst hr
    cases he : e i with
    | false =>
      have hR := fin false s2 ⟨fun z => (by cases z), fun z => by rw [z i (by omega)] at he; cases he⟩ h2
      obtain ⟨items', items2', n', n2', hl1', hb1', hs1', hs2', _⟩ := hl _ h2
      obtain ⟨hp2, g2, d2, tk2, os2⟩ := s2
      wp_walk using wpAny_loadPart' hl1', wpAny_loadPart' hb1'
      have hlt' : i < items'.size := by omega
      have hlt2' : i < items2'.size := by omega
      have hi1' : items'[((i : Nat) : Int).toNat]? = some items'[i] := by simp [hlt']
      have hi2' : items2'[((i : Nat) : Int).toNat]? = some items2'[i] := by simp [hlt2']
      rw [hi1', hi2']
      wp_walk
      exact hR
    | true =>
      have hrec := ih (i + 1) (by omega) (by omega) (fun j hj => by
        by_cases c : j = i
        · rw [c]; exact he
        · exact hyes j (by omega)) s2 h2
      obtain ⟨hp2, g2, d2, tk2, os2⟩ := s2
      wp_walk
      rw [hc]
      exact ⟨plainId_quiet plain_eq_loop _, codeAny_builtin entry_eq_loop (by
        rw [Around.under_plainId plain_eq_loop _]
        exact hrec)⟩
theorem list_eqB (l b : Addr) (e : Nat → Bool) (N : Nat) (I : Shared → Prop) (hl : EqI prog w A (fun er s' => R (.error er) s') l b e N I)
    (fin : ∀ (r : Bool) s, (r = true ↔ ∀ j, j < N → e j = true) → I s → R (.ok (.ret (.bool r))) s) {s : Shared} (h : I s) :
    wpAny (model prog w) A.in1 (Builtin.«list.__eq__» ⟨[.ref l, .ref b], []⟩) (GQ.FinOf prog w A R) (fun er s' => R (.error er) s') s := by
  obtain ⟨items, items2, n, n2, hl1, hb1, hs1, hs2, _⟩ := hl _ h
  have hrec := eq_loopB (A := A) (R := R) l b e N I hl fin _ 0 rfl (Nat.zero_le _) (fun j hj => by omega) s h
  obtain ⟨hp, g, d, tk, os⟩ := s
  have f3 := AutoSeq1.sub_list_list
  have hne : ¬ (items.size != items2.size) = true := by simp [hs1, hs2]
  wp_walk using wpAny_loadPart' hl1, wpAny_loadPart' hb1
  exact ⟨plainId_quiet plain_eq_loop _, codeAny_builtin entry_eq_loop (by
    rw [Around.under_plainId plain_eq_loop _]
    exact hrec)⟩
end
section
variable {prog : Program} {w : World} {A : Around} {E : Value → Shared → Prop} {s : Shared}
theorem notIn_listB {l : Addr} {x : Value} {e : Nat → Bool} {N : Nat} {Q : Value → Shared → Prop} (I : Shared → Prop) (hl : InI prog w A E l x e N I)
    (fin : ∀ (b : Bool) s, (b = true ↔ ∃ j, j < N ∧ e j = true) → I s → Q (.bool (!b)) s) (h : I s) : wpAny (model prog w) A (compareOp .NotIn x (.ref l)) Q E s := by
  obtain ⟨items, n, hl1, hs1, _⟩ := hl _ h
  show wpAny _ A (do return .bool (!(← contains (.ref l) x))) Q E s
  refine wpAny_bind (wpAny_contains_slot ⟨_, hl1, rfl⟩ F.slot_list_contains (wpAny_mono (GQ.call_here F.slot_list_contains ⟨_, hl1, rfl⟩ F.entry_list_contains (F.args_list_contains_2 _ _)
    (list_inB (R := wants (fun v s' => ∃ b, v = .bool b ∧ Q (.bool (!b)) s') E) l x e N I hl (fun b s' hb hI => ⟨b, rfl, fin b s' hb hI⟩) h)) (fun v s' hv => ?_) fun _ _ e => e))
  obtain ⟨b, rfl, hq⟩ := hv
  exact wpAny_truthy_bool (wpAny_pure hq)
theorem rc_listB {l b : Addr} {e : Nat → Bool} {N : Nat} {Q : Value → Shared → Prop} (hu : A.units < cLine) (I : Shared → Prop) (hl : EqI prog w A E l b e N I)
    (fin : ∀ (r : Bool) s, (r = true ↔ ∀ j, j < N → e j = true) → I s → Q (.bool r) s) (h : I s) : wpAny (model prog w) A (richCompare .Eq (.ref l) (.ref b)) Q E s := by
  obtain ⟨items, items2, n, n2, hl1, hb1, _, _, _⟩ := hl _ h
  refine wpAny_richCompare_same_room (op := .Eq) ⟨_, hl1, rfl⟩ ⟨_, hb1, rfl⟩ F.slot_list_eq (GQ.call_here F.slot_list_eq ⟨_, hl1, rfl⟩ F.entry_list_eq (F.args_list_eq_2 _ _) ?_) hu
  exact list_eqB (R := wants (fun v s' => v ≠ .notImplemented ∧ Q v s') E) l b e N I hl (fun r s' hr q => ⟨(fun x => nomatch x), fin r s' hr q⟩) h
end
end Wk

set_option Elab.async false
set_option linter.all false
set_option maxRecDepth 100000
set_option maxHeartbeats 2000000
namespace Wk
open L2 PySem PySem.Spec PyProof.Rows
/-! an own == that tells True or False -/
abbrev EqvB := V → V → Bool → Hp → Prop
def MonB (D : EqvB) : Prop := ∀ x y z H H', Ext H H' → D x y z H → D x y z H'
def RcB (X : Cx) (n : Nat) (D : EqvB) : Prop :=
  ∀ (A : Around) (pins : List (Addr × Obj)) (s : Shared) (σ : L2.St) (H : Hp) (x y : V) (u v : Value) (z : Bool), Sub X n A → Inv X pins σ H s → RelV x u → RelV y v → D x y z H →
    wpAny (model X.prog X.w) A (richCompare .Eq u v) (fun r s' => r = .bool z ∧ ∃ H', Inv X pins σ H' s' ∧ Ext H H') X.xe s
def EqB (X : Cx) (n : Nat) (D : EqvB) : Prop :=
  ∀ (A : Around) (pins : List (Addr × Obj)) (s : Shared) (σ : L2.St) (H : Hp) (x y : V) (u v : Value) (z : Bool), Sub X n A → Inv X pins σ H s → RelV x u → RelV y v → D x y z H →
    wpAny (model X.prog X.w) A (eqBool u v) (fun r s' => r = z ∧ ∃ H', Inv X pins σ H' s' ∧ Ext H H') X.xe s
def DInsB (C : Addr) (R : Addr → Addr → Bool → Hp → Prop) : EqvB := fun x y z H => ∃ a b dx dy fs gs, x = .ref a ∧ y = .ref b ∧ H a = some (.ins C dx fs) ∧ H b = some (.ins C dy gs) ∧ R a b z H
def spEqB (R : Addr → Addr → Bool → Hp → Prop) : Sp := fun vs H Q _ => ∃ a b z, vs = [.ref a, .ref b] ∧ R a b z H ∧ ∀ H', Ext H H' → Q (.bl z) H'
section
variable {X : Cx} {n : Nat} {D : EqvB}
theorem rcB_ins {CX : CXT} {C f : Addr} {fd : FuncData} {ps : List Str} {R : Addr → Addr → Bool → Hp → Prop} {E : XK} (F : FnOk X.prog X.w X.K X.mg X.base CX n f fd ps (spEqB R))
    (hs : PySem.W.findIn X.K (.ref C) "__eq__" = some (some (.ref f))) (hf : PySem.W.isFn X.K (.ref f) = true) (hb : Binds X.K fd ps []) (hx : Passes CX X E) : RcB X n (DInsB C R) := by
  intro A pins s σ H x y u v z sb I rx ry d
  obtain ⟨a, b, dx, dy, fs, gs, rfl, rfl, ha, hb', hr⟩ := d
  cases rx
  cases ry
  obtain ⟨mA, J, _⟩ := ins_get I.hok ha
  obtain ⟨mB, J', _⟩ := ins_get I.hok hb'
  obtain ⟨od, J, _⟩ := J.look
  obtain ⟨od', J', _⟩ := J'.look
  obtain ⟨m, hF⟩ := I.fr
  refine PySem.W.cmp_K (op := .Eq) (tb := .ref C) sb.room.units0 hF I.ok.mod.kin J J'.type (by simp [PySem.W.notFirst]) hs hf ?_
  have hsp : spEqB R [.ref a, .ref b] H (fun v H' => v = .bl z ∧ Ext H H') E := ⟨a, b, z, rfl, hr, fun H' e => ⟨rfl, e⟩⟩
  have e0 : Env0 X.prog X.w X.K X.mg X.base A X.stack s H := by
    have e := I.env0
    exact ⟨by rw [sb.fr]; exact e.frames, e.mod, e.bs, e.bsz, e.funs, e.frf, e.hok, e.bare⟩
  have hl := F.len _ _ _ _ hsp
  have r2 : Vals [V.ref a, V.ref b] [Value.ref a, Value.ref b] := .cons rfl (.cons rfl .nil)
  refine wpAny_call (codeAny_mono (F.run A X.stack s H ⟨[.ref a, .ref b], []⟩ [.ref a, .ref b] [.ref a, .ref b] _ E sb.room e0 (by
    have := hb s [.ref a, .ref b] I.kIn (by simpa using hl)
    simpa using this) r2 hsp) fun r s' hq => ?_)
  cases r with
  | error e => exact hx pins σ H s e s' I hq
  | ok fl =>
    cases fl with
    | ret w =>
      obtain ⟨zz, H', I', rz, ez, ex⟩ := I.after hq
      subst ez
      cases rz
      exact ⟨rfl, H', I', ex⟩
    | next => exact False.elim hq
    | brk => exact False.elim hq
    | cont => exact False.elim hq
theorem RcB.eqB (h : RcB X n D) (hr : ∀ x y z H, D x y z H → ∃ a b, x = .ref a ∧ y = .ref b) (hs : ∀ a z H, D (.ref a) (.ref a) z H → z = true) : EqB X n D := by
  intro A pins s σ H x y u v z sb I rx ry d
  obtain ⟨a, b, rfl, rfl⟩ := hr _ _ _ _ d
  cases rx
  cases ry
  by_cases hab : a = b
  · subst hab
    rw [hs _ _ _ d]
    exact SeqAt.EqAt.same (A := A) (s := s) (.ref a) X.prog X.w X.xe _ ⟨rfl, H, I, Ext.rfl'⟩
  · refine GQ.eqBool_refG hab (wpAny_mono (h A pins s σ H (.ref a) (.ref b) _ _ z sb I rfl rfl d) (fun r s' q => ?_) fun _ _ x => x)
    obtain ⟨hr', q⟩ := q
    exact ⟨z, hr', rfl, q⟩
/-- x == y -/
def rEqB (D : EqvB) : R2 := fun x y H Q => ∃ z, D x y z H ∧ ∀ H', Ext H H' → Q (.bl z) H'
theorem op_eqB (h : RcB X n D) (hr : Room n X.A) : OpR X (compareOp .Eq) (rEqB D) := by
  intro pins s σ H x y v u Q I rx ry hq
  obtain ⟨z, d, q⟩ := hq
  show wpAny (model X.prog X.w) X.A (richCompare .Eq v u) (EP X pins σ Q) X.xe s
  refine wpAny_mono (h X.A pins s σ H x y v u z ⟨hr, rfl⟩ I rx ry d) (fun r s' zz => ?_) fun _ _ x => x
  obtain ⟨hr', H', I', e⟩ := zz
  subst hr'
  exact ⟨.bl z, H', I', rfl, q H' e⟩
/-- x not in [..] -/
def rNinB (D : EqvB) : R2 := fun x y H Q => ∃ l ys, ∃ e : Nat → Bool, y = .ref l ∧ H l = some (.lst ys) ∧ (∀ i yi, ys[i]? = some yi → D yi x (e i) H) ∧ ∀ (b : Bool) H', (b = true ↔ ∃ j, j < ys.length ∧ e j = true) → Ext H H' → Q (.bl (!b)) H'
theorem op_notInB (hD : MonB D) (h : EqB X n D) (hr : Room (n + 1) X.A) : OpR X (compareOp .NotIn) (rNinB D) := by
  intro pins s σ H x y v u Q I rx ry hq
  obtain ⟨l, ys, e, rfl, hl, he, q⟩ := hq
  cases ry
  have sb : Sub X (n + 1) X.A := ⟨hr, rfl⟩
  refine notIn_listB (N := ys.length) (e := e) (fun s' => LoopI X pins σ H s') (fun s' t => ?_) (fun b s' hb t => ?_) ⟨H, I, Ext.rfl'⟩
  · obtain ⟨H1, I1, e1⟩ := t
    obtain ⟨z, its, k, r, ei⟩ := I1.hok l _ (e1 _ _ hl)
    refine ⟨its.toArray, k, ei, by rw [List.size_toArray, ← r.length], fun i hi => ?_⟩
    have hi' : i < its.length := by simpa using hi
    have k1 : i < ys.length := by rw [r.length]; exact hi'
    obtain ⟨w, hw, rw'⟩ := r.get (List.getElem?_eq_getElem k1)
    have g1 : its[i]? = some its.toArray[i] := by rw [List.getElem?_eq_getElem hi'] <;> simp
    rw [g1] at hw
    rw [Option.some.inj hw]
    refine wpAny_mono (h _ pins s' σ H1 _ _ w v (e i) sb.in1 I1 rw' rx (hD _ _ _ _ _ e1 (he i _ (List.getElem?_eq_getElem k1)))) (fun r s2 q2 => ?_) fun _ _ x => x
    obtain ⟨hr', H2, I2, e2⟩ := q2
    exact ⟨hr', H2, I2, e1.trans e2⟩
  · obtain ⟨H1, I1, e1⟩ := t
    exact ⟨.bl (!b), H1, I1, rfl, q b H1 hb e1⟩
/-- [..] == [..] -/
def rEqLB (D : EqvB) : R2 := fun x y H Q => ∃ a b xs ys, ∃ e : Nat → Bool, x = .ref a ∧ y = .ref b ∧ H a = some (.lst xs) ∧ H b = some (.lst ys) ∧ xs.length = ys.length ∧ (∀ i xi yi, xs[i]? = some xi → ys[i]? = some yi → D xi yi (e i) H) ∧
  ∀ (r : Bool) H', (r = true ↔ ∀ j, j < xs.length → e j = true) → Ext H H' → Q (.bl r) H'
theorem op_eqLB (hD : MonB D) (h : EqB X n D) (hr : Room (n + 1) X.A) : OpR X (compareOp .Eq) (rEqLB D) := by
  intro pins s σ H x y v u Q I rx ry hq
  obtain ⟨a, b, xs, ys, e, rfl, rfl, ha, hb, hl, he, q⟩ := hq
  cases rx
  cases ry
  have sb : Sub X (n + 1) X.A := ⟨hr, rfl⟩
  show wpAny (model X.prog X.w) X.A (richCompare .Eq (.ref a) (.ref b)) (EP X pins σ Q) X.xe s
  refine rc_listB (N := xs.length) (e := e) hr.units0 (fun s' => LoopI X pins σ H s') (fun s' t => ?_) (fun r s' hb t => ?_) ⟨H, I, Ext.rfl'⟩
  · obtain ⟨H1, I1, e1⟩ := t
    obtain ⟨z, its, k, r, ei⟩ := I1.hok a _ (e1 _ _ ha)
    obtain ⟨z2, its2, k2, r2, ei2⟩ := I1.hok b _ (e1 _ _ hb)
    refine ⟨its.toArray, its2.toArray, k, k2, ei, ei2, by rw [List.size_toArray, ← r.length], by rw [List.size_toArray, ← r2.length, ← hl], fun i h1 h2 => ?_⟩
    have h1' : i < its.length := by simpa using h1
    have h2' : i < its2.length := by simpa using h2
    have k1 : i < xs.length := by rw [r.length]; exact h1'
    have k2 : i < ys.length := by rw [r2.length]; exact h2'
    obtain ⟨w, hw, rw'⟩ := r.get (List.getElem?_eq_getElem k1)
    obtain ⟨w2, hw2, rw2⟩ := r2.get (List.getElem?_eq_getElem k2)
    have g1 : its[i]? = some its.toArray[i] := by rw [List.getElem?_eq_getElem h1'] <;> simp
    have g2 : its2[i]? = some its2.toArray[i] := by rw [List.getElem?_eq_getElem h2'] <;> simp
    rw [g1] at hw
    rw [g2] at hw2
    rw [Option.some.inj hw, Option.some.inj hw2]
    refine wpAny_mono (h _ pins s' σ H1 _ _ w w2 (e i) sb.in1 I1 rw' rw2 (hD _ _ _ _ _ e1 (he i _ _ (List.getElem?_eq_getElem k1) (List.getElem?_eq_getElem k2)))) (fun r s2 q2 => ?_) fun _ _ x => x
    obtain ⟨hr', H2, I2, e2⟩ := q2
    exact ⟨hr', H2, I2, e1.trans e2⟩
  · obtain ⟨H1, I1, e1⟩ := t
    exact ⟨.bl r, H1, I1, rfl, q r H1 hb e1⟩
end
end Wk

set_option Elab.async false
set_option linter.all false
set_option maxRecDepth 100000
set_option maxHeartbeats 2000000
namespace Wk
open L2 PySem PySem.Spec PyProof.Rows Evl
theorem eqv_mapd {α : Type} [DecidableEq α] {f : α → PyData} (hf : ∀ a b, PyData.eqv (f a) (f b) = decide (a = b)) : ∀ a b : List α, PyData.eqvAll (a.map f) (b.map f) = decide (a = b)
  | [], [] => by simp [PyData.eqvAll]
  | [], _ :: _ => by simp [PyData.eqvAll]
  | _ :: _, [] => by simp [PyData.eqvAll]
  | x :: a, y :: b => by
    have ih := eqv_mapd hf a b
    simp only [List.map_cons, PyData.eqvAll, hf, ih]
    by_cases h : x = y
    · subst h; simp
    · simp [h]
theorem eqv_rd (a b : List Wy) : PyData.eqv (rd a) (rd b) = decide (a = b) := by
  unfold rd
  simp only [PyData.eqv]
  exact eqv_mapd eqv_wd a b
theorem eqv_pd (a b : List (List Wy)) : PyData.eqv (pd a) (pd b) = decide (a = b) := by
  unfold pd
  simp only [PyData.eqv]
  exact eqv_mapd eqv_rd a b
theorem shaped_pd (rows : List (List Wy)) : SeqAt.shaped (pd rows) = true := by
  have h1 : PyData.canLayAll0 (rows.map rd) = true := layAll.mpr fun d hd => by
    obtain ⟨w, _, rfl⟩ := List.mem_map.mp hd
    simp [rd, PyData.canLay0, lay_wds]
  have h2 : PyData.depthAll (rows.map rd) ≤ 2 := depAll.mpr fun d hd => by
    obtain ⟨w, _, rfl⟩ := List.mem_map.mp hd
    have := dep_wds w
    simp only [rd, PyData.depth]
    omega
  unfold SeqAt.shaped pd
  have : decide ((PyData.tuple (rows.map rd)).depth ≤ 64) = true := decide_eq_true (by simp only [PyData.depth]; omega)
  rw [this]
  simp [PyData.canLay0, h1]
theorem shaped_wl (ws : List Wy) : SeqAt.shaped (.list (ws.map wd)) = true := shaped_wds ws
/-- two wishes, by what they hold -/
def RW (CW : Addr) (a b : Addr) (z : Bool) (H : Hp) : Prop := ∃ rows rows', WO CW H (.ref a) rows ∧ WO CW H (.ref b) rows' ∧ z = decide (rows = rows')
def DW (CW : Addr) : EqvB := DInsB CW (RW CW)
theorem mon_DW (CW : Addr) : MonB (DW CW) := fun x y z H H' e d => by
  obtain ⟨a, b, dx, dy, fs, gs, h1, h2, h3, h4, rows, rows', h5, h6, h7⟩ := d
  exact ⟨a, b, dx, dy, fs, gs, h1, h2, e _ _ h3, e _ _ h4, rows, rows', h5.up e, h6.up e, h7⟩
theorem dw_of {CW : Addr} {H : Hp} {v v' : V} {rows rows' : List (List Wy)} (h : WO CW H v rows) (h' : WO CW H v' rows') : DW CW v v' (decide (rows = rows')) H := by
  obtain ⟨a, dx, lv, rfl, ha, _⟩ := id h.ex
  obtain ⟨b, dy, lv', rfl, hb, _⟩ := id h'.ex
  exact ⟨a, b, dx, dy, _, _, rfl, rfl, ha, hb, rows, rows', h, h', rfl⟩
mutual
theorem Dq.uniq {H : Hp} : ∀ {d e : PyData} {v : V}, Dq H v d → Dq H v e → d = e
  | .none, _, _, .non, h => by cases h; rfl
  | .bool _, _, _, .bl _, h => by cases h; rfl
  | .int _, _, _, .int _, h => by cases h; rfl
  | .str _, _, _, .str _, h => by cases h; rfl
  | .list _, _, _, .lst h a, h' => by
    cases h' with
    | lst h2 a2 => rw [h] at h2; cases h2; rw [DqA.uniq a a2]
    | tup h2 _ => rw [h] at h2; cases h2
    | dic h2 => rw [h] at h2; cases h2
  | .tuple _, _, _, .tup h a, h' => by
    cases h' with
    | lst h2 _ => rw [h] at h2; cases h2
    | tup h2 a2 => rw [h] at h2; cases h2; rw [DqA.uniq a a2]
    | dic h2 => rw [h] at h2; cases h2
  | .dict _, _, _, .dic h, h' => by
    cases h' with
    | lst h2 _ => rw [h] at h2; cases h2
    | tup h2 _ => rw [h] at h2; cases h2
    | dic h2 => rfl
theorem DqA.uniq {H : Hp} : ∀ {ds es : List PyData} {vs : List V}, DqA H vs ds → DqA H vs es → ds = es
  | [], _, _, .nil, h => by cases h; rfl
  | _ :: _, _, _, .cons h t, h' => by
    cases h' with
    | cons h2 t2 => rw [Dq.uniq h h2, DqA.uniq t t2]
end
theorem pd_inj {rows rows' : List (List Wy)} (h : pd rows = pd rows') : rows = rows' := by
  have z := eqv_pd rows rows'
  rw [h, eqv_pd] at z
  exact of_decide_eq_true (z.symm.trans (decide_eq_true rfl))
theorem WO.uniq {CW : Addr} {H : Hp} {v : V} {rows rows' : List (List Wy)} (h : WO CW H v rows) (h' : WO CW H v rows') : rows = rows' := by
  obtain ⟨a, dx, lv, rfl, ha, hl⟩ := h.ex
  obtain ⟨b, dy, lv', eb, hb, hl'⟩ := h'.ex
  cases eb
  rw [ha] at hb
  have e := HO.ins.inj (Option.some.inj hb)
  have el : lv = lv' := by
    have z := congrArg (fun fs => List.lookup ("_lists" : Str) fs) e.2.2
    simp only [wf_lists] at z
    exact Option.some.inj z
  subst el
  exact pd_inj (hl.uniq hl')
theorem dw_refl {CW : Addr} {a : Addr} {z : Bool} {H : Hp} (h : DW CW (.ref a) (.ref a) z H) : z = true := by
  obtain ⟨a1, b1, dx, dy, fs, gs, h1, h2, h3, h4, rows, rows', h5, h6, h7⟩ := h
  cases h1
  cases h2
  rw [h7, h5.uniq h6]
  exact decide_eq_true rfl
theorem dw_ref {CW : Addr} {x y : V} {z : Bool} {H : Hp} (h : DW CW x y z H) : ∃ a b, x = .ref a ∧ y = .ref b := by
  obtain ⟨a1, b1, dx, dy, fs, gs, h1, h2, _⟩ := h
  exact ⟨a1, b1, h1, h2⟩
section
variable {P : Program} {w : World} {K : PySem.W.Frag} {mg : Str → Option Value} {base : Heap} {f : Addr} {fd : FuncData} {CW : Addr}
/-! Wishes.__eq__ -/
abbrev sWEq : Stmt := inClass (top 21) 1
theorem scWEq : FnScope ["self", "other"] ["self", "other"] (defScope sWEq) := ⟨rfl, rfl, rfl, by decide +kernel, rfl, by decide +kernel, by decide +kernel⟩
theorem ok_weq (B : Bl mg) (X : WTx K mg CW) (T : ITx K CW) (me : PySem.W.kitOne K (.ref CW) (.ref CW) = some true) (F : FnM K "__eq__" "Wishes.__eq__" sWEq f fd) : FnOk P w K mg base CX0 1 f fd ["self", "other"] (spEqB (RW CW)) := by
  refine F.ok scWEq (fun vs H Q E h => ?_) (fun cdv A outer s H vs Q E hr h => ?_)
  · obtain ⟨a, b, z, rfl, _⟩ := h
    rfl
  · obtain ⟨a, b, z, rfl, ⟨rows, rows', hw, hw', rfl⟩, k⟩ := h
    refine ⟨_, pss_one (ps_ret (pe_and (pe_callB call_isi (by rfl) B.isi boot_isinstance (pa_cons (pv 1) (pa_cons (pe_glob (v := .ref CW) (by rfl) X.g rfl) pa_nil)))
      (pe_one (pe_cmpR (op_eqD hr.units) (pe_fld (pv 0) rfl) (pe_fld (pv 1) rfl) (nomark _))))), ?_⟩
    obtain ⟨a', dx, lv, ea, ha, hl⟩ := id hw.ex
    obtain ⟨b', dy, lv', eb, hb, hl'⟩ := id hw'.ex
    cases ea
    cases eb
    have f0 : Ev (tFld K (tVar 0) "_lists") (start ["self", "other"] [.ref a, .ref b]) H lv := fun H2 e2 Q2 q => ⟨.ref a, rfl, a, CW, dx, _, _, rfl, e2 _ _ ha, X.cl, X.nL, wf_lists _ _, q H2 (Ex.refl H2)⟩
    have f1 : Ev (tFld K (tVar 1) "_lists") (start ["self", "other"] [.ref a, .ref b]) H lv' := fun H2 e2 Q2 q => ⟨.ref b, rfl, b, CW, dy, _, _, rfl, e2 _ _ hb, X.cl, X.nL, wf_lists _ _, q H2 (Ex.refl H2)⟩
    refine s_ret (v := .bl (decide (rows = rows'))) (ev_is (ev_andV (a := true) (b := decide (rows = rows')) (ev_isiO T me (ev_var rfl) ⟨b, dy, _, rfl, hb⟩) fun _ => ev_op f0 f1 fun H2 e2 Q2 q2 => ⟨pd rows, pd rows', Dq.dp (SeqAt.canLay_of_shaped (shaped_pd _)) (hl.mono e2), Dq.dp (SeqAt.canLay_of_shaped (shaped_pd _)) (hl'.mono e2), shaped_pd _, shaped_pd _, by rw [eqv_pd]; exact q2 H2 (Ex.refl _)⟩) rfl) fun H2 e2 => k H2 e2
end
end Wk

set_option Elab.async false
set_option linter.all false
set_option maxRecDepth 100000
set_option maxHeartbeats 2000000
namespace Wk
open L2 PySem PySem.Spec PyProof.Rows Evl
/-! l.remove(x) of data -/
def rRemD (K : PySem.W.Frag) : V → List V → Hp → VK → Prop := fun x xs H Q => ∃ (l : Addr) (vs : List V) (ds : List PyData) (v : V) (d : PyData) (j : Nat), x = .ref l ∧ xs = [v] ∧ H l = some (.lst vs) ∧ DpAll K H vs ds ∧ Dp K H v d ∧ PyData.plainAll ds = true ∧ d.plain = true ∧ d.depth ≤ 60 ∧
  SeqAt.dataPlace ds d = some j ∧ Q .non (upd H l (.lst (vs.eraseIdx j)))
theorem mt_removeD {X : Cx} (hu : X.A.units + 64 < cLine) : MtM X "list.remove" (rRemD X.K) := by
  intro pins s σ H x xs v us Q I rx rxs h
  obtain ⟨l, vs, ds, v', d, j, rfl, rfl, hH, hds, hd, hp1, hp2, hdep, hpl, q⟩ := h
  cases rx
  obtain ⟨u, rfl, ru⟩ := rxs.one
  obtain ⟨z, its, n, r, hl, e⟩ := I.lstM hH
  obtain ⟨as, q1⟩ := Dp.readsAll I ds _ _ hds r
  obtain ⟨bs, q2⟩ := Dp.reads I d _ _ hd ru
  refine SeqAt.remove_list_data (vs := its.toArray) ⟨_, e, rfl, n, rfl⟩ q1 q2 hp1 hp2 (by have := Nat.min_le_right (PyData.depthAll ds) d.depth; omega) hpl (by rw [List.size_toArray]; omega) ?_
  refine ⟨.non, _, I.lset (its' := its.eraseIdx j) (t' := s.toks) hH e ?_ (r.eraseIdx j) ?_, rfl, q⟩
  · show its.toArray.eraseIdxIfInBounds j = (its.eraseIdx j).toArray
    rw [List.eraseIdxIfInBounds_toArray]
  · have := List.length_eraseIdx_le vs j
    omega
theorem plain_wds : ∀ ws : List Wy, PyData.plainAll (ws.map wd) = true ∧ True
  | [] => by simp [PyData.plainAll]
  | w :: ws => by
    have h := (plain_wds ws).1
    have h2 : PyData.plainAll (w.map PyData.int) = true := by
      induction w with
      | nil => simp [PyData.plainAll]
      | cons x w ih => simp [PyData.plainAll, PyData.plain, ih]
    simp [PyData.plainAll, PyData.plain, wd, h, h2]
theorem place_wd {ws : List Wy} {j : Nat} {w : Wy} (hn : ws.Nodup) (h : ws[j]? = some w) : SeqAt.dataPlace (ws.map wd) (wd w) = some j := by
  unfold SeqAt.dataPlace
  rw [List.findIdx?_eq_some_iff_getElem]
  have hl := (List.getElem?_eq_some_iff.mp h).1
  have hw := (List.getElem?_eq_some_iff.mp h).2
  refine ⟨by rw [List.length_map]; exact hl, ?_, fun m hm => ?_⟩
  · rw [List.getElem_map, hw, eqv_wd]
    exact decide_eq_true rfl
  · rw [List.getElem_map, eqv_wd]
    have hml : m < ws.length := by omega
    have : ws[m] ≠ w := fun z => by
      have := (List.getElem_inj hn).mp (z.trans hw.symm)
      omega
    simpa using this
/-! good lists stay good -/
theorem gw_perm {rows : List (List Wy)} (h : GW rows) {r : Nat} {row row' : List Wy} (hr : rows[r]? = some row) (hp : row'.Perm row) : GW (rows.set r row') := by
  have hrl := (List.getElem?_eq_some_iff.mp hr).1
  have back : ∀ (i : Nat) (x : List Wy), (rows.set r row')[i]? = some x → ∃ y, rows[i]? = some y ∧ x.Perm y := fun i x hx => by
    by_cases c : r = i
    · subst c
      rw [List.getElem?_set_self hrl] at hx
      cases hx
      exact ⟨row, hr, hp⟩
    · rw [List.getElem?_set_ne c] at hx
      exact ⟨x, hx, List.Perm.refl _⟩
  refine ⟨fun x hx => ?_, fun i x hx => ?_, fun i x hx w hw => ?_, fun i x hx w hw => ?_⟩
  · obtain ⟨y, hy, p⟩ := back 0 x hx
    rw [h.goal y hy] at p
    exact p.eq_nil
  · obtain ⟨y, hy, p⟩ := back i x hx
    exact p.nodup_iff.mpr (h.nd i y hy)
  · obtain ⟨y, hy, p⟩ := back i x hx
    rw [List.length_set]
    exact h.ok i y hy w (p.mem_iff.mp hw)
  · obtain ⟨y, hy, p⟩ := back i x hx
    rcases h.rest i y hy w (p.mem_iff.mp hw) with z | ⟨j, r2, z1, z2, z3⟩
    · exact .inl z
    · refine .inr ?_
      by_cases c : r = j
      · subst c
        rw [hr] at z2
        cases z2
        exact ⟨r, row', z1, List.getElem?_set_self hrl, hp.mem_iff.mpr z3⟩
      · exact ⟨j, r2, z1, by rw [List.getElem?_set_ne c]; exact z2, z3⟩
theorem gw_drop {rows : List (List Wy)} (h : GW rows) {r k : Nat} {row : List Wy} {w0 : Wy} (hr : rows[r]? = some row) (hk : row[k]? = some w0) (hf : ∀ (i : Nat) (x : List Wy), rows[i]? = some x → ∀ w ∈ x, w.drop 1 ≠ w0) : GW (rows.set r (row.eraseIdx k)) := by
  have hrl := (List.getElem?_eq_some_iff.mp hr).1
  have hkl := (List.getElem?_eq_some_iff.mp hk).1
  have sub : ∀ x, x ∈ row.eraseIdx k → x ∈ row := fun x hx => List.mem_of_mem_eraseIdx hx
  have back : ∀ (i : Nat) (x : List Wy), (rows.set r (row.eraseIdx k))[i]? = some x → ∃ y, rows[i]? = some y ∧ (∀ w ∈ x, w ∈ y) ∧ x.Sublist y := fun i x hx => by
    by_cases c : r = i
    · subst c
      rw [List.getElem?_set_self hrl] at hx
      cases hx
      exact ⟨row, hr, sub, List.eraseIdx_sublist row k⟩
    · rw [List.getElem?_set_ne c] at hx
      exact ⟨x, hx, fun w hw => hw, List.Sublist.refl _⟩
  refine ⟨fun x hx => ?_, fun i x hx => ?_, fun i x hx w hw => ?_, fun i x hx w hw => ?_⟩
  · obtain ⟨y, hy, _, p⟩ := back 0 x hx
    rw [h.goal y hy] at p
    exact List.sublist_nil.mp p
  · obtain ⟨y, hy, _, p⟩ := back i x hx
    exact (h.nd i y hy).sublist p
  · obtain ⟨y, hy, p, _⟩ := back i x hx
    rw [List.length_set]
    exact h.ok i y hy w (p w hw)
  · obtain ⟨y, hy, p, _⟩ := back i x hx
    rcases h.rest i y hy w (p w hw) with z | ⟨j, r2, z1, z2, z3⟩
    · exact .inl z
    · refine .inr ?_
      by_cases c : r = j
      · subst c
        rw [hr] at z2
        cases z2
        refine ⟨r, _, z1, List.getElem?_set_self hrl, ?_⟩
        have hne := hf i y hy w (p w hw)
        rw [List.mem_eraseIdx_iff_getElem?]
        obtain ⟨m, hm⟩ := List.mem_iff_getElem?.mp z3
        exact ⟨m, fun e => by rw [e, hk] at hm; exact hne (Option.some.inj hm).symm, hm⟩
      · exact ⟨j, r2, z1, by rw [List.getElem?_set_ne c]; exact z2, z3⟩
theorem gw_snoc {rows : List (List Wy)} (h : GW rows) (h1 : 1 ≤ rows.length) : GW (rows ++ [[]]) := by
  have back : ∀ (i : Nat) (x : List Wy), (rows ++ [[]])[i]? = some x → rows[i]? = some x ∨ x = [] := fun i x hx => by
    by_cases c : i < rows.length
    · rw [List.getElem?_append_left c] at hx
      exact .inl hx
    · rw [List.getElem?_append_right (by omega)] at hx
      have := List.mem_of_getElem? hx
      exact .inr (List.mem_singleton.mp this)
  refine ⟨fun x hx => ?_, fun i x hx => ?_, fun i x hx w hw => ?_, fun i x hx w hw => ?_⟩
  · rcases back 0 x hx with z | z
    · exact h.goal x z
    · exact z
  · rcases back i x hx with z | z
    · exact h.nd i x z
    · rw [z]
      exact List.nodup_nil
  · rcases back i x hx with z | z
    · obtain ⟨a1, a2, a3, a4, a5, a6⟩ := h.ok i x z w hw
      refine ⟨a1, a2, a3, a4, a5, fun y hy => ⟨(a6 y hy).1, ?_⟩⟩
      have := (a6 y hy).2
      rw [List.length_append]
      simp
      omega
    · rw [z] at hw
      cases hw
  · rcases back i x hx with z | z
    · rcases h.rest i x z w hw with y | ⟨j, r2, z1, z2, z3⟩
      · exact .inl y
      · have hjl := (List.getElem?_eq_some_iff.mp z2).1
        exact .inr ⟨j, r2, z1, by rw [List.getElem?_append_left hjl]; exact z2, z3⟩
    · rw [z] at hw
      cases hw
end Wk

set_option Elab.async false
set_option linter.all false
set_option maxRecDepth 100000
set_option maxHeartbeats 4000000
namespace Wk
open L2 PySem PySem.Spec PyProof.Rows Evl
theorem Rz.snoc {G H : Hp} {p q R b : Addr} {rs : List Addr} {rows : List (List Wy)} {row : List Wy} {vs : List V} (hP : Pl G H p q) (h : Rz G H p q R rs rows) (hb : H b = none) (hd : DqA G vs (row.map wd)) :
    Pl G (upd (upd H b (.lst vs)) R (.lst (rs.map V.ref ++ [.ref b]))) p q ∧ Rz G (upd (upd H b (.lst vs)) R (.lst (rs.map V.ref ++ [.ref b]))) p q R (rs ++ [b]) (rows ++ [row]) := by
  have e : Ex H (upd H b (.lst vs)) := Ex.new hb
  have h2 := h.ext e
  have gb := fresh_back hP.ex hb
  have bR : b ≠ R := Ne.symm (ne_of_none h.at_ hb)
  have hbn : b ∉ rs := fun z => by
    obtain ⟨_, _, _, vs', h1⟩ := h.mem z
    rw [hb] at h1
    cases h1
  refine ⟨(hP.ext e).mut h.gR h.Rp h.Rq, by rw [upd_same, List.map_append]; rfl, h.gR, h.Rp, h.Rq, fun z => ?_, ?_, by rw [List.length_append, List.length_append, h.len]; rfl, fun k r2 row2 h3 w2 => ?_⟩
  · rcases List.mem_append.mp z with y | y
    · exact h.nin y
    · exact bR (List.mem_singleton.mp y).symm
  · exact nd_snoc h.nd hbn
  · by_cases c : k < rs.length
    · rw [List.getElem?_append_left c] at h3
      rw [List.getElem?_append_left (by rw [← h.len]; exact c)] at w2
      obtain ⟨g, rp, rq, vs2, h4, h5⟩ := h2.row k r2 row2 h3 w2
      have nr : r2 ≠ R := fun z => h.nin (by rw [← z]; exact List.mem_of_getElem? h3)
      exact ⟨g, rp, rq, vs2, by rw [upd_ne nr]; exact h4, h5⟩
    · have hk : k = rs.length := by
        have := (List.getElem?_eq_some_iff.mp h3).1
        rw [List.length_append, List.length_singleton] at this
        omega
      subst hk
      rw [List.getElem?_append_right (Nat.le_refl _), Nat.sub_self] at h3
      rw [h.len, List.getElem?_append_right (Nat.le_refl _), Nat.sub_self] at w2
      cases h3
      cases w2
      exact ⟨gb, hP.np hb, hP.nq hb, vs, by rw [upd_ne bR, upd_same], hd⟩
theorem Rz.put2 {G H : Hp} {p q R D : Addr} {rs : List Addr} {rows : List (List Wy)} {xs : List V} (h : Rz G H p q R rs rows) (hR : D ≠ R) (hD : D ∉ rs) : Rz G (upd H D (.lst xs)) p q R rs rows := by
  refine ⟨by rw [upd_ne (Ne.symm hR)]; exact h.at_, h.gR, h.Rp, h.Rq, h.nin, h.nd, h.len, fun k r row hr hw => ?_⟩
  obtain ⟨g, rp, rq, vs, h1, h2⟩ := h.row k r row hr hw
  have nr : r ≠ D := fun z => hD (by rw [← z]; exact List.mem_of_getElem? hr)
  exact ⟨g, rp, rq, vs, by rw [upd_ne nr]; exact h1, h2⟩
theorem Rz.fresh {G H : Hp} {p q R D : Addr} {rs : List Addr} {rows : List (List Wy)} (h : Rz G H p q R rs rows) (hD : H D = none) : D ≠ R ∧ D ∉ rs := ⟨Ne.symm (ne_of_none h.at_ hD), fun z => by
  obtain ⟨_, _, _, _, h1⟩ := h.mem z
  rw [hD] at h1
  cases h1⟩
/-- the tails of the ways so far: the new tuples stay -/
structure Tailz (G0 H : Hp) (p q R : Addr) (rs : List Addr) (rows : List (List Wy)) (row : List Wy) (D : Addr) (i : Nat) : Prop where
  ex : ∃ (G : Hp) (ts : List V), Ex G0 G ∧ Pl G H p q ∧ Rz G H p q R rs rows ∧ H D = some (.lst ts) ∧ G D = none ∧ D ≠ p ∧ D ≠ q ∧ D ≠ R ∧ D ∉ rs ∧ DqA G ts (((row.take i).map fun w => w.drop 1).map wd)
/-- a tuple that is there: it may stay -/
theorem keepP {G H : Hp} {p q R t : Addr} {rs : List Addr} {rows : List (List Wy)} {xs : List V} (hP : Pl G H p q) (hW : Rz G H p q R rs rows) (ht : H t = some (.tup xs)) : ∃ G', Ex G G' ∧ Pl G' H p q ∧ Rz G' H p q R rs rows ∧ G' t = some (.tup xs) ∧ ∀ D, G D = none → D ≠ t → G' D = none := by
  cases hg : G t with
  | some o =>
    have e := hP.ex _ _ hg
    rw [ht] at e
    cases e
    exact ⟨G, Ex.refl _, hP, hW, hg, fun D h _ => h⟩
  | none =>
    obtain ⟨n, cs, a1, a2, _⟩ := id hP.at_
    have np : t ≠ p := fun z => by rw [z, a1] at ht; cases ht
    have nq : t ≠ q := fun z => by rw [z, a2] at ht; cases ht
    have nR : R ≠ t := fun z => by
      have := hW.at_
      rw [z, ht] at this
      cases this
    have nr : ∀ r ∈ rs, r ≠ t := fun r hr z => by
      obtain ⟨_, _, _, vs, h1⟩ := hW.mem hr
      rw [z, ht] at h1
      cases h1
    refine ⟨upd G t (.tup xs), Ex.new hg, hP.hold ht np nq, hW.grow (Ex.new hg) (by rw [upd_ne nR]; exact hW.gR) (fun r hr => by rw [upd_ne (nr r hr)]; exact (hW.mem hr).1), upd_same, fun D h hd => by rw [upd_ne hd]; exact h⟩
theorem erase_map {α β : Type} (f : α → β) : ∀ (l : List α) (k : Nat), (l.map f).eraseIdx k = (l.eraseIdx k).map f
  | [], _ => rfl
  | x :: l, 0 => rfl
  | x :: l, k + 1 => by
    have := erase_map f l k
    simp only [List.map_cons, List.eraseIdx_cons_succ]
    rw [this]
theorem cut_w1 (w : Wy) : cutV (w.map V.int) (some 1) none = (w.drop 1).map V.int := by
  by_cases h : 1 ≤ w.length
  · have z := cut_from (w.map V.int) 1 (by rw [List.length_map]; exact h)
    rw [show ((1 : Nat) : Int) = 1 from rfl] at z
    rw [z, List.map_drop]
  · have : w = [] := List.length_eq_zero_iff.mp (by omega)
    subst this
    rfl
end Wk

set_option Elab.async false
set_option linter.all false
set_option maxRecDepth 100000
set_option maxHeartbeats 4000000
namespace Wk
open L2 PySem PySem.Spec PyProof.Rows Evl
theorem rd_ref {G : Hp} {v : V} {row : List Wy} (h : Dq G v (rd row)) : ∃ a ws, v = .ref a ∧ G a = some (.tup ws) ∧ DqA G ws (row.map wd) := by
  unfold rd at h
  cases h with
  | tup h1 h2 => exact ⟨_, _, rfl, h1, h2⟩
/-- good rows in the heap, and where the row at r stands -/
structure Gz (G0 H : Hp) (p q R : Addr) (r : Nat) (rr : Addr) : Prop where
  ex : ∃ (G : Hp) (rs : List Addr) (rows : List (List Wy)), Ex G0 G ∧ Pl G H p q ∧ Rz G H p q R rs rows ∧ GW rows ∧ 2 ≤ rows.length ∧ rows.length ≤ 8 ∧ (∀ row ∈ rows, row.length ≤ 6) ∧ rs[r]? = some rr ∧ 1 ≤ r
theorem Gz.ext {G0 H H' : Hp} {p q R : Addr} {r : Nat} {rr : Addr} (h : Gz G0 H p q R r rr) (e : Ex H H') : Gz G0 H' p q R r rr := by
  obtain ⟨G, rs, rows, a, b, c, d⟩ := h.ex
  exact ⟨G, rs, rows, a, b.ext e, c.ext e, d⟩
theorem get6 {rows : List (List Wy)} (h6 : ∀ row ∈ rows, row.length ≤ 6) {r : Nat} {row' : List Wy} (hl : row'.length ≤ 6) : ∀ row ∈ rows.set r row', row.length ≤ 6 := fun row hm => by
  rcases List.mem_or_eq_of_mem_set hm with z | z
  · exact h6 row z
  · rw [z]
    exact hl
theorem perm_ins {α : Type} (l : List α) (k y : Nat) (h : k < l.length) : ((l.eraseIdx k).take y ++ [l[k]] ++ (l.eraseIdx k).drop y).Perm l := by
  have a := erase_perm l k h
  have b : ((l.eraseIdx k).take y ++ [l[k]] ++ (l.eraseIdx k).drop y).Perm (l[k] :: ((l.eraseIdx k).take y ++ (l.eraseIdx k).drop y)) := by
    rw [List.append_assoc]
    exact List.perm_middle
  rw [List.take_append_drop] at b
  exact b.trans a
section
variable {P : Program} {w : World} {K : PySem.W.Frag} {mg : Str → Option Value} {base : Heap} {f : Addr} {fd : FuncData}
/-! _law_changed -/
def spChanged : Sp := fun vs H Q _ => ∃ (G : Hp) (p q : Addr) (lv : V) (rows : List (List Wy)), vs = [.ref p, lv] ∧ Pl G H p q ∧ Dq G lv (pd rows) ∧ GW rows ∧ 2 ≤ rows.length ∧ rows.length ≤ 8 ∧ (∀ row ∈ rows, row.length ≤ 6) ∧
  ∀ G' H' v rows', Ex G G' → Pl G' H' p q → Dq G' v (pd rows') → GW rows' → 2 ≤ rows'.length → rows'.length ≤ 8 → (∀ row ∈ rows', row.length ≤ 6) → Q v H'
abbrev sChanged : Stmt := top 39
abbrev nChanged : List Str := ["_law_pool_here", "_law_lists_here", "_law_rows", "_law_kind", "_law_router", "_law_row", "_law_at", "_law_used", "_law_other", "_law_free", "_law_way"]
theorem scChanged : FnScope nChanged ["_law_pool_here", "_law_lists_here"] (defScope sChanged) := ⟨rfl, rfl, rfl, by decide +kernel, rfl, by decide +kernel, by decide +kernel⟩
theorem ok_changed (B : Bl mg) (C : Cal P w K mg base "_law_draw" ["_law_pool_here", "_law_size"] 1 spDraw) (F : FnP K "_law_changed" sChanged f fd) : FnOk P w K mg base CX0 2 f fd ["_law_pool_here", "_law_lists_here"] spChanged := by
  refine F.ok scChanged (fun vs H Q E h => ?_) (fun cdv A outer s H vs Q E hr h => ?_)
  · obtain ⟨G, p, q, lv, rows, rfl, _⟩ := h
    rfl
  · obtain ⟨G, p, q, lv, rows, rfl, hP, hlv, hG, hn2, hn8, h6, k⟩ := h
    have hu : (A.deeper (envOfC "_law_changed" (defScope sChanged) s.heap.objs.size f cdv)).units + 65 < cLine := by have := hr.un; omega
    refine ⟨_, pss_cons (ps_setLc (i := 2) (own := [("_law_row", 5)]) (g := gName 5) (tt := tYes) rfl scChanged.nd rfl rfl (sw_true rfl rfl rfl (by decide +kernel)) (pi_tup (pv 1)) (blkOk_by (N := nChanged) (sc := defScope sChanged) (by decide +kernel))
          (fun _ _ _ _ _ => pg_name (i := 5) scChanged.nd rfl (Or.inl rfl)) (fun _ _ _ _ _ => pts_nil) (fun _ _ _ _ _ => pe_callTy (call_listK2 (K := K) rfl) (by rfl) B.list PyProof.Rows.boot_list (pa_cons (pv 5) pa_nil)))
      (pss_cons (ps_set (i := 3) scChanged.nd rfl (Or.inl rfl) (pe_cal C hr (by rfl) (pa_cons (pv 0) (pa_cons pe_int pa_nil))))
      (pss_cons (ps_set (i := 4) scChanged.nd rfl (Or.inl rfl) (pe_op op_add pe_int (pe_cal C hr (by rfl) (pa_cons (pv 0) (pa_cons (pe_op op_sub (pe_callB call_len_seq (by rfl) B.len PySem.boot_len (pa_cons (pv 2) pa_nil)) pe_int) pa_nil)))))
      (pss_cons (ps_set (i := 5) scChanged.nd rfl (Or.inl rfl) (pe_ix ix_list (pv 2) (pv 4) (fun _ _ => rfl)))
      (pss_cut (ps_if (PW.pt (pw_and (pt_cmpR op_eq (pv 3) pe_int (nomark _)) (pw_and1 (pt_cmpR op_gt (pe_callB call_len_seq (by rfl) B.len PySem.boot_len (pa_cons (pv 5) pa_nil)) pe_int (nomark _)))))
          (pss_cons (ps_set (i := 6) scChanged.nd rfl (Or.inl rfl) (pe_cal C hr (by rfl) (pa_cons (pv 0) (pa_cons (pe_op op_sub (pe_callB call_len_seq (by rfl) B.len PySem.boot_len (pa_cons (pv 5) pa_nil)) pe_int) pa_nil))))
          (pss_one (ps_expr (pe_bm PySem.F.plainAttrs_list PySem.F.slot_list_insert PySem.F.type_list_insert mt_insert (pv 5) (pa_cons (pv 6) (pa_cons
            (pe_bm PySem.F.plainAttrs_list PySem.F.slot_list_pop PySem.F.type_list_pop mt_popAt (pv 5) (pa_cons (pe_op op_add (pv 6) pe_int) pa_nil)) pa_nil)))))) pss_nil)
      (pss_cut (ps_if (pt_cmpR op_eq (pv 3) pe_int (nomark _))
          (pss_cons (ps_set (i := 7) scChanged.nd rfl (Or.inr rfl) (pe_lst pa_nil))
          (pss_cons (ps_for (passes_of rfl) rfl (pi_list (pv 2)) (pg_name (i := 8) scChanged.nd rfl (Or.inl rfl))
            (pss_one (ps_set (i := 7) scChanged.nd rfl (Or.inr rfl) (pe_op op_cat (pv 7) (pe_lc (own := [("_law_way", 10)]) (g := gName 10) (tt := tYes) (te := tSl (rSlA K) (tVar 10) (tPart (tC (.int 1))) tNoPart) rfl scChanged.nd (pi_list (pv 8)) (blkOk_by (N := nChanged) (sc := defScope sChanged) (by first | rfl | decide +kernel))
              (fun _ _ _ _ _ => pg_name (i := 10) scChanged.nd rfl (Or.inl rfl)) (fun _ _ _ _ _ => pts_nil) (fun _ _ _ _ _ => pe_slice sl_tupA (pv 10) (po_some pe_int) po_none))))))
          (pss_cons (ps_setLc (i := 9) (own := [("_law_way", 10)]) (g := gName 10) (tt := tTest (tOp (rNotInD K) (tVar 10) (tVar 7))) rfl scChanged.nd rfl rfl (sw_true rfl rfl rfl (by decide +kernel)) (pi_list (pv 5)) (blkOk_by (N := nChanged) (sc := defScope sChanged) (by first | rfl | decide +kernel))
              (fun _ _ _ _ _ => pg_name (i := 10) scChanged.nd rfl (Or.inl rfl)) (fun _ _ _ _ _ => pts_one (pt_cmpR (op_notInD hu) (pv 10) (pv 7) rfl)) (fun _ _ _ _ _ => pv 10))
          (pss_one (ps_if (pt_cmpR (op_neD hr.units) (pv 9) (pe_lst pa_nil) (nomark _))
            (pss_one (ps_expr (pe_bm PySem.F.plainAttrs_list PySem.F.slot_list_remove PySem.F.type_list_remove (mt_removeD hr.units) (pv 5) (pa_cons (pe_ix ix_list (pv 9) (pe_cal C hr (by rfl) (pa_cons (pv 0) (pa_cons (pe_callB call_len_seq (by rfl) B.len PySem.boot_len (pa_cons (pv 9) pa_nil)) pa_nil))) (fun _ _ => rfl)) pa_nil)))) pss_nil))))) pss_nil)
      (pss_cut (ps_if (PW.pt (pw_and (pt_cmpR op_eq (pv 3) pe_int (nomark _)) (pw_and (pt_cmpR (op_notInD hu) (pe_tup (pa_cons (pv 4) (pa_cons pe_int pa_nil))) (pv 5) rfl) (pw_and1 (pt_cmpR op_lt (pe_callB call_len_seq (by rfl) B.len PySem.boot_len (pa_cons (pv 5) pa_nil)) pe_int (nomark _))))))
          (pss_one (ps_expr (pe_bm PySem.F.plainAttrs_list PySem.F.slot_list_insert PySem.F.type_list_insert mt_insert (pv 5) (pa_cons (pe_cal C hr (by rfl) (pa_cons (pv 0) (pa_cons (pe_op op_add (pe_callB call_len_seq (by rfl) B.len PySem.boot_len (pa_cons (pv 5) pa_nil)) pe_int) pa_nil))) (pa_cons (pe_tup (pa_cons (pv 4) (pa_cons pe_int pa_nil))) pa_nil))))) pss_nil)
      (pss_cut (ps_if (PW.pt (pw_and (pt_cmpR op_eq (pv 3) pe_int (nomark _)) (pw_and1 (pt_cmpR op_lt (pe_callB call_len_seq (by rfl) B.len PySem.boot_len (pa_cons (pv 2) pa_nil)) pe_int (nomark _)))))
          (pss_one (ps_expr (pe_bm PySem.F.plainAttrs_list PySem.F.slot_list_append PySem.F.type_list_append mt_append (pv 2) (pa_cons (pe_lst pa_nil) pa_nil)))) pss_nil)
      (pss_one (ps_ret (pe_callTy (call_tupleK (K := K) rfl) (by rfl) B.tuple PyProof.Rows.boot_tuple (pa_cons (pe_lc (own := [("_law_row", 5)]) (g := gName 5) (tt := tYes) rfl scChanged.nd (pi_list (pv 2)) (blkOk_by (N := nChanged) (sc := defScope sChanged) (by decide +kernel))
          (fun _ _ _ _ _ => pg_name (i := 5) scChanged.nd rfl (Or.inl rfl)) (fun _ _ _ _ _ => pts_nil) (fun _ _ _ _ _ => pe_callTy (call_tupleK (K := K) rfl) (by rfl) B.tuple PyProof.Rows.boot_tuple (pa_cons (pv 5) pa_nil))) pa_nil))))))))))), ?_⟩
    -- the rows as lists
    obtain ⟨la, lxs, rfl, hla, hlx⟩ : ∃ la lxs, lv = .ref la ∧ G la = some (.tup lxs) ∧ DqA G lxs (rows.map rd) := by
      unfold pd at hlv
      cases hlv with
      | tup h1 h2 => exact ⟨_, _, rfl, h1, h2⟩
    have lx := hlx.length
    rw [List.length_map] at lx
    refine ⟨.ref la, rfl, la, rfl, ⟨_, st_of (hP.ex _ _ hla)⟩, fun R hR => ?_⟩
    have gR := fresh_back hP.ex hR
    have Rp := hP.np hR
    have Rq := hP.nq hR
    refine lc_tup (K := K) (xs := lxs) (fun i H' => ∃ rs, Pl G H' p q ∧ Rz G H' p q R rs (rows.take i)) ⟨[], hP.ext (Ex.new hR), ⟨upd_same, gR, Rp, Rq, by simp, by simp, by simp, fun i r row hr => by simp at hr⟩⟩ (fun i H' _ h => ?_) ?_ ?_
    · obtain ⟨_, h1, _⟩ := h
      exact st_of (h1.ex _ _ hla)
    · rintro i x H2 hx ⟨rs, hP2, hW2⟩
      have hil : i < rows.length := by
        have := (List.getElem?_eq_some_iff.mp hx).1
        omega
      have hri : rows[i]? = some rows[i] := List.getElem?_eq_getElem hil
      obtain ⟨d, hd1, hd2⟩ := hlx.get hx
      rw [List.getElem?_map, hri] at hd1
      cases hd1
      obtain ⟨ra, ws, rfl, hra, hws⟩ := rd_ref hd2
      refine ⟨rfl, .ref ra, rfl, ra, ws, rfl, .inr (st_of (hP2.ex _ _ hra)), fun l hl => ?_⟩
      have nRl : R ≠ l := ne_of_none hW2.at_ hl
      have z := hW2.snoc hP2 hl hws
      have hrl := hW2.len
      rw [List.length_take] at hrl
      refine ⟨rs.map V.ref, by rw [upd_ne nRl]; exact hW2.at_, by rw [List.length_map, sizeLine_eq]; omega, rs ++ [l], z.1, ?_⟩
      rw [take_snoc hri]
      exact z.2
    rintro H2 ⟨rs, hP2, hW2⟩
    rw [lx, List.take_length] at hW2
    refine g_name ?_
    refine ⟨.ref p, rfl, Hd H2 p q, p, q, 5, rfl, hP2.hd, by decide, by decide, fun H3 kd h3 hk0 hk1 => ?_⟩
    have hP3 := hP2.back h3
    have hW3 := hW2.off h3.off
    refine g_name ?_
    have hrl := hW3.len
    refine ⟨.ref p, rfl, .ref R, rfl, R, _, rfl, .inl (sq_of hW3.at_), _, 1, rfl, rfl, Hd H3 p q, p, q, _, rfl, hP3.hd, by rw [List.length_map]; omega, by rw [List.length_map]; omega, fun H4 y h4 hy0 hy1 => ⟨1, y, rfl, rfl, ?_⟩⟩
    rw [List.length_map] at hy1
    have hP4 := hP3.back h4
    have hW4 := hW3.off h4.off
    refine g_name ?_
    obtain ⟨r, hr1⟩ : ∃ r : Nat, (1 : Int) + y = (r : Int) := ⟨(1 + y).toNat, by omega⟩
    have hrl4 : r < rs.length := by omega
    have hrr : rs[r]? = some rs[r] := List.getElem?_eq_getElem hrl4
    refine ⟨.ref R, rfl, .int (1 + y), rfl, R, _, _, .ref rs[r], rfl, rfl, sq_of hW4.at_, by rw [hr1]; exact atI_nat (by rw [List.getElem?_map, hrr]; rfl), ?_⟩
    generalize rs[r] = rr at hrr ⊢
    refine g_name ?_
    change tCut _ _ _ [some (.ref p), some (.ref la), some (.ref R), some (.int kd), some (.int (1 + y)), some (.ref rr), none, none, none, none, none] H4
    rw [hr1]
    have hz0 : Gz G H4 p q R r rr := ⟨G, rs, rows, Ex.refl _, hP4, hW4, hG, hn2, hn8, h6, hrr, by omega⟩
    clear hP hP2 hP3 hP4 hW2 hW3 hW4 hrl hrl4 hrr h3 h4 hlx hla hG h6 hn2 hn8 hr1 lx hR gR Rp Rq
    refine q_cut (M := fun σ' H' => ∃ o6 : Option V, σ' = [some (.ref p), some (.ref la), some (.ref R), some (.int kd), some (.int (r : Int)), some (.ref rr), o6, none, none, none, none] ∧ Gz G H' p q R r rr) ?_ ?_
    · obtain ⟨G1, rs1, rows1, e1, hP1, hW1, hG1, a2, a8, a6, hr1, ar⟩ := hz0.ex
      have hil1 : r < rows1.length := by rw [← hW1.len]; exact (List.getElem?_eq_some_iff.mp hr1).1
      have hrow : rows1[r]? = some rows1[r] := List.getElem?_eq_getElem hil1
      obtain ⟨g1, rp, rq, vs, v1, v2⟩ := hW1.row r rr _ hr1 hrow
      have hl6 := a6 _ (List.getElem_mem hil1)
      generalize rows1[r] = row at *
      have vl := v2.length
      rw [List.length_map] at vl
      refine s_when (b := decide (V.int kd = V.int 1) && decide ((1 : Int) < (vs.length : Int))) (et_and (et_test (ev_op (ev_var rfl) ev_c (rv_eq rfl))) fun _ => et_test (ev_op (r := rI0 fun i j => .bl (decide (j < i))) (x := .int (vs.length : Int)) (y := .int 1) (ev_len (ev_var (i := 5) rfl) (sq_of v1)) ev_c rv_I0)) (fun hb H5 e5 => ?_) (fun _ H5 e5 => ⟨none, rfl, hz0.ext e5⟩)
      have hl2 := of_decide_eq_true (Bool.and_eq_true_iff.mp hb).2
      have hP5 := hP1.ext e5
      have hW5 := hW1.ext e5
      refine ⟨.ref p, rfl, .ref rr, rfl, rr, _, rfl, .inl (sq_of (e5 _ _ v1)), (vs.length : Int), 1, rfl, rfl, Hd H5 p q, p, q, _, rfl, hP5.hd, by omega, by omega, fun H6 y h6 hy0 hy1 => ?_⟩
      have hP6 := hP5.back h6
      have hW6 := hW5.off h6.off
      have v16 := h6.off _ _ rp rq (e5 _ _ v1)
      obtain ⟨n, rfl⟩ : ∃ n : Nat, y = (n : Int) := ⟨y.toNat, by omega⟩
      have hn1 : n + 1 < vs.length := by omega
      refine g_name ?_
      refine ⟨.ref rr, rfl, .inl ⟨rfl, _, sq_of v16⟩, .int (n : Int), rfl, .ref rr, rfl, .inl ⟨rfl, _, sq_of v16⟩, .int (n : Int), rfl, (n : Int), 1, rfl, rfl, rr, vs, (n : Int) + 1, n + 1, vs[n + 1], rfl, rfl, v16, by omega, by omega, ?_, List.getElem?_eq_getElem hn1, ?_⟩
      · rw [seqIndex_of (by omega) (by omega)]
        congr 1
      have hd1 : DqA G1 (vs.eraseIdx (n + 1)) ((row.eraseIdx (n + 1)).map wd) := by
        rw [← erase_map]
        exact v2.erase _
      have hP7 := hP6.mut (o := .lst (vs.eraseIdx (n + 1))) g1 rp rq
      have hW7 := hW6.mut hr1 hd1
      have hrn : n + 1 < row.length := by omega
      have hdx : Dq G1 vs[n + 1] (wd row[n + 1]) := by
        obtain ⟨d, hd, hv⟩ := v2.get (List.getElem?_eq_getElem hn1)
        rw [List.getElem?_map, List.getElem?_eq_getElem hrn] at hd
        cases hd
        exact hv
      refine ⟨rr, _, (n : Int), vs[n + 1], rfl, rfl, upd_same, by rw [sizeLine_eq]; have := List.length_eraseIdx_le vs (n + 1); omega, by omega, by omega, ?_⟩
      rw [Int.toNat_natCast]
      have hd2 : DqA G1 ((vs.eraseIdx (n + 1)).take n ++ [vs[n + 1]] ++ (vs.eraseIdx (n + 1)).drop n) (((row.eraseIdx (n + 1)).take n ++ [row[n + 1]] ++ (row.eraseIdx (n + 1)).drop n).map wd) := by
        rw [List.map_append, List.map_append, List.map_take, List.map_drop]
        exact ((hd1.take _).append (.cons hdx .nil)).append (hd1.drop _)
      have hW8 := hW7.mut hr1 hd2
      rw [List.set_set] at hW8
      have hp := perm_ins row (n + 1) n hrn
      exact ⟨_, rfl, G1, rs1, _, e1, hP7.mut g1 rp rq, hW8, gw_perm hG1 hrow hp, by rw [List.length_set]; exact a2, by rw [List.length_set]; exact a8, get6 a6 (by rw [hp.length_eq]; exact hl6), hr1, ar⟩
    rintro σ' H5 ⟨o6, rfl, hz5⟩
    clear hz0
    refine q_cut (M := fun σ' H' => ∃ o6 o7 o8 o9 : Option V, σ' = [some (.ref p), some (.ref la), some (.ref R), some (.int kd), some (.int (r : Int)), some (.ref rr), o6, o7, o8, o9, none] ∧ Gz G H' p q R r rr) ?_ ?_
    · refine s_when (b := decide (V.int kd = V.int 2)) (et_test (ev_op (ev_var rfl) ev_c (rv_eq rfl))) (fun hb H6 e6 => ?_) (fun _ H6 e6 => ⟨_, _, _, _, rfl, hz5.ext e6⟩)
      obtain ⟨G1, rs, rows1, e1, hP1, hW1, hG1, a2, a8, a6, hr1, ar⟩ := (hz5.ext e6).ex
      refine ⟨by show 0 ≤ sizeLine; decide, fun b0 hb0 => ?_⟩
      have eb := Ex.new (o := .lst ([] : List V)) hb0
      have hP2 := hP1.ext eb
      have hW2 := hW1.ext eb
      have gb0 := fresh_back hP1.ex hb0
      have bp := hP1.np hb0
      have bq := hP1.nq hb0
      have hb1 : (upd H6 b0 (.lst ([] : List V))) b0 = some (.lst []) := upd_same
      generalize upd H6 b0 (.lst ([] : List V)) = H7 at *
      refine g_name ?_
      refine q_forL (K := K) (ev_var (i := 2) rfl) (sq_of hW2.at_) (fun i σ' H' => ∃ (G' : Hp) (b : Addr) (bs : List V) (us : List Wy) (o8 : Option V), σ' = [some (.ref p), some (.ref la), some (.ref R), some (.int kd), some (.int (r : Int)), some (.ref rr), o6, some (.ref b), o8, none, none] ∧ Ex G1 G' ∧ Pl G' H' p q ∧ Rz G' H' p q R rs rows1 ∧ H' b = some (.lst bs) ∧ b ≠ p ∧ b ≠ q ∧ DqA G' bs (us.map wd) ∧ bs.length ≤ 6 * i ∧ ∀ j row, j < i → rows1[j]? = some row → ∀ w ∈ row, w.drop 1 ∈ us)
        (fun H8 e8 => ⟨G1, b0, [], [], none, rfl, Ex.refl _, hP2.ext e8, hW2.ext e8, e8 _ _ hb1, bp, bq, .nil, by simp, fun j row hj => by omega⟩) (fun i σ' H' _ h => ?_) ?_ ?_
      · obtain ⟨_, _, _, _, _, _, _, _, h, _⟩ := h
        exact sq_of h.at_
      · rintro i x σ' H8 hx ⟨G2, b, bs, us, o8, rfl, e2, hP8, hW8, hb8, nbp, nbq, hbs, hbl, hus⟩
        obtain ⟨r8, hr8, rfl⟩ : ∃ r, rs[i]? = some r ∧ x = V.ref r := by
          rw [List.getElem?_map] at hx
          cases hq : rs[i]? with
          | none => rw [hq] at hx; cases hx
          | some r => rw [hq] at hx; exact ⟨r, rfl, (Option.some.inj hx).symm⟩
        have hil : i < rows1.length := by rw [← hW8.len]; exact (List.getElem?_eq_some_iff.mp hr8).1
        have hrow : rows1[i]? = some rows1[i] := List.getElem?_eq_getElem hil
        obtain ⟨g8, rp8, rq8, vs, v1, v2⟩ := hW8.row i r8 _ hr8 hrow
        have hl6 := a6 _ (List.getElem_mem hil)
        generalize rows1[i] = row at *
        have vl := v2.length
        rw [List.length_map] at vl
        refine g_name ?_
        refine ⟨.ref b, rfl, .ref r8, rfl, r8, rfl, ⟨_, sq_of v1⟩, fun D hD => ?_⟩
        have fr := hW8.fresh hD
        have nDb : b ≠ D := ne_of_none hb8 hD
        have nDr : r8 ≠ D := ne_of_none v1 hD
        refine lc_list (K := K) (xs := vs) (fun k H' => Tailz G2 H' p q R rs rows1 row D k ∧ H' b = some (.lst bs) ∧ H' r8 = some (.lst vs)) ⟨⟨G2, [], Ex.refl _, hP8.ext (Ex.new hD), hW8.ext (Ex.new hD), upd_same, fresh_back hP8.ex hD, hP8.np hD, hP8.nq hD, fr.1, fr.2, .nil⟩, (Ex.new hD) _ _ hb8, (Ex.new hD) _ _ v1⟩ (fun k H' _ h => sq_of h.2.2) ?_ ?_
        · rintro k xv H9 hxv ⟨hT, hb9, hr9⟩
          obtain ⟨G3, ts, e3, hP9, hW9, hD9, gD, Dp, Dq', DR, Drs, hts⟩ := hT.ex
          have hkl : k < row.length := by
            have := (List.getElem?_eq_some_iff.mp hxv).1
            omega
          have hrk : row[k]? = some row[k] := List.getElem?_eq_getElem hkl
          obtain ⟨d, hd1, hd2⟩ := v2.get hxv
          rw [List.getElem?_map, hrk] at hd1
          cases hd1
          obtain ⟨wa, rfl, hwa⟩ := wd_ref (hd2.mono e3)
          refine ⟨rfl, ?_⟩
          have z := es_sl (K := K) (te := tVar 10) (σ := [some (.ref p), some (.ref la), some (.ref R), some (.int kd), some (.int (r : Int)), some (.ref rr), o6, some (.ref b), some (.ref r8), none, some (.ref wa)]) (H := H9) (ev_var rfl) (eo_some (i := 1) ev_c) eo_none (hP9.ex _ _ hwa)
          rw [cut_w1] at z
          refine z H9 (Ex.refl _) _ fun t H10 e10 ht => ?_
          have hD10 := e10 _ _ hD9
          have nDt : D ≠ t := fun zz => by rw [zz, ht] at hD10; cases hD10
          obtain ⟨G4, e4, hP10, hW10, gt, keep⟩ := keepP (hP9.ext e10) (hW9.ext e10) ht
          have tl := hts.length
          rw [List.length_map, List.length_map, List.length_take] at tl
          refine ⟨ts, hD10, by rw [sizeLine_eq]; omega, ⟨G4, ts ++ [.ref t], e3.trans e4, hP10.mut (keep D gD nDt) Dp Dq', hW10.put2 DR Drs, upd_same, keep D gD nDt, Dp, Dq', DR, Drs, ?_⟩, by rw [upd_ne nDb]; exact e10 _ _ hb9, by rw [upd_ne nDr]; exact e10 _ _ hr9⟩
          rw [take_snoc hrk, List.map_append, List.map_append]
          exact (hts.mono e4).append (.cons (wd_of gt) .nil)
        · rintro H9 ⟨hT, hb9, hr9⟩
          obtain ⟨G3, ts, e3, hP9, hW9, hD9, gD, Dp, Dq', DR, Drs, hts⟩ := hT.ex
          rw [vl, List.take_length] at hts
          have tl := hts.length
          rw [List.length_map, List.length_map] at tl
          have bl := hbs.length
          rw [List.length_map] at bl
          refine ⟨b, D, bs, ts, rfl, rfl, hb9, hD9, by rw [sizeLine_eq]; omega, fun b2 hb2 => ?_⟩
          refine g_name ?_
          have e2b := Ex.new (o := .lst (bs ++ ts)) hb2
          refine ⟨G3, b2, bs ++ ts, us ++ row.map (fun (w : Wy) => w.drop 1), _, rfl, e2.trans e3, hP9.ext e2b, hW9.ext e2b, upd_same, hP9.np hb2, hP9.nq hb2, by rw [List.map_append]; exact (hbs.mono e3).append hts, by rw [List.length_append]; omega, fun j rw0 hj hrj w hw => ?_⟩
          by_cases c : j = i
          · rw [c, hrow] at hrj
            cases hrj
            exact List.mem_append_right _ (List.mem_map.mpr ⟨w, hw, rfl⟩)
          · exact List.mem_append_left _ (hus j rw0 (by omega) hrj w hw)
      · rintro σ' H8 ⟨G2, b, bs, us, o8, rfl, e2, hP8, hW8, hb8, nbp, nbq, hbs, hbl, hus⟩
        have hil : r < rows1.length := by rw [← hW8.len]; exact (List.getElem?_eq_some_iff.mp hr1).1
        have hrow : rows1[r]? = some rows1[r] := List.getElem?_eq_getElem hil
        obtain ⟨gr, rp, rq, vs, v1, v2⟩ := hW8.row r rr _ hr1 hrow
        have hl6 := a6 _ (List.getElem_mem hil)
        generalize rows1[r] = row at *
        have vl := v2.length
        rw [List.length_map] at vl
        have hus' : ∀ (j : Nat) (row : List Wy), rows1[j]? = some row → ∀ w ∈ row, w.drop 1 ∈ us := fun j rw0 hj w hw => hus j rw0 (by
          have := (List.getElem?_eq_some_iff.mp hj).1
          rw [List.length_map, hW8.len]
          exact this) hj w hw
        refine ⟨.ref rr, rfl, rr, rfl, ⟨_, sq_of v1⟩, fun D hD => ?_⟩
        have fr := hW8.fresh hD
        have nDb : b ≠ D := ne_of_none hb8 hD
        have nDr : rr ≠ D := ne_of_none v1 hD
        have gD := fresh_back hP8.ex hD
        have Dp := hP8.np hD
        have Dq' := hP8.nq hD
        refine lc_list (K := K) (xs := vs) (fun k H' => Pl G2 H' p q ∧ Rz G2 H' p q R rs rows1 ∧ H' b = some (.lst bs) ∧ H' rr = some (.lst vs) ∧ ∃ (ts : List V) (ws : List Wy), H' D = some (.lst ts) ∧ DqA G2 ts (ws.map wd) ∧ ts.length ≤ k ∧ ∀ w ∈ ws, w ∈ row ∧ w ∉ us) ⟨hP8.ext (Ex.new hD), hW8.ext (Ex.new hD), (Ex.new hD) _ _ hb8, (Ex.new hD) _ _ v1, [], [], upd_same, .nil, by simp, fun w hw => by cases hw⟩ (fun k H' _ h => sq_of h.2.2.2.1) ?_ ?_
        · rintro k xv H9 hxv ⟨hP9, hW9, hb9, hr9, ts, ws, hD9, hts, htl, hws⟩
          have hkl : k < row.length := by
            have := (List.getElem?_eq_some_iff.mp hxv).1
            omega
          have hrk : row[k]? = some row[k] := List.getElem?_eq_getElem hkl
          obtain ⟨d, hd1, hd2⟩ := v2.get hxv
          rw [List.getElem?_map, hrk] at hd1
          cases hd1
          have hwm := List.getElem_mem hkl
          generalize row[k] = wy at *
          refine ⟨rfl, ?_⟩
          have hbb : EvT (tTest (tOp (rNotInD K) (tVar 10) (tVar 7))) [some (.ref p), some (.ref la), some (.ref R), some (.int kd), some (.int (r : Int)), some (.ref rr), o6, some (.ref b), o8, none, some xv] H9 (!decide (wy ∈ us)) := by
            rw [← any_wd]
            exact et_test (ev_op (ev_var rfl) (ev_var rfl) fun H10 e10 Q2 q2 => ⟨wd wy, us.map wd, Dq.dp (SeqAt.canLay_of_shaped (shaped_ints _)) (hd2.mono (hP9.ex.trans e10)), .lst (sq_of (e10 _ _ hb9)) (DqA.dp (lay_wds us) (hbs.mono (hP9.ex.trans e10))), shaped_ints _, shaped_wds us, q2 H10 (Ex.refl H10)⟩)
          refine hbb H9 (Ex.refl _) _ fun H10 e10 => ?_
          by_cases c : wy ∈ us
          · rw [decide_eq_true c]
            exact ⟨hP9.ext e10, hW9.ext e10, e10 _ _ hb9, e10 _ _ hr9, ts, ws, e10 _ _ hD9, hts, by omega, hws⟩
          · rw [decide_eq_false c]
            refine ⟨xv, rfl, ts, e10 _ _ hD9, by rw [sizeLine_eq]; omega, (hP9.ext e10).mut gD Dp Dq', (hW9.ext e10).put2 fr.1 fr.2, by rw [upd_ne nDb]; exact e10 _ _ hb9, by rw [upd_ne nDr]; exact e10 _ _ hr9, ts ++ [xv], ws ++ [wy], upd_same, by rw [List.map_append]; exact hts.append (.cons hd2 .nil), by rw [List.length_append, List.length_singleton]; omega, fun w hw => ?_⟩
            rcases List.mem_append.mp hw with z | z
            · exact hws w z
            · rw [List.mem_singleton.mp z]
              exact ⟨hwm, c⟩
        · rintro H9 ⟨hP9, hW9, hb9, hr9, ts, ws, hD9, hts, htl, hws⟩
          refine g_name ?_
          dsimp only
          change tIfS _ _ _ _ [some (.ref p), some (.ref la), some (.ref R), some (.int kd), some (.int (r : Int)), some (.ref rr), o6, some (.ref b), o8, some (.ref D), none] H9
          have tl := hts.length
          rw [List.length_map] at tl
          refine s_when (b := !PyData.eqv (.list (ws.map wd)) (.list [])) (et_test (ev_opL (x := .ref D) (xs := []) (ev_var rfl) (el_lst ea_nil (by show 0 ≤ _; decide)) fun pn H10 hp10 e10 H11 e11 Q3 q3 => ⟨.list (ws.map wd), .list [], .lst (sq_of ((e10.trans e11) _ _ hD9)) (DqA.dp (lay_wds ws) (hts.mono (hP9.ex.trans (e10.trans e11)))), .lst (sq_of (e11 _ _ hp10)) .nil, shaped_wds ws, by decide +kernel, q3 H11 (Ex.refl _)⟩)) (fun hb10 H10 e10 => ?_) (fun _ H10 e10 => ⟨_, _, _, _, rfl, G2, rs, rows1, e1.trans e2, hP9.ext e10, hW9.ext e10, hG1, a2, a8, a6, hr1, ar⟩)
          have hne : ws ≠ [] := fun z => by
            rw [z] at hb10
            exact absurd hb10 (by decide +kernel)
          have hpos : 0 < ts.length := by
            cases ws with
            | nil => exact absurd rfl hne
            | cons a l => rw [tl]; simp
          have hP10 := hP9.ext e10
          have hW10 := hW9.ext e10
          refine ⟨.ref rr, rfl, .inl ⟨rfl, _, sq_of (e10 _ _ hr9)⟩, .ref D, rfl, .ref p, rfl, .ref D, rfl, D, ts, rfl, .inl (sq_of (e10 _ _ hD9)), Hd H10 p q, p, q, _, rfl, hP10.hd, by omega, by omega, fun H11 y h11 hy0 hy1 => ?_⟩
          have hP11 := hP10.back h11
          have hW11 := hW10.off h11.off
          have hD11 := h11.off _ _ Dp Dq' (e10 _ _ hD9)
          have hr11 := h11.off _ _ rp rq (e10 _ _ hr9)
          obtain ⟨n, rfl⟩ : ∃ n : Nat, y = (n : Int) := ⟨y.toNat, by omega⟩
          have hnl : n < ts.length := by omega
          have htn : ts[n]? = some ts[n] := List.getElem?_eq_getElem hnl
          obtain ⟨wy, hwy, hdw⟩ := hts.wds_inv htn
          generalize ts[n] = tv at *
          obtain ⟨hm1, hm2⟩ := hws wy (List.mem_of_getElem? hwy)
          obtain ⟨j, hj⟩ := List.mem_iff_getElem?.mp hm1
          refine ⟨D, ts, (n : Int), tv, rfl, rfl, sq_of hD11, atI_nat htn, ?_⟩
          have hdj : DqA G2 (vs.eraseIdx j) ((row.eraseIdx j).map wd) := by
            rw [← erase_map]
            exact v2.erase _
          refine ⟨rr, vs, row.map wd, tv, wd wy, j, rfl, rfl, hr11, DqA.dp (lay_wds row) (v2.mono hP11.ex), Dq.dp (SeqAt.canLay_of_shaped (shaped_ints _)) (hdw.mono hP11.ex), (plain_wds row).1, ?_, ?_, place_wd (hG1.nd r row hrow) hj, ?_⟩
          · have z := (plain_wds [wy]).1
            simpa [PyData.plainAll] using z
          · have z := dep_wds [wy]
            simp only [List.map_cons, List.map_nil, PyData.depthAll] at z
            omega
          · exact ⟨_, _, _, _, rfl, G2, rs, _, e1.trans e2, hP11.mut gr rp rq, hW11.mut hr1 hdj, gw_drop hG1 hrow hj (fun i x hx w hw z => hm2 (by rw [← z]; exact hus' i x hx w hw)), by rw [List.length_set]; exact a2, by rw [List.length_set]; exact a8, get6 a6 (by have := List.length_eraseIdx_le row j; omega), hr1, ar⟩
    rintro σ' H6 ⟨o6, o7, o8, o9, rfl, hz6⟩
    clear hz5
    refine q_cut (M := fun σ' H' => σ' = [some (.ref p), some (.ref la), some (.ref R), some (.int kd), some (.int (r : Int)), some (.ref rr), o6, o7, o8, o9, none] ∧ Gz G H' p q R r rr) ?_ ?_
    · obtain ⟨G1, rs, rows1, e1, hP1, hW1, hG1, a2, a8, a6, hr1, ar⟩ := hz6.ex
      have hil : r < rows1.length := by rw [← hW1.len]; exact (List.getElem?_eq_some_iff.mp hr1).1
      have hrow : rows1[r]? = some rows1[r] := List.getElem?_eq_getElem hil
      obtain ⟨gr, rp, rq, vs, v1, v2⟩ := hW1.row r rr _ hr1 hrow
      have hl6 := a6 _ (List.getElem_mem hil)
      generalize rows1[r] = row at *
      have vl := v2.length
      rw [List.length_map] at vl
      have hcond : EvT (tTest (tOp (rNotInD K) (tTup (tCons (tVar 4) (tCons (tC (.int 0)) tNil))) (tVar 5))) [some (.ref p), some (.ref la), some (.ref R), some (.int kd), some (.int (r : Int)), some (.ref rr), o6, o7, o8, o9, none] H6 (!decide ([(r : Int), 0] ∈ row)) := fun H7 e7 Q2 q2 => by
        refine ⟨.int (r : Int), rfl, by show 2 ≤ sizeLine; decide, fun t ht => ?_⟩
        have et := Ex.new (o := .tup [V.int (r : Int), .int 0]) ht
        have hP7 := (hP1.ext e7)
        refine ⟨.ref rr, rfl, wd [(r : Int), 0], row.map wd, Dq.dp (SeqAt.canLay_of_shaped (shaped_ints _)) (wd_of upd_same), .lst (sq_of ((e7.trans et) _ _ v1)) (DqA.dp (lay_wds row) (v2.mono ((hP1.ex.trans e7).trans et))), shaped_ints _, shaped_wds row, _, rfl, ?_⟩
        rw [any_wd]
        exact q2 _ et
      refine s_when (b := decide (V.int kd = V.int 3) && (!decide ([(r : Int), 0] ∈ row) && decide ((vs.length : Int) < 6))) (et_and (et_test (ev_op (ev_var rfl) ev_c (rv_eq rfl))) fun _ => et_and hcond fun _ => et_test (ev_op (r := rI0 fun i j => .bl (decide (i < j))) (x := .int (vs.length : Int)) (y := .int 6) (ev_len (ev_var (i := 5) rfl) (sq_of v1)) ev_c rv_I0)) (fun hb H7 e7 => ?_) (fun _ H7 e7 => ⟨rfl, hz6.ext e7⟩)
      have hb2 := (Bool.and_eq_true_iff.mp hb).2
      have hnin : [(r : Int), 0] ∉ row := by simpa using (Bool.and_eq_true_iff.mp hb2).1
      have hlt := of_decide_eq_true (Bool.and_eq_true_iff.mp hb2).2
      have hP7 := hP1.ext e7
      have hW7 := hW1.ext e7
      refine ⟨.ref rr, rfl, .inl ⟨rfl, _, sq_of (e7 _ _ v1)⟩, .ref p, rfl, .ref rr, rfl, rr, vs, rfl, .inl (sq_of (e7 _ _ v1)), (vs.length : Int), 1, rfl, rfl, Hd H7 p q, p, q, _, rfl, hP7.hd, by omega, by omega, fun H8 y h8 hy0 hy1 => ?_⟩
      have hP8 := hP7.back h8
      have hW8 := hW7.off h8.off
      have v18 := h8.off _ _ rp rq (e7 _ _ v1)
      obtain ⟨n, rfl⟩ : ∃ n : Nat, y = (n : Int) := ⟨y.toNat, by omega⟩
      refine ⟨.int (r : Int), rfl, by show 2 ≤ sizeLine; decide, fun t ht => ?_⟩
      have gt := fresh_back hP8.ex ht
      have hP9 := hP8.new (o := .tup [V.int (r : Int), .int 0]) ht
      have hW9 := hW8.new (o := .tup [V.int (r : Int), .int 0]) ht gt
      have e9 := Ex.new (o := .tup [V.int (r : Int), .int 0]) ht
      have eG9 : Ex G1 (upd G1 t (.tup [V.int (r : Int), .int 0])) := Ex.new gt
      have hw9 : Dq (upd G1 t (.tup [V.int (r : Int), .int 0])) (.ref t) (wd [(r : Int), 0]) := wd_of upd_same
      refine ⟨rr, vs, (n : Int), .ref t, rfl, rfl, e9 _ _ v18, by rw [sizeLine_eq]; omega, by omega, by omega, ?_⟩
      rw [Int.toNat_natCast]
      have hd2 : DqA (upd G1 t (.tup [V.int (r : Int), .int 0])) (vs.take n ++ [.ref t] ++ vs.drop n) ((row.take n ++ [(r : Int) :: [0]] ++ row.drop n).map wd) := by
        rw [List.map_append, List.map_append, List.map_take, List.map_drop]
        exact (((v2.mono eG9).take _).append (.cons hw9 .nil)).append ((v2.mono eG9).drop _)
      have hga := (hW9.row r rr _ hr1 hrow).1
      refine ⟨rfl, _, rs, _, e1.trans eG9, hP9.mut hga rp rq, hW9.mut hr1 hd2, gw_add hG1 hrow (by omega) (.inl rfl) (by simp; omega) (by simp) hnin n, by rw [List.length_set]; exact a2, by rw [List.length_set]; exact a8, get6 a6 ?_, hr1, ar⟩
      rw [List.length_append, List.length_append, List.length_singleton, List.length_take, List.length_drop]
      omega
    rintro σ' H7 ⟨rfl, hz7⟩
    clear hz6
    refine q_cut (M := fun σ' H' => σ' = [some (.ref p), some (.ref la), some (.ref R), some (.int kd), some (.int (r : Int)), some (.ref rr), o6, o7, o8, o9, none] ∧ Gz G H' p q R r rr) ?_ ?_
    · obtain ⟨G1, rs, rows1, e1, hP1, hW1, hG1, a2, a8, a6, hr1, ar⟩ := hz7.ex
      have hrl := hW1.len
      refine s_when (b := decide (V.int kd = V.int 4) && decide (((rs.map V.ref).length : Int) < 8)) (et_and (et_test (ev_op (ev_var rfl) ev_c (rv_eq rfl))) fun _ => et_test (ev_op (r := rI0 fun i j => .bl (decide (i < j))) (x := .int ((rs.map V.ref).length : Int)) (y := .int 8) (ev_len (ev_var (i := 2) rfl) (sq_of hW1.at_)) ev_c rv_I0)) (fun hb H8 e8 => ?_) (fun _ H8 e8 => ⟨rfl, hz7.ext e8⟩)
      have hlt := of_decide_eq_true (Bool.and_eq_true_iff.mp hb).2
      rw [List.length_map] at hlt
      have hP8 := hP1.ext e8
      have hW8 := hW1.ext e8
      refine ⟨.ref R, rfl, .inl ⟨rfl, _, sq_of hW8.at_⟩, by show 0 ≤ sizeLine; decide, fun b hb8 => ?_⟩
      have z := hW8.snoc (row := []) hP8 hb8 .nil
      have eb := Ex.new (o := .lst ([] : List V)) hb8
      refine ⟨R, rs.map V.ref, .ref b, rfl, rfl, eb _ _ hW8.at_, by rw [List.length_map, sizeLine_eq]; omega, rfl, G1, rs ++ [b], rows1 ++ [[]], e1, z.1, z.2, gw_snoc hG1 (by omega), by rw [List.length_append]; omega, by rw [List.length_append, List.length_singleton]; omega, fun row hm => ?_, by rw [List.getElem?_append_left (List.getElem?_eq_some_iff.mp hr1).1]; exact hr1, ar⟩
      rcases List.mem_append.mp hm with y | y
      · exact a6 row y
      · rw [List.mem_singleton.mp y]
        simp
    rintro σ' H8 ⟨rfl, hz8⟩
    clear hz7
    obtain ⟨G1, rs, rows1, e1, hP1, hW1, hG1, a2, a8, a6, hr1, ar⟩ := hz8.ex
    refine ret_cb ?_
    refine ⟨.ref R, rfl, R, rfl, ⟨_, sq_of hW1.at_⟩, fun D hD => lc_list (K := K) (xs := rs.map V.ref) (fun i H' => Tupz G1 H' p q R rs rows1 D i) (tupz_start hP1 hW1 hD) (fun i H' _ h => ?_) ?_ ?_⟩
    · obtain ⟨G5, ts, _, _, hW, _⟩ := h.ex
      exact sq_of hW.at_
    · rintro i x H5 hx h
      obtain ⟨r2, hr2, rfl⟩ : ∃ r, rs[i]? = some r ∧ x = V.ref r := by
        rw [List.getElem?_map] at hx
        cases hq : rs[i]? with
        | none => rw [hq] at hx; cases hx
        | some r => rw [hq] at hx; exact ⟨r, rfl, (Option.some.inj hx).symm⟩
      have hil := (List.getElem?_eq_some_iff.mp hr2).1
      have hln := hW1.len
      refine ⟨rfl, .ref r2, rfl, ?_⟩
      exact tupz_turn (K := K) (by omega) h hr2 (hW1.fresh hD).2 (hW1.fresh hD).1
    · intro H5 h
      obtain ⟨G5, ts, eG5, hP5, hW5, hD5, gD5, Dp5, Dq5, hts⟩ := h.ex
      rw [List.length_map, hW1.len, List.take_length] at hts
      refine ⟨D, ts, rfl, .inl ⟨sq_of hD5, fun t ht => ?_⟩⟩
      have gt := fresh_back hP5.ex ht
      exact k (upd G5 t (.tup ts)) _ (.ref t) rows1 ((e1.trans eG5).trans (Ex.new gt)) (hP5.new ht) (.tup upd_same (hts.mono (Ex.new gt))) hG1 a2 a8 a6
end
end Wk

set_option Elab.async false
set_option linter.all false
set_option maxRecDepth 100000
set_option maxHeartbeats 4000000
namespace Wk
open L2 PySem PySem.Spec PyProof.Rows Evl
theorem t_make {CW CB : Addr} {σ : L2.St} {G H : Hp} {p q : Addr} {ta : TE} {v : V} {rows : List (List Wy)} {Q : VK} {W : L2.St → XK} (ha : Ev ta σ H v) (hP : Pl G H p q) (hv : Dq G v (pd rows)) (hG : GW rows) (h2 : 2 ≤ rows.length) (h8 : rows.length ≤ 8) (h6 : ∀ row ∈ rows, row.length ≤ 6)
    (k : ∀ G' H' x, Ex G G' → Ex H H' → Pl G' H' p q → WO CW G' (.ref x) rows → Q (.ref x) H') : tMkAt CW (spWI CW CB) W (tCons ta tNil) σ H Q := ha H (Ex.refl H) _ fun H1 e1 => fun x dx nx ndx nex => by
  have hdue := due_pd hG h2 h8 h6
  have hl : (itemsT (pd rows)).length = rows.length := by simp [pd, itemsT]
  refine ⟨H1, x, dx, v, pd rows, rfl, upd_same, fun b o hb => ?_, nx, hv.mono (hP.ex.trans e1), fun _ H2 e2 hx => ⟨rfl, ?_⟩, fun r hr => ?_⟩
  · rw [upd_ne (ne_of_none hb nx), upd_ne (ne_of_none hb ndx)]
    exact hb
  · rw [hl] at hx
    have hP2 := (hP.ext e1).ext e2
    obtain ⟨n, cs, a1, a2, _⟩ := hP2.at_
    have xp : x ≠ p := fun z => by rw [z, a1] at hx; cases hx
    have xq : x ≠ q := fun z => by rw [z, a2] at hx; cases hx
    have gx := fresh_back (hP.ex.trans e1) nx
    have eg := Ex.new (o := .ins CW dx (wf (rows.length : Int) v)) gx
    exact k _ H2 x eg (e1.trans e2) (hP2.hold hx xp xq) ⟨⟨x, dx, v, rfl, upd_same, hv.mono eg⟩, hG, h2, h8, h6⟩
  · rw [hdue] at hr
    cases hr
theorem lines_len (rows : List (List Wy)) : (linesW rows).length ≤ 64 := by
  unfold linesW
  rw [List.length_map]
  have := List.length_filter_le (fun c => decide (cdW c ∈ pairsW rows)) (List.range 64)
  rw [List.length_range] at this
  exact this
theorem lines_two {rows : List (List Wy)} {x : Wy} (h : x ∈ linesW rows) : x.length = 2 := by
  unfold linesW at h
  obtain ⟨c, _, rfl⟩ := List.mem_map.mp h
  rfl
theorem flat_ok {rows : List (List Wy)} (hG : GW rows) {x : Wy} (h : x ∈ rows.flatten) : ∃ i row, rows[i]? = some row ∧ x ∈ row ∧ WyOk rows.length i x := by
  obtain ⟨row, hr, hx⟩ := List.mem_flatten.mp h
  obtain ⟨i, hi⟩ := List.mem_iff_getElem?.mp hr
  exact ⟨i, row, hi, hx, hG.ok i row hi x hx⟩
theorem let_flat {rows : List (List Wy)} (hG : GW rows) {x : Wy} (h : x ∈ rows.flatten) : letB rows (wd x) = true := by
  obtain ⟨i, row, hi, hx, ok⟩ := flat_ok hG h
  have hil := (List.getElem?_eq_some_iff.mp hi).1
  have hhd := ok.hd
  unfold letB
  rw [rts_wd]
  have e1 : intsB (wd x) = true := by
    unfold intsB
    have z : (itemsT (wd x)).all isI = true := by
      rw [List.all_eq_true]
      intro d hd
      obtain ⟨n, _, rfl⟩ := List.mem_map.mp (show d ∈ x.map PyData.int from hd)
      rfl
    rw [z]
    rfl
  rw [e1]
  cases x with
  | nil => simp at hhd
  | cons r w =>
    have hr : r = (i : Int) := by simpa using hhd
    subst hr
    show (true && (isR (rows.length : Int) (.int (i : Int)) && decide ((i : Int) :: w ∈ rows.getD (i : Int).toNat []))) = true
    have e2 : isR (rows.length : Int) (.int (i : Int)) = true := by
      show (true && (decide (0 ≤ (i : Int)) && decide ((i : Int) ≤ (rows.length : Int) - 1))) = true
      rw [decide_eq_true (show 0 ≤ (i : Int) by omega), decide_eq_true (show (i : Int) ≤ (rows.length : Int) - 1 by omega)]
      rfl
    rw [e2, Int.toNat_natCast, List.getD_eq_getElem?_getD, hi, decide_eq_true (show (i : Int) :: w ∈ (some row).getD [] from hx)]
    rfl
theorem items_dK (kl : Bool) (ds : List PyData) : itemsS (dK kl ds) = ds := by cases kl <;> rfl
theorem row_good {rows : List (List Wy)} (hG : GW rows) (kl : Bool) {ws : List Wy} (hs : ∀ x ∈ ws, x ∈ rows.flatten) (nd : ws.Nodup) : rowP rows (dK kl (ws.map wd)) = true := by
  have e1 : ws.map (rts ∘ wd) = ws := (List.map_congr_left fun w _ => rts_wd w).trans (List.map_id ws)
  unfold rowP
  rw [items_dK, dK_sq, List.map_map, e1, decide_eq_true nd]
  have z : (ws.map wd).all (letB rows) = true := by
    rw [List.all_eq_true]
    intro d hd
    obtain ⟨x, hx, rfl⟩ := List.mem_map.mp hd
    exact let_flat hG (hs x hx)
  rw [z]
  rfl
theorem rts_map (ws : List Wy) : (ws.map wd).map rts = ws := by
  rw [List.map_map]
  exact (List.map_congr_left fun w _ => rts_wd w).trans (List.map_id ws)
section
variable {P : Program} {w : World} {K : PySem.W.Frag} {mg : Str → Option Value} {base : Heap} {f : Addr} {fd : FuncData} {CW CN CB : Addr}
structure MlW (P : Program) (w : World) (K : PySem.W.Frag) (mg : Str → Option Value) (base : Heap) (CW : Addr) : Prop where
  tx : WTx K mg CW
  ex : ∃ (fM : Addr) (fd : FuncData), Meth K CW "lines" fM ∧ FnOk P w K mg base CX0 7 fM fd ["self"] (spLines CW) ∧ Binds K fd ["self"] []
structure MmW (P : Program) (w : World) (K : PySem.W.Frag) (mg : Str → Option Value) (base : Heap) (CW : Addr) (m p : Str) (sp : Sp) : Prop where
  tx : WTx K mg CW
  ex : ∃ (fM : Addr) (fd : FuncData), Meth K CW m fM ∧ FnOk P w K mg base (L2.CX P w) 11 fM fd ["self", p] sp ∧ Binds K fd ["self", p] []
/-! _law_is -/
abbrev spLIs (CW : Addr) : Sp := spP fun H vs z => ∃ (wv lv : V) (rows : List (List Wy)), vs = [wv, lv] ∧ WO CW H wv rows ∧ Dq H lv (pd rows) ∧ z = .bl true
abbrev nLIs : List Str := ["_law_wishes", "_law_lists_here", "_law_router"]
abbrev sLIs : Stmt := top 40
theorem scLIs : FnScope nLIs ["_law_wishes", "_law_lists_here"] (defScope sLIs) := ⟨rfl, rfl, rfl, by decide +kernel, rfl, by decide +kernel, by decide +kernel⟩
theorem ok_lIs (B : Bl mg) (W : WC P w K mg base CW CN) (C1 : Cal P w K mg base "_law_same" ["_law_actual", "_law_expected"] 3 (spSamq 2))
    (F : FnP K "_law_is" sLIs f fd) : FnOk P w K mg base CX0 8 f fd ["_law_wishes", "_law_lists_here"] (spLIs CW) := by
  obtain ⟨fY, fdY, meY, FY, bY⟩ := W.wy
  refine F.ok scLIs (fun vs H Q E h => ?_) (fun cdv A outer s H vs Q E hr h => ?_)
  · obtain ⟨z, ⟨wv, lv, rows, rfl, _⟩, _⟩ := h
    rfl
  · obtain ⟨z, ⟨wv, lv, rows, rfl, hw, hl, rfl⟩, k⟩ := h
    refine ⟨_, pss_cons (ps_if (pt_not (pt_val (pe_cal C1 hr (by rfl) (pa_cons (pe_fld (pv 0) rfl) (pa_cons (pe_callB call_len_seq (by rfl) B.len PySem.boot_len (pa_cons (pv 1) pa_nil)) pa_nil))))) (pss_one (ps_ret pe_bl)) pss_nil)
      (pss_one (ps_ret (pe_callB (cr_all rfl) (by rfl) B.all boot_all (pa_cons
        (pe_lc (own := [("_law_router", 2)]) (g := gName 2) (tt := tYes) (te := tCall (spSamq 2) [] E0 (tCons (tMeAt CW "ways" (spWays CW CN) (fun _ _ _ _ => False) (tVar 0) (tCons (tVar 2) tNil)) (tCons (tOp (rIxT K) (tVar 1) (tVar 2)) tNil))) rfl scLIs.nd (pi_range1 (by rfl) B.range (pa_cons (pe_callB call_len_seq (by rfl) B.len PySem.boot_len (pa_cons (pv 1) pa_nil)) pa_nil)) (blkOk_by (N := nLIs) (sc := defScope sLIs) (by decide +kernel))
          (fun _ _ _ _ _ => pg_name (i := 2) scLIs.nd rfl (Or.inl rfl)) (fun _ _ _ _ _ => pts_nil) (fun _ _ _ _ _ => pe_cal C1 hr (by rfl) (pa_cons (pe_meAt (pv 0) W.tx.cl meY FY (hr.mono (by decide)) bY (fun σ => passAt takes0 σ) (pa_cons (pv 2) pa_nil)) (pa_cons (pe_ix ix_tup (pv 1) (pv 2) (fun _ _ => rfl)) pa_nil)))) pa_nil)))), ?_⟩
    have v0 : ∀ {H1 : Hp} {o : Option V}, Ev (tVar 0) [some wv, some lv, o] H1 wv := ev_var rfl
    have v1 : ∀ {H1 : Hp} {o : Option V}, Ev (tVar 1) [some wv, some lv, o] H1 lv := ev_var rfl
    have hl' := hl
    unfold pd at hl'
    cases hl' with
    | tup hla hlx =>
      rename_i la lxs
      have hll := hlx.length
      rw [List.length_map] at hll
      have n8 := hw.n8
      have lenL : ∀ {H1 : Hp}, Ex H H1 → Ev (tCB (rLenS K) (tCons (tVar 1) tNil)) [some wv, some (.ref la), none] H1 (.int (rows.length : Int)) := fun {H1} e => by
        have z := ev_lenT (K := K) (v1 (H1 := H1) (o := none)) (st_of (e _ _ hla))
        rw [hll] at z
        exact z
      refine q_when (b := !true) (et_not (et_B (ev_call (ea_cons (ev_wsize W.tx v0 hw) (ea_cons (lenL (Ex.refl _)) ea_nil)) (spP_v fun H1 e => ⟨_, _, .int (rows.length : Int), rfl, .int _, .int _, .int _ _, rfl⟩)))) (fun hb => by cases hb) (fun _ H2 e12 => ?_)
      refine s_ret (ev_is (ev_allL (bs := (List.range rows.length).map fun _ => true) (by
        have q := el_lcR1 (j := 2) (vs := [2]) (t := tYes) (te := tCall (spSamq 2) [] E0 (tCons (tMeAt CW "ways" (spWays CW CN) (fun _ _ _ _ => False) (tVar 0) (tCons (tVar 2) tNil)) (tCons (tOp (rIxT K) (tVar 1) (tVar 2)) tNil))) (σ := [some wv, some (.ref la), none]) (H := H2) (n := (rows.length : Int)) (fun _ => true) (fun _ => .bl true) (ea_cons (lenL e12) ea_nil) (by omega) (fun x => rfl) (fun _ _ _ _ => et_yes)
          (fun i H3 e3 hi _ => fun H4 e4 Q4 q4 => by
            have hil : i < rows.length := by omega
            have hri : rows[i]? = some rows[i] := List.getElem?_eq_getElem hil
            have e34 := (e12.trans e3).trans e4
            refine t_ways (CW := CW) (CN := CN) (W := fun _ _ _ _ => False) (σ := [some wv, some (.ref la), some (.int (i : Int))]) (H := H4) (ta := tVar 0) (ti := tVar 2) (ev_var rfl) (hw.up e34) (ev_var rfl) hri fun u H5 e5 hu => ?_
            obtain ⟨rv, hrv, hdr⟩ := hlx.at (i := i) (d := rd rows[i]) (by rw [List.getElem?_map, hri]; rfl)
            refine ev_op (r := rIxT K) (ta := tVar 1) (tb := tVar 2) (σ := [some wv, some (.ref la), some (.int (i : Int))]) (H := H5) (x := .ref la) (y := .int (i : Int)) (z := rv) (ev_var rfl) (ev_var rfl) (rv_ixT (st_of ((e34.trans e5) _ _ hla)) (atI_nat hrv)) H5 (Ex.refl _) _ fun H6 e6 => ?_
            exact ⟨.bl true, ⟨u, rv, rd rows[i], rfl, hu.mono e6, hdr.mono ((e34.trans e5).trans e6), smq_rd _ (by have := hw.r6 _ (List.getElem_mem hil); omega) (fun x hx => by have := (hw.g.ok i _ hri x hx).l8; omega), rfl⟩, fun H7 e7 => q4 H7 ((e5.trans e6).trans e7)⟩)
        rw [given_all, Int.toNat_natCast] at q
        rw [List.map_map]
        exact q)) (by simp)) fun H3 e3 => k _ (e12.trans e3)
end
section
variable {K : PySem.W.Frag} {CW CB CN : Addr} {σ : L2.St} {H : Hp} {ta tb : TE} {v v' : V} {rows rows' : List (List Wy)}
/-- what makes wishes, old or new -/
def EvW (CW : Addr) (te : TE) (σ : L2.St) (H : Hp) (rows : List (List Wy)) : Prop := ∀ H1, Ex H H1 → ∀ Q : VK, (∀ H2 v, Ex H1 H2 → WO CW H2 v rows → Q v H2) → te σ H1 Q
theorem ew_of (h : Ev ta σ H v) (hw : WO CW H v rows) : EvW CW ta σ H rows := fun H1 e Q q => h H1 e _ fun H2 e2 => q H2 v e2 (hw.up (e.trans e2))
theorem ev_eqW (ha : EvW CW ta σ H rows) (hb : EvW CW tb σ H rows') : Ev (tOp (rEqB (DW CW)) ta tb) σ H (.bl (decide (rows = rows'))) := fun H1 e Q q =>
  ha H1 e _ fun H2 x e2 hx => hb H2 (e.trans e2) _ fun H3 y e3 hy => ⟨_, dw_of (hx.up e3) hy, fun H' e' => q H' ((e2.trans e3).trans e')⟩
theorem keep_nil (rows : List (List Wy)) : keepW rows [] = rows := by
  unfold keepW
  have : (fun row : List Wy => row.filter fun w => !decide (w ∈ ([] : List Wy))) = id := by
    funext row
    simp
  rw [this, List.map_id]
theorem lostS_nil (rows : List (List Wy)) : lostS rows [] = [] := by
  unfold lostS
  simp
theorem lostF_nil (rows : List (List Wy)) : lostF rows [] = [] := by
  unfold lostF
  simp
theorem lostS_self {rows : List (List Wy)} {w : Wy} (hw : w ∈ rows.flatten) (h2 : 2 ≤ w.length) : w ∈ lostS rows [w] := by
  unfold lostS
  refine List.mem_filter.mpr ⟨hw, ?_⟩
  rw [List.any_eq_true]
  refine ⟨w, ?_, by simp⟩
  unfold endsW
  exact List.mem_map.mpr ⟨0, List.mem_range.mpr (by omega), rfl⟩
theorem keep_ne {rows : List (List Wy)} {ls : List Wy} {w : Wy} (hw : w ∈ rows.flatten) (hl : w ∈ ls) : keepW rows ls ≠ rows := fun z => by
  rw [← z] at hw
  obtain ⟨row, hr, hm⟩ := List.mem_flatten.mp hw
  unfold keepW at hr
  obtain ⟨r0, _, rfl⟩ := List.mem_map.mp hr
  have := (List.mem_filter.mp hm).2
  simp [hl] at this
/-- a value of a datum, made anew -/
def EvN (te : TE) (σ : L2.St) (H : Hp) (d : PyData) : Prop := ∀ H1, Ex H H1 → ∀ Q : VK, (∀ H2 v, Ex H1 H2 → Dq H2 v d → Q v H2) → te σ H1 Q
theorem en_lst : EvN (tLst tNil) σ H (.list []) := fun H1 e Q q => ⟨by show 0 ≤ sizeLine; decide, fun l hl => q _ _ (Ex.new hl) (.lst upd_same .nil)⟩
theorem en_tup : EvN (tTup tNil) σ H (.tuple []) := fun H1 e Q q => ⟨by show 0 ≤ sizeLine; decide, fun l hl => q _ _ (Ex.new hl) (.tup upd_same .nil)⟩
theorem ew_struck {tl : TE} {d : PyData} {W : L2.St → XK} (h : Ev ta σ H v) (hw : WO CW H v rows) (hl : EvN tl σ H d) (hd : rowP rows d = true) (hs : (itemsS d).length < 64) (hi : ∀ x ∈ itemsS d, (itemsT x).length ≤ 1000) : EvW CW (tMeAt CW "struck" (spStruck CW CB) W ta (tCons tl tNil)) σ H (keepW rows (lostS rows ((itemsS d).map rts))) := fun H1 e Q q =>
  h H1 e _ fun H2 e2 => by
    obtain ⟨wa, dx, lv, rfl, hwa, _⟩ := (hw.up (e.trans e2)).ex
    refine ⟨wa, dx, _, rfl, hwa, wf_no _ _ (by decide +kernel) (by decide +kernel), hl H2 (e.trans e2) _ fun H3 u e3 hu => ?_⟩
    exact ⟨.ref wa, u, d, rows, rfl, (hw.up (e.trans e2)).up e3, hu, hs, hi, fun _ H4 x e4 hx => q H4 _ ((e2.trans e3).trans e4) hx, fun z => by rw [hd] at z; cases z⟩
theorem ew_failed {tl : TE} {d : PyData} {W : L2.St → XK} (h : Ev ta σ H v) (hw : WO CW H v rows) (hl : EvN tl σ H d) (hd : linkP (rows.length : Int) d = true) (hs : (itemsS d).length < 64) : EvW CW (tMeAt CW "failed" (spFailed CW CB) W ta (tCons tl tNil)) σ H (keepW rows (lostF rows ((itemsS d).map rts))) := fun H1 e Q q =>
  h H1 e _ fun H2 e2 => by
    obtain ⟨wa, dx, lv, rfl, hwa, _⟩ := (hw.up (e.trans e2)).ex
    refine ⟨wa, dx, _, rfl, hwa, wf_no _ _ (by decide +kernel) (by decide +kernel), hl H2 (e.trans e2) _ fun H3 u e3 hu => ?_⟩
    exact ⟨.ref wa, u, d, rows, rfl, (hw.up (e.trans e2)).up e3, hu, hs, fun _ H4 x e4 hx => q H4 _ ((e2.trans e3).trans e4) hx, fun z => by rw [hd] at z; cases z⟩
/-- the lines, told twice -/
theorem ew_lines {Q : VK} (h : Ev ta σ H v) (hw : WO CW H v rows) {H1 : Hp} (e : Ex H H1) (q : ∀ H2 l us, Ex H1 H2 → H1 l = none → H2 l = some (.lst us) → DqA H2 us ((linesW rows).map wd) → Q (.ref l) H2) : tMeth CW "lines" (spLines CW) [] E0 ta tNil σ H1 Q :=
  h H1 e _ fun H2 e2 => by
    obtain ⟨wa, dx, lv, rfl, hwa, _⟩ := (hw.up (e.trans e2)).ex
    refine ⟨wa, dx, _, rfl, hwa, wf_no _ _ (by decide +kernel) (by decide +kernel), ?_⟩
    exact ⟨.ref wa, rows, rfl, hw.up (e.trans e2), fun H3 l us e3 h0 h1 h2 => q H3 l us (e2.trans e3) (fresh_back e2 h0) h1 h2⟩
theorem ev_sameL (ha : Ev ta σ H v) (hw : WO CW H v rows) (hb : Ev tb σ H v') (hw' : WO CW H v' rows) : Ev (tCall (spSamq 2) [] E0 (tCons (tMeth CW "lines" (spLines CW) [] E0 ta tNil) (tCons (tMeth CW "lines" (spLines CW) [] E0 tb tNil) tNil))) σ H (.bl true) := fun H1 e Q q =>
  ew_lines ha hw e fun H2 l us e2 _ hl hus => ew_lines hb hw' (e.trans e2) fun H3 l2 us2 e3 _ hl2 hus2 =>
    ⟨.bl true, ⟨.ref l, .ref l2, .list ((linesW rows).map wd), rfl, .lst (e3 _ _ hl) (hus.mono e3), .lst hl2 hus2, smq_wl _ (by have := lines_len rows; omega) fun x hx => by rw [lines_two hx]; decide, rfl⟩, fun H4 e4 => q H4 ((e2.trans e3).trans e4)⟩
theorem et_neL (ha : Ev ta σ H v) (hw : WO CW H v rows) (hb : Ev tb σ H v') (hw' : WO CW H v' rows') : EvT (tTest (tOp (rNeD K) (tMeth CW "lines" (spLines CW) [] E0 ta tNil) (tMeth CW "lines" (spLines CW) [] E0 tb tNil))) σ H (!decide (linesW rows = linesW rows')) := fun H1 e Q q =>
  ew_lines ha hw e fun H2 l us e2 _ hl hus => ew_lines hb hw' (e.trans e2) fun H3 l2 us2 e3 _ hl2 hus2 => by
    refine ⟨.list ((linesW rows).map wd), .list ((linesW rows').map wd), .lst (sq_of (e3 _ _ hl)) (DqA.dp (lay_wds _) (hus.mono e3)), .lst (sq_of hl2) (DqA.dp (lay_wds _) hus2), shaped_wds _, shaped_wds _, _, rfl, ?_⟩
    have z : PyData.eqv (.list ((linesW rows).map wd)) (.list ((linesW rows').map wd)) = decide (linesW rows = linesW rows') := by
      simp only [PyData.eqv]
      exact eqv_mapd eqv_wd _ _
    rw [z]
    exact q H3 (e2.trans e3)
end
end Wk

set_option Elab.async false
set_option linter.all false
set_option maxRecDepth 100000
set_option maxHeartbeats 4000000
namespace Wk
open L2 PySem PySem.Spec PyProof.Rows Evl
/-- how == is found -/
structure MqW (P : Program) (w : World) (K : PySem.W.Frag) (mg : Str → Option Value) (base : Heap) (CW : Addr) : Prop where
  ex : ∃ (fM : Addr) (fd : FuncData), Meth K CW "__eq__" fM ∧ FnOk P w K mg base CX0 1 fM fd ["self", "other"] (spEqB (RW CW)) ∧ Binds K fd ["self", "other"] []
theorem rc_DW {X : Cx} {CW : Addr} (M : MqW X.prog X.w X.K X.mg X.base CW) : RcB X 1 (DW CW) := by
  obtain ⟨fM, fd, me, F, b⟩ := M.ex
  exact rcB_ins (E := E0) F me.at_ me.fn b pass0
theorem eq_DW {X : Cx} {CW : Addr} (M : MqW X.prog X.w X.K X.mg X.base CW) : EqB X 1 (DW CW) := (rc_DW M).eqB (fun _ _ _ _ h => dw_ref h) (fun _ _ _ h => dw_refl h)
def rTupC (K : PySem.W.Frag) : List V → Hp → VK → Prop := fun xs H Q => ∃ pa ys, xs = [.ref pa] ∧ ((SqL K H pa ys ∧ ∀ l, H l = none → Q (.ref l) (upd H l (.tup ys))) ∨ (SqT K H pa ys ∧ Q (.ref pa) H))
def rLstC (K : PySem.W.Frag) : List V → Hp → VK → Prop := fun xs H Q => ∃ p ys, xs = [.ref p] ∧ (SqL K H p ys ∨ SqT K H p ys) ∧ ∀ l, H l = none → Q (.ref l) (upd H l (.lst ys))
theorem call_tupleC {X : Cx} {K : PySem.W.Frag} (hK : X.K = K) : CallR X (.type "tuple") (rTupC K) := call_tupleK hK
theorem call_listC {X : Cx} {K : PySem.W.Frag} (hK : X.K = K) : CallR X (.type "list") (rLstC K) := call_listK2 hK
theorem pi_tupQ {X : Cx} {K : PySem.W.Frag} (hK : X.K = K) {tg e : Expr} {te : TE} (h : PE X e te) : PI X tg e (iTup K te) := by
  subst hK
  exact pi_tup h
/-- copies so far -/
structure Twz (G0 H : Hp) (p q D E : Addr) (ds : List PyData) (i : Nat) : Prop where
  ex : ∃ (G : Hp) (ts : List V), Ex G0 G ∧ Pl G H p q ∧ H D = some (.lst ts) ∧ G D = none ∧ D ≠ p ∧ D ≠ q ∧ G E = none ∧ DqA G ts (ds.take i)
theorem twz_start {G H : Hp} {p q D E : Addr} {ds : List PyData} (hP : Pl G H p q) (hD : H D = none) (hE : G E = none) : Twz G (upd H D (.lst [])) p q D E ds 0 := ⟨G, [], Ex.refl _, hP.ext (Ex.new hD), upd_same, fresh_back hP.ex hD, hP.np hD, hP.nq hD, hE, .nil⟩
theorem mk_at {C : Addr} {sp : Sp} {W : L2.St → XK} {te : TE} {σ : L2.St} {H : Hp} {Q : VK} (h : te σ H fun v H1 => tMkAt C sp W (tCons (tC v) tNil) σ H1 Q) : tMkAt C sp W (tCons te tNil) σ H Q := h
section
variable {K : PySem.W.Frag} {CW : Addr} {σ : L2.St} {H : Hp} {ta tb tc td : TE} {v1 v2 v3 : V} {rows rows' : List (List Wy)}
theorem et_nin (h1 : Ev ta σ H v1) (h2 : Ev tb σ H v2) (h3 : Ev tc σ H v3) (w1 : WO CW H v1 rows) (w2 : WO CW H v2 rows') (w3 : WO CW H v3 rows) : EvT (tTest (tOp (rNinB (DW CW)) ta (tLst (tCons tb (tCons tc tNil))))) σ H false :=
  et_test (ev_opL h1 (el_lst (ea_cons h2 (ea_cons h3 ea_nil)) (by show 2 ≤ _; decide)) fun p H1 hp e1 H2 e2 Q q => by
    refine ⟨p, [v2, v3], fun i => if i = 0 then decide (rows' = rows) else decide (rows = rows), rfl, e2 _ _ hp, fun i yi hy => ?_, fun b H3 hb e3 => ?_⟩
    · have e12 := e1.trans e2
      match i, hy with
      | 0, hy => cases hy; exact dw_of (w2.up e12) (w1.up e12)
      | 1, hy => cases hy; exact dw_of (w3.up e12) (w1.up e12)
      | i + 2, hy => simp at hy
    · have : b = true := hb.mpr ⟨1, by simp, by simp⟩
      rw [this]
      exact q H3 e3)
theorem ev_eqL (h1 : Ev ta σ H v1) (h2 : Ev tb σ H v2) (h3 : Ev tc σ H v3) (w1 : WO CW H v1 rows) (w2 : WO CW H v2 rows) (w3 : WO CW H v3 rows') : Ev (tOp (rEqLB (DW CW)) (tLst (tCons ta (tCons tb tNil))) (tLst (tCons tb (tCons tc tNil)))) σ H (.bl (decide (rows = rows'))) :=
  ev_opLL (el_lst (ea_cons h1 (ea_cons h2 ea_nil)) (by show 2 ≤ _; decide)) (el_lst (ea_cons h2 (ea_cons h3 ea_nil)) (by show 2 ≤ _; decide)) fun p q H1 hp hq e1 H2 e2 Q k => by
    refine ⟨p, q, [v1, v2], [v2, v3], fun i => if i = 0 then decide (rows = rows) else decide (rows = rows'), rfl, rfl, e2 _ _ hp, e2 _ _ hq, rfl, fun i x y hx hy => ?_, fun r H3 hb e3 => ?_⟩
    · have e12 := e1.trans e2
      match i, hx, hy with
      | 0, hx, hy => cases hx; cases hy; exact dw_of (w1.up e12) (w2.up e12)
      | 1, hx, hy => cases hx; cases hy; exact dw_of (w2.up e12) (w3.up e12)
      | i + 2, hx, _ => simp at hx
    · have er : r = decide (rows = rows') := by
        by_cases c : rows = rows'
        · rw [decide_eq_true c]
          refine hb.mpr fun j hj => ?_
          match j, hj with
          | 0, _ => simp
          | 1, _ => simp [c]
          | j + 2, hj => exact absurd hj (by show ¬ (j + 2 < 2); omega)
        · rw [decide_eq_false c]
          cases r with
          | false => rfl
          | true =>
            have := hb.mp rfl 1 (by simp)
            simp [c] at this
      rw [er]
      exact k H3 e3
end
theorem ks_nil (rows : List (List Wy)) : keepW rows (lostS rows ((itemsS (.list [])).map rts)) = rows := by
  show keepW rows (lostS rows []) = rows
  rw [lostS_nil, keep_nil]
theorem ks_nilT (rows : List (List Wy)) : keepW rows (lostS rows ((itemsS (.tuple [])).map rts)) = rows := by
  show keepW rows (lostS rows []) = rows
  rw [lostS_nil, keep_nil]
theorem kf_nilT (rows : List (List Wy)) : keepW rows (lostF rows ((itemsS (.tuple [])).map rts)) = rows := by
  show keepW rows (lostF rows []) = rows
  rw [lostF_nil, keep_nil]
section
variable {K : PySem.W.Frag} {CW CB : Addr} {σ : L2.St} {H : Hp} {ta : TE} {v : V} {rows : List (List Wy)} {W : L2.St → XK}
theorem ew_struckL (h : Ev ta σ H v) (hw : WO CW H v rows) : EvW CW (tMeAt CW "struck" (spStruck CW CB) W ta (tCons (tLst tNil) tNil)) σ H rows := by
  have z := ew_struck (CB := CB) (W := W) h hw en_lst (by simp [rowP, isLi, itemsS]) (by decide) (fun x hx => by cases hx)
  rw [ks_nil] at z
  exact z
theorem ew_struckT (h : Ev ta σ H v) (hw : WO CW H v rows) : EvW CW (tMeAt CW "struck" (spStruck CW CB) W ta (tCons (tTup tNil) tNil)) σ H rows := by
  have z := ew_struck (CB := CB) (W := W) h hw en_tup (by simp [rowP, isLi, isTu, itemsS]) (by decide) (fun x hx => by cases hx)
  rw [ks_nilT] at z
  exact z
theorem ew_failedT (h : Ev ta σ H v) (hw : WO CW H v rows) : EvW CW (tMeAt CW "failed" (spFailed CW CB) W ta (tCons (tTup tNil) tNil)) σ H rows := by
  have z := ew_failed (CB := CB) (W := W) h hw en_tup (by simp [linkP, isLi, isTu, itemsS]) (by decide)
  rw [kf_nilT] at z
  exact z
end
section
variable {P : Program} {w : World} {K : PySem.W.Frag} {mg : Str → Option Value} {base : Heap} {f : Addr} {fd : FuncData} {CW CN CB CL CV : Addr}
/-! law -/
def spLaw (K : PySem.W.Frag) : Sp := fun vs H Q _ => ∃ (a : Addr) (ns : List Int), vs = [.ref a] ∧ SqL K H a (ns.map V.int) ∧ ns.length ≤ 63 ∧ ∀ H', Q (.bl true) H'
abbrev sLaw : Stmt := top 41
abbrev nLaw : List Str := ["_law_script", "_law_pool_here", "_law_lists_here", "_law_others", "_law_first", "_law_twin", "_law_other", "_law_alike", "_law_told", "_law_known", "_law_row", "_law_less", "_law_way"]
theorem scLaw : FnScope nLaw ["_law_script"] (defScope sLaw) := ⟨rfl, rfl, rfl, by decide +kernel, rfl, by decide +kernel, by decide +kernel⟩
structure Cs (P : Program) (w : World) (K : PySem.W.Frag) (mg : Str → Option Value) (base : Heap) (CW CB CL CV : Addr) : Prop where
  pool : Cal P w K mg base "_law_pool" ["_law_script"] 1 (spPool K)
  draw : Cal P w K mg base "_law_draw" ["_law_pool_here", "_law_size"] 1 spDraw
  lists : Cal P w K mg base "_law_lists" ["_law_pool_here", "_law_most", "_law_limit", "_law_cap"] 5 spLists
  changed : Cal P w K mg base "_law_changed" ["_law_pool_here", "_law_lists_here"] 2 spChanged
  same : Cal P w K mg base "_law_same" ["_law_actual", "_law_expected"] 3 (spSamq 2)
  is_ : Cal P w K mg base "_law_is" ["_law_wishes", "_law_lists_here"] 8 (spLIs CW)
  mkW : MkW P w K mg base CW CB
  ml : MlW P w K mg base CW
  ms : MmW P w K mg base CW "struck" "ways" (spStruck CW CV)
  mf : MmW P w K mg base CW "failed" "links" (spFailed CW CL)
  mq : MqW P w K mg base CW
abbrev teIn (K : PySem.W.Frag) : TE := tCB (rTupC K) (tCons (tCB (rLstC K) (tCons (tVar 12) tNil)) tNil)
abbrev teOut (K : PySem.W.Frag) : TE := tCB (rTupC K) (tCons (tLc (iTup K (tVar 10)) (gName 12) tYes (teIn K) [12]) tNil)
theorem ok_law (B : Bl mg) (S : Cs P w K mg base CW CB CL CV) (F : FnP K "law" sLaw f fd) : FnOk P w K mg base CX0 12 f fd ["_law_script"] (spLaw K) := by
  obtain ⟨fI, fdI, mk, FI, bI⟩ := S.mkW.ex
  obtain ⟨fL, fdL, meL, FL, bL⟩ := S.ml.ex
  obtain ⟨fS, fdS, meS, FS, bS⟩ := S.ms.ex
  obtain ⟨fF, fdF, meF, FF, bF⟩ := S.mf.ex
  have TX := S.mkW.tx
  have mq := S.mq
  refine F.ok scLaw (fun vs H Q E h => ?_) (fun cdv A outer s H vs Q E hr h => ?_)
  · obtain ⟨a, ns, rfl, _⟩ := h
    rfl
  · obtain ⟨a0, ns, rfl, hS, hns, k⟩ := h
    have r1 : Room 1 _ := hr.mono (by decide)
    have r2 : Room 2 _ := hr.mono (by decide)
    have r7 : Room 7 _ := hr.mono (by decide)
    have r9 : Room 9 _ := hr.mono (by decide)
    have er := hr.units
    refine ⟨_, pss_cons (ps_set (i := 1) scLaw.nd rfl (Or.inl rfl) (pe_cal S.pool hr (by rfl) (pa_cons (pv 0) pa_nil)))
      (pss_cons (ps_set (i := 2) scLaw.nd rfl (Or.inl rfl) (pe_cal S.lists hr (by rfl) (pa_cons (pv 1) (pa_cons pe_int (pa_cons pe_int (pa_cons (pe_op op_pow pe_int pe_int) pa_nil))))))
      (pss_cons (ps_set (i := 3) scLaw.nd rfl (Or.inl rfl) (pe_cal S.changed hr (by rfl) (pa_cons (pv 1) (pa_cons (pv 2) pa_nil))))
      (pss_cons (ps_set (i := 4) scLaw.nd rfl (Or.inl rfl) (pe_mkAt mk FI r9 (by rfl) TX.g bI (fun σ => passAt takes0 σ) (pa_cons (pv 2) pa_nil)))
      (pss_cons (ps_set (i := 5) scLaw.nd rfl (Or.inl rfl) (pe_mkAt mk FI r9 (by rfl) TX.g bI (fun σ => passAt takes0 σ) (pa_cons (pe_callTy (call_tupleC (K := K) rfl) (by rfl) B.tuple PyProof.Rows.boot_tuple (pa_cons
          (pe_lc (own := [("_law_row", 10)]) (g := gName 10) (tt := tYes) (te := teOut K) rfl scLaw.nd (pi_tupQ (K := K) rfl (pv 2)) (blkOk_by (N := nLaw) (sc := defScope sLaw) (by decide +kernel))
            (fun _ _ _ _ _ => pg_name (i := 10) scLaw.nd rfl (Or.inl rfl)) (fun _ _ _ _ _ => pts_nil) (fun _ _ _ _ _ => pe_callTy (call_tupleC (K := K) rfl) (by rfl) B.tuple PyProof.Rows.boot_tuple (pa_cons
              (pe_lc (own := [("_law_way", 12)]) (g := gName 12) (tt := tYes) (te := teIn K) rfl scLaw.nd (pi_tupQ (K := K) rfl (pv 10)) (blkOk_by (N := nLaw) (by first | rfl | decide +kernel))
                (fun _ _ _ _ _ => pg_name (i := 12) scLaw.nd rfl (Or.inl rfl)) (fun _ _ _ _ _ => pts_nil) (fun _ _ _ _ _ => pe_callTy (call_tupleC (K := K) rfl) (by rfl) B.tuple PyProof.Rows.boot_tuple (pa_cons (pe_callTy (call_listC (K := K) rfl) (by rfl) B.list PyProof.Rows.boot_list (pa_cons (pv 12) pa_nil)) pa_nil))) pa_nil))) pa_nil)) pa_nil)))
      (pss_cons (ps_set (i := 6) scLaw.nd rfl (Or.inl rfl) (pe_mkAt mk FI r9 (by rfl) TX.g bI (fun σ => passAt takes0 σ) (pa_cons (pv 3) pa_nil)))
      (pss_cons (ps_if (PW.pt (pw_or (pt_not (pt_cmpR (op_eqB (rc_DW mq) r1) (pv 4) (pv 5) (nomark _))) (pw_or (pt_not (pt_cmpR (op_eqB (rc_DW mq) r1) (pv 5) (pv 4) (nomark _))) (pw_or1 (pt_cmpR (op_notInB (mon_DW CW) (eq_DW mq) r2) (pv 4) (pe_lst (pa_cons (pv 6) (pa_cons (pv 5) pa_nil))) rfl))))) (pss_one (ps_ret pe_bl)) pss_nil)
      (pss_cons (ps_set (i := 7) scLaw.nd rfl (Or.inl rfl) (pe_cmpR (op_eqD er) (pv 2) (pv 3) (nomark _)))
      (pss_cons (ps_if (PW.pt (pw_or (pt_cmpR op_ne (pe_cmpR (op_eqB (rc_DW mq) r1) (pv 4) (pv 6) (nomark _)) (pv 7) (nomark _)) (pw_or (pt_cmpR op_ne (pe_cmpR (op_eqB (rc_DW mq) r1) (pv 6) (pv 5) (nomark _)) (pv 7) (nomark _)) (pw_or1 (pt_cmpR op_ne (pe_cmpR (op_eqLB (mon_DW CW) (eq_DW mq) r2) (pe_lst (pa_cons (pv 4) (pa_cons (pv 5) pa_nil))) (pe_lst (pa_cons (pv 5) (pa_cons (pv 6) pa_nil))) (nomark _)) (pv 7) (nomark _)))))) (pss_one (ps_ret pe_bl)) pss_nil)
      (pss_cons (ps_set (i := 8) scLaw.nd rfl (Or.inl rfl) (pe_meth0 (pv 4) TX.cl meL FL r7 bL .nil pass0))
      (pss_cons (ps_expr (pe_bm0 PySem.F.plainAttrs_list PySem.F.slot_list_clear PySem.F.type_list_clear mt_clear (pv 8)))
      (pss_cons (ps_if (PW.pt (pw_or (pt_not (pt_cmpR (op_eqB (rc_DW mq) r1) (pe_meAt (pv 4) TX.cl meS FS hr bS (fun σ => passAt takes0 σ) (pa_cons (pe_lst pa_nil) pa_nil)) (pv 5) (nomark _))) (pw_or1 (pt_not (pt_cmpR (op_eqB (rc_DW mq) r1) (pe_meAt (pv 5) TX.cl meF FF hr bF (fun σ => passAt takes0 σ) (pa_cons (pe_tup pa_nil) pa_nil)) (pv 4) (nomark _)))))) (pss_one (ps_ret pe_bl)) pss_nil)
      (pss_cons (ps_set (i := 9) scLaw.nd rfl (Or.inl rfl) (pe_lst pa_nil))
      (pss_cons (ps_for (passes_of rfl) rfl (pi_tup (pv 2)) (pg_name (i := 10) scLaw.nd rfl (Or.inl rfl)) (pss_one (ps_set (i := 9) scLaw.nd rfl (Or.inl rfl) (pe_op op_cat (pv 9) (pe_callTy (call_listC (K := K) rfl) (by rfl) B.list PyProof.Rows.boot_list (pa_cons (pv 10) pa_nil))))))
      (pss_cut (ps_if (pt_cmpR (op_neD er) (pv 9) (pe_lst pa_nil) (nomark _))
          (pss_cons (ps_set (i := 11) scLaw.nd rfl (Or.inl rfl) (pe_meAt (pv 4) TX.cl meS FS hr bS (fun σ => passAt takes0 σ) (pa_cons (pe_lst (pa_cons (pe_ix ix_list (pv 9) (pe_cal S.draw hr (by rfl) (pa_cons (pv 1) (pa_cons (pe_callB call_len_seq (by rfl) B.len PySem.boot_len (pa_cons (pv 9) pa_nil)) pa_nil))) (fun _ _ => rfl)) pa_nil)) pa_nil)))
          (pss_one (ps_if (PW.pt (pw_or (pt_cmpR (op_eqB (rc_DW mq) r1) (pv 11) (pv 4) (nomark _)) (pw_or (pt_cmpR (op_eqB (rc_DW mq) r1) (pv 11) (pv 5) (nomark _)) (pw_or1 (pt_not (pt_cmpR (op_eqB (rc_DW mq) r1) (pv 11) (pe_meAt (pv 11) TX.cl meS FS hr bS (fun σ => passAt takes0 σ) (pa_cons (pe_tup pa_nil) pa_nil)) (nomark _))))))) (pss_one (ps_ret pe_bl)) pss_nil))) pss_nil)
      (pss_cons (ps_if (PW.pt (pw_or (pt_not (pt_val (pe_cal S.same hr (by rfl) (pa_cons (pe_meth0 (pv 4) TX.cl meL FL r7 bL .nil pass0) (pa_cons (pe_meth0 (pv 5) TX.cl meL FL r7 bL .nil pass0) pa_nil))))) (pw_or1 (PW.pt (pw_and (pt_cmpR (op_neD er) (pe_meth0 (pv 4) TX.cl meL FL r7 bL .nil pass0) (pe_meth0 (pv 6) TX.cl meL FL r7 bL .nil pass0) (nomark _)) (pw_and1 (pt_val (pv 7)))))))) (pss_one (ps_ret pe_bl)) pss_nil)
      (pss_one (ps_ret (pe_and (pe_cmpR (op_eqB (rc_DW mq) r1) (pv 4) (pv 5) (nomark _)) (pe_and (pe_cal S.is_ hr (by rfl) (pa_cons (pv 4) (pa_cons (pv 2) pa_nil))) (pe_and (pe_cal S.is_ hr (by rfl) (pa_cons (pv 5) (pa_cons (pv 2) pa_nil))) (pe_one (pe_cal S.is_ hr (by rfl) (pa_cons (pv 6) (pa_cons (pv 3) pa_nil)))))))))))))))))))))))), ?_⟩
    refine ⟨.ref a0, rfl, a0, ns, rfl, hS, hns, fun H1 p q hP1 => ?_⟩
    refine g_name ?_
    refine ⟨.ref p, rfl, 10, 6, rfl, rfl, ⟨by decide, by decide, by decide⟩, H, p, q, 8, 6, 1000000, rfl, hP1, by decide, by decide, by decide, by decide, fun G2 H2 lv rows eG2 hP2 hlv hn2 hn8 hG h6 => ?_⟩
    refine g_name ?_
    refine ⟨.ref p, rfl, lv, rfl, G2, p, q, lv, rows, rfl, hP2, hlv, hG, hn2, hn8, h6, fun G3 H3 ov rows' eG3 hP3 hov hG' hn2' hn8' h6' => ?_⟩
    refine g_name ?_
    have hl3 := hlv.mono eG3
    clear hP1 hP2 hlv eG2 eG3
    change tSeq _ _ _ [some (.ref a0), some (.ref p), some lv, some ov, none, none, none, none, none, none, none, none, none] H3
    refine q_asgW (t_make (CB := CB) (ev_var (i := 2) rfl) hP3 hl3 hG hn2 hn8 h6 fun G4 H4 x1 eG4 _ hP4 hW1 => ?_)
    have hl4 := hl3.mono eG4
    have ho4 := hov.mono eG4
    clear hP3 hl3 hov
    obtain ⟨la, lxs, rfl, hla, hlx⟩ : ∃ la lxs, lv = .ref la ∧ G4 la = some (.tup lxs) ∧ DqA G4 lxs (rows.map rd) := by
      have z := hl4
      unfold pd at z
      cases z with
      | tup h1 h2 => exact ⟨_, _, rfl, h1, h2⟩
    have lx := hlx.length
    rw [List.length_map] at lx
    change tSeq _ _ _ [some (.ref a0), some (.ref p), some (.ref la), some ov, some (.ref x1), none, none, none, none, none, none, none, none] H4
    refine q_asgW (mk_at ?_)
    refine ⟨.ref la, rfl, la, rfl, ⟨_, st_of (hP4.ex _ _ hla)⟩, fun D hD => ?_⟩
    refine lc_tup (K := K) (xs := lxs) (fun i H' => Twz G4 H' p q D D (rows.map rd) i) (twz_start hP4 hD (fresh_back hP4.ex hD)) (fun i H' _ h => ?_) ?_ ?_
    · obtain ⟨_, _, e, h1, _⟩ := h.ex
      exact st_of ((e.trans h1.ex) _ _ hla)
    · rintro i x H5 hx h
      obtain ⟨G5, ts, e5, hP5, hD5, gD5, Dp, Dq', _, hts⟩ := h.ex
      have hil : i < rows.length := by
        have := (List.getElem?_eq_some_iff.mp hx).1
        omega
      have hri : rows[i]? = some rows[i] := List.getElem?_eq_getElem hil
      obtain ⟨d, hd1, hd2⟩ := hlx.get hx
      have hdi := hd1
      rw [List.getElem?_map, hri] at hd1
      cases hd1
      obtain ⟨ra, ws, rfl, hra, hws⟩ := rd_ref (hd2.mono e5)
      have h6i := h6 _ (List.getElem_mem hil)
      generalize rows[i] = row at *
      have wl := hws.length
      rw [List.length_map] at wl
      refine ⟨rfl, .ref ra, rfl, ra, rfl, ⟨_, st_of (hP5.ex _ _ hra)⟩, fun D2 hD2 => ?_⟩
      have nD2 : D ≠ D2 := ne_of_none hD5 hD2
      refine lc_tup (K := K) (xs := ws) (fun k H' => Twz G5 H' p q D2 D (row.map wd) k ∧ H' D = some (.lst ts)) ⟨twz_start hP5 hD2 gD5, (Ex.new hD2) _ _ hD5⟩ (fun k H' _ h => ?_) ?_ ?_
      · obtain ⟨_, _, e, h1, _⟩ := h.1.ex
        exact st_of ((e.trans h1.ex) _ _ hra)
      · rintro k y H6 hy ⟨h, hD6⟩
        obtain ⟨G6, ts2, e6, hP6, hE6, gE6, Ep, Eq', gD6, hts2⟩ := h.ex
        have hkl : k < row.length := by
          have := (List.getElem?_eq_some_iff.mp hy).1
          omega
        have hrk : row[k]? = some row[k] := List.getElem?_eq_getElem hkl
        obtain ⟨d2, hd3, hd4⟩ := hws.get hy
        have hdk := hd3
        rw [List.getElem?_map, hrk] at hd3
        cases hd3
        obtain ⟨wa, rfl, hwa⟩ := wd_ref (hd4.mono e6)
        generalize row[k] = wy at *
        refine ⟨rfl, .ref wa, rfl, wa, _, rfl, .inr (st_of (hP6.ex _ _ hwa)), fun l hl => ⟨l, _, rfl, .inl ⟨sq_of upd_same, fun t ht => ?_⟩⟩⟩
        have hP7 := hP6.ext (Ex.new (o := .lst (wy.map V.int)) hl)
        have hE7 := (Ex.new (o := .lst (wy.map V.int)) hl) _ _ hE6
        have hD7 := (Ex.new (o := .lst (wy.map V.int)) hl) _ _ hD6
        generalize upd H6 l (.lst (wy.map V.int)) = H7 at *
        have gt := fresh_back hP7.ex ht
        have nEt : D2 ≠ t := ne_of_none hE7 ht
        have nDt : D ≠ t := ne_of_none hD7 ht
        have t2l := hts2.length
        rw [List.length_take, List.length_map] at t2l
        refine ⟨ts2, by rw [upd_ne nEt]; exact hE7, by rw [sizeLine_eq]; omega, ⟨upd G6 t (.tup (wy.map V.int)), ts2 ++ [.ref t], e6.trans (Ex.new gt), (hP7.new ht).mut (by rw [upd_ne nEt]; exact gE6) Ep Eq', upd_same, by rw [upd_ne nEt]; exact gE6, Ep, Eq', by rw [upd_ne nDt]; exact gD6, ?_⟩, by rw [upd_ne nD2, upd_ne nDt]; exact hD7⟩
        rw [take_snoc hdk]
        exact (hts2.mono (Ex.new gt)).append (.cons (wd_of upd_same) .nil)
      · rintro H6 ⟨h, hD6⟩
        obtain ⟨G6, ts2, e6, hP6, hE6, gE6, Ep, Eq', gD6, hts2⟩ := h.ex
        rw [wl, ← List.length_map (f := wd), List.take_length] at hts2
        refine ⟨D2, ts2, rfl, .inl ⟨sq_of hE6, fun t ht => ?_⟩⟩
        have gt := fresh_back hP6.ex ht
        have nDt : D ≠ t := ne_of_none hD6 ht
        have tl := hts.length
        rw [List.length_take, List.length_map] at tl
        refine ⟨ts, by rw [upd_ne nDt]; exact hD6, by rw [sizeLine_eq]; omega, upd G6 t (.tup ts2), ts ++ [.ref t], (e5.trans e6).trans (Ex.new gt), (hP6.new ht).mut (by rw [upd_ne nDt]; exact gD6) Dp Dq', upd_same, by rw [upd_ne nDt]; exact gD6, Dp, Dq', by rw [upd_ne nDt]; exact gD6, ?_⟩
        rw [take_snoc hdi]
        exact (hts.mono (e6.trans (Ex.new gt))).append (.cons (.tup upd_same (hts2.mono (Ex.new gt))) .nil)
    · intro H5 h
      obtain ⟨G5, ts, e5, hP5, hD5, gD5, Dp, Dq', _, hts⟩ := h.ex
      rw [lx, ← List.length_map (f := rd), List.take_length] at hts
      refine ⟨D, ts, rfl, .inl ⟨sq_of hD5, fun t ht => ?_⟩⟩
      have gt := fresh_back hP5.ex ht
      have eg := Ex.new (o := .tup ts) gt
      have htw : Dq (upd G5 t (.tup ts)) (.ref t) (pd rows) := .tup upd_same (hts.mono eg)
      refine t_make (CB := CB) (ta := tC (.ref t)) (v := .ref t) ev_c (hP5.new ht) htw hG hn2 hn8 h6 fun G6 H6 x2 eG6 _ hP6 hW2 => ?_
      have eG46 := (e5.trans eg).trans eG6
      have hW1' := hW1.up eG46
      have hl6 := hl4.mono eG46
      have ho6 := ho4.mono eG46
      have hla6 := eG46 _ _ hla
      have hlx6 := hlx.mono eG46
      clear hP4 hP5 hW1 hl4 ho4 htw hts hla hlx
      change tSeq _ _ _ [some (.ref a0), some (.ref p), some (.ref la), some ov, some (.ref x1), some (.ref x2), none, none, none, none, none, none, none] H6
      refine q_asgW (t_make (CB := CB) (ev_var (i := 3) rfl) hP6 ho6 hG' hn2' hn8' h6' fun G7 H7 x3 eG7 _ hP7 hW3 => ?_)
      have hW1'' := hW1'.up eG7
      have hW2' := hW2.up eG7
      have hl7 := hl6.mono eG7
      have ho7 := ho6.mono eG7
      have hla7 := eG7 _ _ hla6
      have hlx7 := hlx6.mono eG7
      clear hP6 hW1' hW2 hl6 ho6 hla6 hlx6
      change tSeq _ _ _ [some (.ref a0), some (.ref p), some (.ref la), some ov, some (.ref x1), some (.ref x2), some (.ref x3), none, none, none, none, none, none] H7
      have y2 : ∀ {o7 o8 o9 o10 o11 o12 : Option V} {H' : Hp}, Ev (tVar 2) [some (.ref a0), some (.ref p), some (.ref la), some ov, some (.ref x1), some (.ref x2), some (.ref x3), o7, o8, o9, o10, o11, o12] H' (.ref la) := ev_var rfl
      have y3 : ∀ {o7 o8 o9 o10 o11 o12 : Option V} {H' : Hp}, Ev (tVar 3) [some (.ref a0), some (.ref p), some (.ref la), some ov, some (.ref x1), some (.ref x2), some (.ref x3), o7, o8, o9, o10, o11, o12] H' ov := ev_var rfl
      have y4 : ∀ {o7 o8 o9 o10 o11 o12 : Option V} {H' : Hp}, Ev (tVar 4) [some (.ref a0), some (.ref p), some (.ref la), some ov, some (.ref x1), some (.ref x2), some (.ref x3), o7, o8, o9, o10, o11, o12] H' (.ref x1) := ev_var rfl
      have y5 : ∀ {o7 o8 o9 o10 o11 o12 : Option V} {H' : Hp}, Ev (tVar 5) [some (.ref a0), some (.ref p), some (.ref la), some ov, some (.ref x1), some (.ref x2), some (.ref x3), o7, o8, o9, o10, o11, o12] H' (.ref x2) := ev_var rfl
      have y6 : ∀ {o7 o8 o9 o10 o11 o12 : Option V} {H' : Hp}, Ev (tVar 6) [some (.ref a0), some (.ref p), some (.ref la), some ov, some (.ref x1), some (.ref x2), some (.ref x3), o7, o8, o9, o10, o11, o12] H' (.ref x3) := ev_var rfl
      have w1 : ∀ {H' : Hp}, Ex G7 H' → WO CW H' (.ref x1) rows := fun e => hW1''.up e
      have w2 : ∀ {H' : Hp}, Ex G7 H' → WO CW H' (.ref x2) rows := fun e => hW2'.up e
      have w3 : ∀ {H' : Hp}, Ex G7 H' → WO CW H' (.ref x3) rows' := fun e => hW3.up e
      have e7 := hP7.ex
      refine q_when (b := (!decide (rows = rows)) || ((!decide (rows = rows)) || false)) (et_or (et_not (et_test (ev_eqW (ew_of y4 (w1 e7)) (ew_of y5 (w2 e7))))) fun _ => et_or (et_not (et_test (ev_eqW (ew_of y5 (w2 e7)) (ew_of y4 (w1 e7))))) fun _ => et_nin y4 y6 y5 (w1 e7) (w3 e7) (w2 e7)) (fun hb => ?_) (fun _ H8 e8 => ?_)
      · exfalso
        simp at hb
      have hP8 := hP7.ext e8
      refine q_asg (v := .bl (decide (rows = rows'))) (ev_op y2 y3 fun H9 e9 Q9 q9 => ⟨pd rows, pd rows', Dq.dp (SeqAt.canLay_of_shaped (shaped_pd _)) (hl7.mono (hP8.ex.trans e9)), Dq.dp (SeqAt.canLay_of_shaped (shaped_pd _)) (ho7.mono (hP8.ex.trans e9)), shaped_pd _, shaped_pd _, by rw [eqv_pd]; exact q9 H9 (Ex.refl _)⟩) fun H9 e9 => ?_
      have hP9 := hP8.ext e9
      change tSeq _ _ _ [some (.ref a0), some (.ref p), some (.ref la), some ov, some (.ref x1), some (.ref x2), some (.ref x3), some (.bl (decide (rows = rows'))), none, none, none, none, none] H9
      have ec : decide (rows' = rows) = decide (rows = rows') := by
        rw [decide_eq_decide]
        exact eq_comm
      refine q_when (b := (!decide (V.bl (decide (rows = rows')) = V.bl (decide (rows = rows')))) || ((!decide (V.bl (decide (rows' = rows)) = V.bl (decide (rows = rows')))) || (!decide (V.bl (decide (rows = rows')) = V.bl (decide (rows = rows')))))) (et_or (et_test (ev_op (ev_eqW (ew_of y4 (w1 hP9.ex)) (ew_of y6 (w3 hP9.ex))) (ev_var rfl) (rv_ne (x := .bl _) (y := .bl _) rfl))) fun _ => et_or (et_test (ev_op (ev_eqW (ew_of y6 (w3 hP9.ex)) (ew_of y5 (w2 hP9.ex))) (ev_var rfl) (rv_ne (x := .bl _) (y := .bl _) rfl))) fun _ => et_test (ev_op (ev_eqL y4 y5 y6 (w1 hP9.ex) (w2 hP9.ex) (w3 hP9.ex)) (ev_var rfl) (rv_ne (x := .bl _) (y := .bl _) rfl))) (fun hb => ?_) (fun _ H10 e10 => ?_)
      · exfalso
        rw [ec] at hb
        simp at hb
      have hP10 := hP9.ext e10
      refine q_asgW (ew_lines y4 (w1 hP10.ex) (Ex.refl _) fun H11 l us e11 h0 hl hus => ?_)
      have gl := fresh_back hP10.ex h0
      have hP11 := hP10.ext e11
      refine ⟨.ref l, rfl, .inl ⟨rfl, _, sq_of hl⟩, l, us, rfl, rfl, hl, ?_⟩
      have hP12 := hP11.mut (o := .lst []) gl (hP10.np h0) (hP10.nq h0)
      generalize upd H11 l (.lst []) = H12 at *
      clear hP7 hP8 hP9 hP10 hP11 hl hus
      change tSeq _ _ _ [some (.ref a0), some (.ref p), some (.ref la), some ov, some (.ref x1), some (.ref x2), some (.ref x3), some (.bl (decide (rows = rows'))), some (.ref l), none, none, none, none] H12
      refine q_when (b := (!decide (rows = rows)) || (!decide (rows = rows))) (et_or (et_not (et_test (ev_eqW (ew_struckL y4 (w1 hP12.ex)) (ew_of y5 (w2 hP12.ex))))) fun _ => et_not (et_test (ev_eqW (ew_failedT y5 (w2 hP12.ex)) (ew_of y4 (w1 hP12.ex))))) (fun hb => ?_) (fun _ H13 e13 => ?_)
      · exfalso
        simp at hb
      have hP13 := hP12.ext e13
      refine ⟨by show 0 ≤ sizeLine; decide, fun b0 hb0 => ?_⟩
      have hP14 := hP13.ext (Ex.new (o := .lst ([] : List V)) hb0)
      have bp := hP13.np hb0
      have bq := hP13.nq hb0
      have hb1 : (upd H13 b0 (.lst ([] : List V))) b0 = some (.lst []) := upd_same
      generalize upd H13 b0 (.lst ([] : List V)) = H14 at *
      refine g_name ?_
      refine ⟨.ref la, rfl, la, rfl, ⟨_, st_of (hP14.ex _ _ hla7)⟩, for_tup (xs := lxs) (fun i σ' H' => ∃ (b : Addr) (bs : List V) (o10 : Option V), σ' = [some (.ref a0), some (.ref p), some (.ref la), some ov, some (.ref x1), some (.ref x2), some (.ref x3), some (.bl (decide (rows = rows'))), some (.ref l), some (.ref b), o10, none, none] ∧ Pl G7 H' p q ∧ H' b = some (.lst bs) ∧ b ≠ p ∧ b ≠ q ∧ DqA G7 bs ((rows.take i).flatten.map wd) ∧ bs.length ≤ 6 * i)
        ⟨b0, [], none, rfl, hP14, hb1, bp, bq, .nil, by simp⟩ (fun i σ' H' _ h => ?_) ?_ ?_⟩
      · obtain ⟨_, _, _, _, h1, _⟩ := h
        exact st_of (h1.ex _ _ hla7)
      · rintro i x σ' H15 hx ⟨b, bs, o10, rfl, hP15, hb15, nbp, nbq, hbs, hbl⟩
        have hil : i < rows.length := by
          have := (List.getElem?_eq_some_iff.mp hx).1
          omega
        have hri : rows[i]? = some rows[i] := List.getElem?_eq_getElem hil
        obtain ⟨d, hd1, hd2⟩ := hlx7.get hx
        rw [List.getElem?_map, hri] at hd1
        cases hd1
        obtain ⟨ra, ws, rfl, hra, hws⟩ := rd_ref hd2
        have h6i := h6 _ (List.getElem_mem hil)
        have wl := hws.length
        rw [List.length_map] at wl
        refine g_name ?_
        refine ⟨.ref b, rfl, .ref ra, rfl, ra, ws, rfl, .inr (st_of (hP15.ex _ _ hra)), fun l2 hl2 => ?_⟩
        have e2 := Ex.new (o := .lst ws) hl2
        refine ⟨b, l2, bs, ws, rfl, rfl, e2 _ _ hb15, upd_same, by rw [sizeLine_eq]; omega, fun b2 hb2 => ?_⟩
        have e3 := Ex.new (o := .lst (bs ++ ws)) hb2
        refine g_name ?_
        refine ⟨b2, bs ++ ws, _, rfl, (hP15.ext e2).ext e3, upd_same, (hP15.ext e2).np hb2, (hP15.ext e2).nq hb2, ?_, by rw [List.length_append]; omega⟩
        rw [take_snoc hri, List.flatten_append, List.map_append]
        refine hbs.append ?_
        simpa using hws
      · rintro σ' H15 ⟨b, bs, o10, rfl, hP15, hb15, nbp, nbq, hbs, hbl⟩
        rw [lx, List.take_length] at hbs
        have bl := hbs.length
        rw [List.length_map] at bl
        refine q_cut (M := fun σ' H' => ∃ o11 : Option V, σ' = [some (.ref a0), some (.ref p), some (.ref la), some ov, some (.ref x1), some (.ref x2), some (.ref x3), some (.bl (decide (rows = rows'))), some (.ref l), some (.ref b), o10, o11, none] ∧ Ex G7 H') ?_ ?_
        · refine s_when (b := !PyData.eqv (.list (rows.flatten.map wd)) (.list [])) (et_test (ev_opL (x := .ref b) (xs := []) (ev_var rfl) (el_lst ea_nil (by show 0 ≤ _; decide)) fun pn H16 hp16 e16 H17 e17 Q3 q3 => ⟨.list (rows.flatten.map wd), .list [], .lst (sq_of ((e16.trans e17) _ _ hb15)) (DqA.dp (lay_wds _) (hbs.mono (hP15.ex.trans (e16.trans e17)))), .lst (sq_of (e17 _ _ hp16)) .nil, shaped_wds _, by decide +kernel, q3 H17 (Ex.refl _)⟩)) (fun hb16 H16 e16 => ?_) (fun _ H16 e16 => ⟨none, rfl, hP15.ex.trans e16⟩)
          have hne : rows.flatten ≠ [] := fun z => by
            rw [z] at hb16
            exact absurd hb16 (by decide +kernel)
          have hpos : 0 < bs.length := by
            rw [bl]
            exact List.length_pos_iff.mpr hne
          have hP16 := hP15.ext e16
          have hb16' := e16 _ _ hb15
          obtain ⟨a1, dx, fv, ea, hx1, _⟩ := (w1 hP16.ex).ex
          cases ea
          refine ⟨.ref x1, rfl, x1, dx, _, rfl, hx1, wf_no _ _ (by decide +kernel) (by decide +kernel), .ref b, rfl, .ref p, rfl, .ref b, rfl, b, bs, rfl, .inl (sq_of hb16'), Hd H16 p q, p, q, _, rfl, hP16.hd, by omega, by omega, fun H17 y h17 hy0 hy1 => ?_⟩
          have hP17 := hP16.back h17
          have hb17 := h17.off _ _ nbp nbq hb16'
          obtain ⟨n, rfl⟩ : ∃ n : Nat, y = (n : Int) := ⟨y.toNat, by omega⟩
          have hnl : n < bs.length := by omega
          have hbn : bs[n]? = some bs[n] := List.getElem?_eq_getElem hnl
          obtain ⟨wy, hwy, hdw⟩ := hbs.wds_inv hbn
          generalize bs[n] = bv at *
          have hmem := List.mem_of_getElem? hwy
          obtain ⟨_, _, _, _, ok⟩ := flat_ok hG hmem
          refine ⟨b, bs, (n : Int), bv, rfl, rfl, sq_of hb17, atI_nat hbn, by show 1 ≤ sizeLine; decide, fun l3 hl3 => ?_⟩
          have e18 := Ex.new (o := .lst [bv]) hl3
          have hP18 := hP17.ext e18
          refine ⟨.ref x1, .ref l3, .list [wd wy], rows, rfl, w1 hP18.ex, .lst upd_same (.cons (hdw.mono hP18.ex) .nil), (by show 1 < 64; decide), fun z hz => ?_, fun _ H19 x e19 hWx => ?_, fun z => ?_⟩
          · have : z = wd wy := List.mem_singleton.mp hz
            rw [this]
            have := ok.l8
            simp [wd, itemsT]
            omega
          · have ers : (itemsS (.list [wd wy])).map rts = [wy] := by
              show [rts (wd wy)] = [wy]
              rw [rts_wd]
            rw [ers] at hWx
            have hkn := keep_ne hmem (lostS_self hmem ok.l2)
            generalize keepW rows (lostS rows [wy]) = rowsL at *
            have e719 := hP18.ex.trans e19
            refine g_name ?_
            dsimp only
            change tIfS _ _ _ _ [some (.ref a0), some (.ref p), some (.ref la), some ov, some (.ref x1), some (.ref x2), some (.ref x3), some (.bl (decide (rows = rows'))), some (.ref l), some (.ref b), o10, some (.ref x), none] H19
            have y11 : ∀ {H' : Hp}, Ev (tVar 11) [some (.ref a0), some (.ref p), some (.ref la), some ov, some (.ref x1), some (.ref x2), some (.ref x3), some (.bl (decide (rows = rows'))), some (.ref l), some (.ref b), o10, some (.ref x), none] H' (.ref x) := ev_var rfl
            refine s_when (b := decide (rowsL = rows) || (decide (rowsL = rows) || !decide (rowsL = rowsL))) (et_or (et_test (ev_eqW (ew_of y11 hWx) (ew_of y4 (w1 e719)))) fun _ => et_or (et_test (ev_eqW (ew_of y11 hWx) (ew_of y5 (w2 e719)))) fun _ => et_not (et_test (ev_eqW (ew_of y11 hWx) (ew_struckT y11 hWx)))) (fun hb => ?_) (fun _ H20 e20 => ⟨_, rfl, e719.trans e20⟩)
            exfalso
            simp [hkn] at hb
          · exfalso
            have hg := row_good hG true (ws := [wy]) (fun x hx => by rw [List.mem_singleton.mp hx]; exact hmem) (by simp)
            have hg' : rowP rows (.list [wd wy]) = true := hg
            rw [hg'] at z
            cases z
        rintro σ' H16 ⟨o11, rfl, e16⟩
        refine q_when (b := !true || (!decide (linesW rows = linesW rows') && decide (rows = rows'))) (et_or (et_not (et_B (ev_sameL y4 (w1 e16) y5 (w2 e16)))) fun _ => et_and (et_neL y4 (w1 e16) y6 (w3 e16)) fun _ => et_B (ev_var rfl)) (fun hb => ?_) (fun _ H17 e17 => ?_)
        · exfalso
          have h2 : (!decide (linesW rows = linesW rows') && decide (rows = rows')) = true := hb
          obtain ⟨z1, z2⟩ := Bool.and_eq_true_iff.mp h2
          rw [of_decide_eq_true z2] at z1
          simp at z1
        have e717 := e16.trans e17
        have is1 : ∀ {a b : TE} {σ : L2.St} {va vb : V} {rr : List (List Wy)}, Ev a σ H17 va → Ev b σ H17 vb → WO CW H17 va rr → Dq H17 vb (pd rr) → Ev (tCall (spLIs CW) [] E0 (tCons a (tCons b tNil))) σ H17 (.bl true) := fun ha hb hw hd => ev_call (ea_cons ha (ea_cons hb ea_nil)) (spP_v fun H18 e18 => ⟨_, _, _, rfl, hw.up e18, hd.mono e18, rfl⟩)
        refine s_ret (v := .bl true) (ev_is (ev_andV (a := decide (rows = rows)) (b := true) (ev_eqW (ew_of y4 (w1 e717)) (ew_of y5 (w2 e717))) fun _ => ev_is (ev_andV (a := true) (b := true) (is1 y4 y2 (w1 e717) (hl7.mono e717)) fun _ => ev_is (ev_andV (a := true) (b := true) (is1 y5 y2 (w2 e717) (hl7.mono e717)) fun _ => is1 y6 y3 (w3 e717) (ho7.mono e717)) rfl) rfl) (by simp)) fun H18 _ => k H18
end
end Wk

set_option Elab.async false
set_option linter.all false
set_option maxRecDepth 100000
set_option maxHeartbeats 4000000
namespace Wk
open PySem PySem.Spec PyProof.Rows L2 Evl
/-! facts of own errors -/
def exB (K : PySem.W.Frag) (C : Addr) : Bool := (match K.lookup C with
  | some o => (match o.cls, o.data, o.slots.toList with
    | .type t, .cls cd, [_, _, _, _, some (.builtin n), _] => decide (t = "type") && (decide (n = "ValueError.__new__") && (cd.hasDict && (!cd.hasDel && (match cd.mro with
      | .ref c :: bm => decide (c = C) && PySem.HandSPX.refsVE bm
      | _ => false))))
    | _, _, _ => false)
  | none => false) && (He.eqO (PySem.W.findIn K (.ref C) "__setattr__") (some (some (.builtin "object.__setattr__"))) && (decide (PySem.W.subIn K (.ref C) (.type "BaseException") = some true) && (decide (PySem.W.typeIn K (.ref C) = some (.type "type")) && (PySem.W.keepIn K (.ref C) && xfB K C))))
theorem exB_ok {K : PySem.W.Frag} {C : Addr} (h : exB K C = true) : OexC K C ∧ XfC K C := by
  unfold exB at h
  obtain ⟨h1, h⟩ := He.ba h
  obtain ⟨h2, h⟩ := He.ba h
  obtain ⟨h3, h⟩ := He.ba h
  obtain ⟨h4, h⟩ := He.ba h
  obtain ⟨h5, h6⟩ := He.ba h
  refine ⟨⟨?_, He.eqO_ok h2, of_decide_eq_true h3, of_decide_eq_true h4, h5⟩, xfB_ok h6⟩
  cases hl : K.lookup C with
  | none =>
    rw [hl] at h1
    cases h1
  | some o =>
    rw [hl] at h1
    obtain ⟨oc, od, dt, ⟨sl⟩⟩ := o
    dsimp only at h1
    split at h1
    · rename_i t cd k0 k1 k2 k3 n k5
      obtain ⟨z1, h1⟩ := He.ba h1
      obtain ⟨z2, h1⟩ := He.ba h1
      obtain ⟨z3, h1⟩ := He.ba h1
      obtain ⟨z4, h1⟩ := He.ba h1
      split at h1
      · rename_i c bm hm
        obtain ⟨z5, z6⟩ := He.ba h1
        obtain ⟨x1, x2, x3, x4, x5, x6, x7, x8, x9, x10, x11⟩ := cd
        dsimp only at z3 z4 hm
        have y1 := of_decide_eq_true z1
        have y2 := of_decide_eq_true z2
        have y5 := of_decide_eq_true z5
        have y4 : x11 = false := by simpa using z4
        subst y1 y2 y5 y4 z3 hm
        exact ⟨x1, x5, x4, x2, bm, x7, x8, x9, x10, od, k0, k1, k2, k3, k5, rfl, z6⟩
      · cases h1
    · cases h1
/-! what isinstance asks of an own class -/
def insB (K : PySem.W.Frag) (C : Addr) : Bool := He.eqO (PySem.W.findIn K (.ref C) "__class__") (some (some (.builtin "object.__class__"))) && (He.eqO (PySem.W.specialIn K (.builtin "object.__class__") "__get__") (some (some (.builtin "getset_descriptor.__get__"))) && (decide (PySem.W.takesIn K (.builtin "object.__class__") = some true) &&
  (decide (PySem.W.mroIn K C (.type "object") = some true) && decide (PySem.W.kitOne K (.ref C) (.type "tuple") = some false))))
theorem insB_ok {K : PySem.W.Frag} {C : Addr} (cl : Cls K C) (h : insB K C = true) : ITx K C := by
  obtain ⟨h1, h⟩ := He.ba h
  obtain ⟨h2, h⟩ := He.ba h
  obtain ⟨h3, h⟩ := He.ba h
  obtain ⟨h4, h5⟩ := He.ba h
  exact ⟨cl, He.eqO_ok h1, He.eqO_ok h2, of_decide_eq_true h3, of_decide_eq_true h4, of_decide_eq_true h5⟩
/-! the head's facts with more of them -/
abbrev AlX : Type := He.AlD × Bool
def obsX (n : Nat) (fa : List He.Fa) (fn : List He.DefD) (eb : PySem.W.Frag → Bool) (g : Addr → Option Obj) : AlX := (He.obsDG n fa fn g, eb (He.frG g (He.asD g n)))
def hookX (n : Nat) (fa : List He.Fa) (fn : List He.DefD) (eb : PySem.W.Frag → Bool) : PySem.W.Hook where
  α := AlX
  obs := fun s => obsX n fa fn eb s.heap.get?
  val := fun _ => (He.valD fn, true)
  says := fun _ h => ∃ K : PySem.W.Frag, K.In h ∧ He.SaysD fa fn K ∧ eb K = true
  of := fun _ _ e => ⟨_, He.frG_in, congrArg Prod.fst e, congrArg Prod.snd e⟩
  keeps := fun _ _ _ ⟨K, hK, c⟩ k => ⟨K, PySem.W.Frag.In.keeps hK k, c⟩
theorem obsX_eq {n : Nat} {fa : List He.Fa} {fn : List He.DefD} {eb : PySem.W.Frag → Bool} {g : Addr → Option Obj} {s : Shared} (h : ∀ a, g a = s.heap.get? a) : obsX n fa fn eb g = (hookX n fa fn eb).obs s := by
  have e : g = s.heap.get? := funext h
  rw [e]
  rfl
theorem calOf {P : Program} {w : World} {K : PySem.W.Frag} {mg : Str → Option Value} {base : Heap} {x q : Str} {params : Arguments} {body : List Stmt} {scope : Scope} {f : Addr} {fd : FuncData} {ps : List Str} {k : Nat} {sp : Sp} (F : FunD K x q params body scope [] [] f fd) (o : FnOk P w K mg base CX0 k f fd ps sp) (g : mg x = some (.ref f)) (b : Binds K fd ps []) : Cal P w K mg base x ps k sp := ⟨⟨f, fd, o, g, F.kp, b⟩⟩
def dG (x : Str) (i : Nat) : He.DefD := ⟨(x, none), x, x, defArgs (top i), defBody (top i), defScope (top i), [], []⟩
def dM (c m q : Str) (i j : Nat) : He.DefD := ⟨(c, some m), m, q, defArgs (inClass (top i) j), defBody (inClass (top i) j), defScope (inClass (top i) j), [], []⟩
end Wk

set_option Elab.async false
set_option linter.all false
set_option maxRecDepth 100000
set_option maxHeartbeats 2000000
namespace Wk
open PySem PySem.Spec PyProof.Rows L2 Evl
/-! more facts: a thing of an own class, an error without arguments -/
def insO (K : PySem.W.Frag) (C : Addr) : Bool := decide (PySem.W.kitOne K (.ref C) (.ref C) = some true)
theorem insO_ok {K : PySem.W.Frag} {C : Addr} (h : insO K C = true) : PySem.W.kitOne K (.ref C) (.ref C) = some true := of_decide_eq_true h
def errB (K : PySem.W.Frag) (C : Addr) : Bool := PySem.W.excIn K C [.type "ValueError", .type "Exception", .type "BaseException", .type "object"] "ValueError.__new__" && (PySem.W.keepIn K (.ref C) && (decide (PySem.W.subIn K (.ref C) (.type "BaseException") = some true) && decide (PySem.W.typeIn K (.ref C) = some (.type "type"))))
theorem errB_ok {K : PySem.W.Frag} {mg : Str → Option Value} {x : Str} {C : Addr} (h : errB K C = true) (g : mg x = some (.ref C)) : ErrN K mg x C := by
  obtain ⟨h1, h⟩ := He.ba h
  obtain ⟨h2, h⟩ := He.ba h
  obtain ⟨h3, h4⟩ := He.ba h
  exact ⟨g, h1, h2, of_decide_eq_true h3, of_decide_eq_true h4⟩
end Wk

set_option Elab.async false
set_option linter.all false
set_option maxRecDepth 100000
set_option maxHeartbeats 0
namespace Wk
open PySem PySem.Spec PyProof.Rows L2 Evl
def fn : List He.DefD := ([dG "is_integer" 8, dG "is_between" 9, dG "is_row" 10, dG "is_tuple_of" 11, dG "is_integer_tuple" 12, dG "is_router" 13, dG "refuse_no_router" 14, dG "is_size" 15, dG "is_router_pair" 16, dG "is_way" 17, dG "refuse_wrong_lists" 22, dG "is_way_list" 23, dG "has_let_rest" 24, dG "let_ways" 25, dG "is_let_way" 26, dG "is_row_of_unlike_ways" 27, dG "ends" 28, dG "hops" 29, dG "is_cut" 30, dG "_law_pool" 32, dG "_law_draw" 33, dG "_law_order" 34, dG "_law_planted" 35, dG "_law_add" 36, dG "_law_lists" 37, dG "_law_same" 38, dG "_law_changed" 39, dG "_law_is" 40, dG "law" 41, dM "Wishes" "__init__" "Wishes.__init__" 21 0] : List He.DefD) ++ ([dM "Wishes" "ways" "Wishes.ways" 21 2, dM "Wishes" "lines" "Wishes.lines" 21 3, dM "Wishes" "struck" "Wishes.struck" 21 4, dM "Wishes" "failed" "Wishes.failed" 21 5, dM "Wishes" "_without" "Wishes._without" 21 6, dM "Wishes" "__eq__" "Wishes.__eq__" 21 1, dM "NoRouter" "__init__" "NoRouter.__init__" 2 0, dM "BadWishes" "__init__" "BadWishes.__init__" 3 0] : List He.DefD)
def fa : List He.Fa := ([.glo "is_integer", .glo "is_between", .glo "is_row", .glo "is_tuple_of", .glo "is_integer_tuple", .glo "is_router", .glo "refuse_no_router", .glo "is_size", .glo "is_router_pair", .glo "is_way", .glo "refuse_wrong_lists", .glo "is_way_list", .glo "has_let_rest", .glo "let_ways", .glo "is_let_way", .glo "is_row_of_unlike_ways", .glo "ends", .glo "hops", .glo "is_cut", .glo "_law_pool", .glo "_law_draw", .glo "_law_order", .glo "_law_planted", .glo "_law_add", .glo "_law_lists", .glo "_law_same", .glo "_law_changed", .glo "_law_is", .glo "law", .free "isinstance"] : List He.Fa) ++ ([.free "len", .free "tuple", .free "list", .free "int", .free "bool", .free "str", .free "all", .free "set", .free "enumerate", .free "range", .free "abs", .free "min", .free "repr", .free "sorted", .free "any", .int "MOST_ROUTERS" 8, .int "MOST_WAYS" 6, .int "LEAST_ROUTERS" 2, .glo "Wishes", .cls "Wishes", .mkr "Wishes", .meth "Wishes" "ways", .meth "Wishes" "lines", .meth "Wishes" "struck", .meth "Wishes" "failed", .meth "Wishes" "_without", .meth "Wishes" "__eq__", .noat "Wishes" "size", .noat "Wishes" "_lists", .glo "BadWishes"] : List He.Fa) ++ ([.glo "NoRouter", .glo "BadWays", .glo "BadLinks", .exm "BadWishes" "BadWishes" true, .exm "NoRouter" "NoRouter" true, .exm "BadWays" "BadWays" true, .exm "BadLinks" "BadLinks" true, .noat "NoRouter" "router", .noat "BadWishes" "router", .meth "NoRouter" "__init__", .meth "BadWishes" "__init__"] : List He.Fa)
def eb (K : PySem.W.Frag) : Bool := exB K (He.ga K "NoRouter") && (exB K (He.ga K "BadWishes") && (insB K (He.ga K "Wishes") && (insO K (He.ga K "Wishes") && (errB K (He.ga K "BadWays") && errB K (He.ga K "BadLinks")))))
abbrev R : PySem.W.OpenRow := PySem.W.OpenLaw.row PySem.Challenge.rw_wishreels_k02_equal_and_kept
abbrev hk : PySem.W.Hook := hookX 4 fa fn eb
def ob (s : PySem.W.SharedT) : AlX := obsX 4 fa fn eb (HandSHeadRun.getT s)
theorem ob_eq (s : PySem.W.SharedT) : ob s = hk.obs s.abs := obsX_eq (HandSHeadRun.getT_eq s)
def loose0 : List Str := ["__name__", "WishError", "NoRouter", "BadWishes", "BadWays", "BadLinks", "MOST_ROUTERS", "is_integer", "is_between", "is_row", "is_tuple_of", "is_integer_tuple", "is_router", "refuse_no_router", "is_size", "is_router_pair", "is_way", "LEAST_ROUTERS", "MOST_WAYS", "Wishes", "refuse_wrong_lists", "is_way_list", "has_let_rest", "let_ways", "is_let_way", "is_row_of_unlike_ways", "ends", "hops", "is_cut", "_law_pool"]
def loose1 : List Str := ["_law_draw", "_law_order", "_law_planted", "_law_add", "_law_lists", "_law_same", "_law_changed", "_law_is"]
def loose : List Str := loose0 ++ loose1
theorem run (w : World) : HandSHeadRun.RunEq R (PySem.W.view R.prog [41]) hk ob 7000 loose w := by
  intro os
  kernel_rfl
end Wk

set_option Elab.async false
set_option linter.all false
set_option maxRecDepth 100000
set_option maxHeartbeats 4000000
namespace Wk
open PySem PySem.Spec PyProof.Rows L2 Evl
theorem facts {P : Program} {w : World} {K : PySem.W.Frag} {h : Heap} {mg : Str → Option Value} {f : Addr} (X : K.In h) (G : h.Ns mainGlobals mg) (hfa : mg ("law" : Str) = some (.ref f)) (c : He.SaysD fa fn K) (cx : eb K = true) :
    ∃ fd : FuncData, (∀ (t : Shared) (u : Value), BindsTo t fd ⟨[u], []⟩ [("_law_script", u)]) ∧ ∀ base : Heap, K.In base → base.Ns mainGlobals mg → FnOk P w K mg base CX0 12 f fd ["_law_script"] (spLaw K) := by
  obtain ⟨d0, F0⟩ := c.def_ 0 (d := dG "is_integer" 8) rfl
  obtain ⟨d1, F1⟩ := c.def_ 1 (d := dG "is_between" 9) rfl
  obtain ⟨d2, F2⟩ := c.def_ 2 (d := dG "is_row" 10) rfl
  obtain ⟨d3, F3⟩ := c.def_ 3 (d := dG "is_tuple_of" 11) rfl
  obtain ⟨d4, F4⟩ := c.def_ 4 (d := dG "is_integer_tuple" 12) rfl
  obtain ⟨d5, F5⟩ := c.def_ 5 (d := dG "is_router" 13) rfl
  obtain ⟨d6, F6⟩ := c.def_ 6 (d := dG "refuse_no_router" 14) rfl
  obtain ⟨d7, F7⟩ := c.def_ 7 (d := dG "is_size" 15) rfl
  obtain ⟨d8, F8⟩ := c.def_ 8 (d := dG "is_router_pair" 16) rfl
  obtain ⟨d9, F9⟩ := c.def_ 9 (d := dG "is_way" 17) rfl
  obtain ⟨d10, F10⟩ := c.def_ 10 (d := dG "refuse_wrong_lists" 22) rfl
  obtain ⟨d11, F11⟩ := c.def_ 11 (d := dG "is_way_list" 23) rfl
  obtain ⟨d12, F12⟩ := c.def_ 12 (d := dG "has_let_rest" 24) rfl
  obtain ⟨d13, F13⟩ := c.def_ 13 (d := dG "let_ways" 25) rfl
  obtain ⟨d14, F14⟩ := c.def_ 14 (d := dG "is_let_way" 26) rfl
  obtain ⟨d15, F15⟩ := c.def_ 15 (d := dG "is_row_of_unlike_ways" 27) rfl
  obtain ⟨d16, F16⟩ := c.def_ 16 (d := dG "ends" 28) rfl
  obtain ⟨d17, F17⟩ := c.def_ 17 (d := dG "hops" 29) rfl
  obtain ⟨d18, F18⟩ := c.def_ 18 (d := dG "is_cut" 30) rfl
  obtain ⟨d19, F19⟩ := c.def_ 19 (d := dG "_law_pool" 32) rfl
  obtain ⟨d20, F20⟩ := c.def_ 20 (d := dG "_law_draw" 33) rfl
  obtain ⟨d21, F21⟩ := c.def_ 21 (d := dG "_law_order" 34) rfl
  obtain ⟨d22, F22⟩ := c.def_ 22 (d := dG "_law_planted" 35) rfl
  obtain ⟨d23, F23⟩ := c.def_ 23 (d := dG "_law_add" 36) rfl
  obtain ⟨d24, F24⟩ := c.def_ 24 (d := dG "_law_lists" 37) rfl
  obtain ⟨d25, F25⟩ := c.def_ 25 (d := dG "_law_same" 38) rfl
  obtain ⟨d26, F26⟩ := c.def_ 26 (d := dG "_law_changed" 39) rfl
  obtain ⟨d27, F27⟩ := c.def_ 27 (d := dG "_law_is" 40) rfl
  obtain ⟨d28, F28⟩ := c.def_ 28 (d := dG "law" 41) rfl
  obtain ⟨d29, F29⟩ := c.def_ 29 (d := dM "Wishes" "__init__" "Wishes.__init__" 21 0) rfl
  obtain ⟨d30, F30⟩ := c.def_ 30 (d := dM "Wishes" "ways" "Wishes.ways" 21 2) rfl
  obtain ⟨d31, F31⟩ := c.def_ 31 (d := dM "Wishes" "lines" "Wishes.lines" 21 3) rfl
  obtain ⟨d32, F32⟩ := c.def_ 32 (d := dM "Wishes" "struck" "Wishes.struck" 21 4) rfl
  obtain ⟨d33, F33⟩ := c.def_ 33 (d := dM "Wishes" "failed" "Wishes.failed" 21 5) rfl
  obtain ⟨d34, F34⟩ := c.def_ 34 (d := dM "Wishes" "_without" "Wishes._without" 21 6) rfl
  obtain ⟨d35, F35⟩ := c.def_ 35 (d := dM "Wishes" "__eq__" "Wishes.__eq__" 21 1) rfl
  obtain ⟨d36, F36⟩ := c.def_ 36 (d := dM "NoRouter" "__init__" "NoRouter.__init__" 2 0) rfl
  obtain ⟨d37, F37⟩ := c.def_ 37 (d := dM "BadWishes" "__init__" "BadWishes.__init__" 3 0) rfl
  have e := hfa.symm.trans (He.glo_ok X G (c.fact 28 (f := .glo "law") rfl))
  cases e
  have bL := FunD.bindsA (ps := ["_law_script"]) F28 fun _ _ _ _ _ _ us hl => match us, hl with | [_], _ => rfl
  have B : Bl mg := ⟨He.free_ok X G (c.fact 29 rfl), He.free_ok X G (c.fact 30 rfl), He.free_ok X G (c.fact 31 rfl), He.free_ok X G (c.fact 32 rfl), He.free_ok X G (c.fact 33 rfl), He.free_ok X G (c.fact 34 rfl), He.free_ok X G (c.fact 35 rfl), He.free_ok X G (c.fact 36 rfl), He.free_ok X G (c.fact 37 rfl), He.free_ok X G (c.fact 38 rfl), He.free_ok X G (c.fact 39 rfl), He.free_ok X G (c.fact 40 rfl), He.free_ok X G (c.fact 41 rfl), He.free_ok X G (c.fact 42 rfl)⟩
  have hso : mg "sorted" = none := He.free_ok X G (c.fact 43 (f := .free "sorted") rfl)
  have han : mg "any" = none := He.free_ok X G (c.fact 44 (f := .free "any") rfl)
  obtain ⟨t8, m8⟩ := He.int_ok X G (c.fact 45 (f := .int "MOST_ROUTERS" 8) rfl)
  obtain ⟨t6, m6⟩ := He.int_ok X G (c.fact 46 (f := .int "MOST_WAYS" 6) rfl)
  obtain ⟨t2, m2⟩ := He.int_ok X G (c.fact 47 (f := .int "LEAST_ROUTERS" 2) rfl)
  obtain ⟨x1, cx⟩ := He.ba cx
  obtain ⟨x2, cx⟩ := He.ba cx
  obtain ⟨x3, cx⟩ := He.ba cx
  obtain ⟨x4, cx⟩ := He.ba cx
  obtain ⟨x5, x6⟩ := He.ba cx
  have TX : WTx K mg (He.ga K "Wishes") := ⟨He.cls_ok (c.fact 49 (f := .cls "Wishes") rfl), He.noat_ok (c.fact 57 (f := .noat "Wishes" "size") rfl), He.noat_ok (c.fact 58 (f := .noat "Wishes" "_lists") rfl), He.glo_ok X G (c.fact 48 (f := .glo "Wishes") rfl)⟩
  obtain ⟨oN, xN⟩ := exB_ok x1
  obtain ⟨oB, xB⟩ := exB_ok x2
  have IT := insB_ok TX.cl x3
  have ME := insO_ok x4
  have EW := errB_ok (x := "BadWays") x5 (He.glo_ok X G (c.fact 61 (f := .glo "BadWays") rfl))
  have EL := errB_ok (x := "BadLinks") x6 (He.glo_ok X G (c.fact 62 (f := .glo "BadLinks") rfl))
  have tW := He.exm_ok (c.fact 65 (f := .exm "BadWays" "BadWays" true) rfl)
  have tL := He.exm_ok (c.fact 66 (f := .exm "BadLinks" "BadLinks" true) rfl)
  have nN : PySem.W.findIn K (.ref (He.ga K "NoRouter")) "router" = some none := He.noat_ok (c.fact 67 (f := .noat "NoRouter" "router") rfl)
  have nB : PySem.W.findIn K (.ref (He.ga K "BadWishes")) "router" = some none := He.noat_ok (c.fact 68 (f := .noat "BadWishes" "router") rfl)
  have iN := He.meth_ok (c.fact 69 (f := .meth "NoRouter" "__init__") rfl)
  have iB := He.meth_ok (c.fact 70 (f := .meth "BadWishes" "__init__") rfl)
  refine ⟨d28, fun t u => bL t [u] rfl, fun base _ _ => ?_⟩
  have C0 : Cal P w K mg base "is_integer" ["thing"] 1 spIsInt := calOf F0 (ok_isInt B F0) (He.glo_ok X G (c.fact 0 rfl)) (F0.bindsN fun _ _ _ _ _ _ us hl => match us, hl with | [_], _ => rfl)
  have C1 : Cal P w K mg base "is_between" ["least", "most", "thing"] 2 spBetween := calOf F1 (ok_between B C0 F1) (He.glo_ok X G (c.fact 1 rfl)) (F1.bindsN fun _ _ _ _ _ _ us hl => match us, hl with | [_, _, _], _ => rfl)
  have C2 : Cal P w K mg base "is_router" ["size", "thing"] 3 spRouter := calOf F5 (ok_router C1 F5) (He.glo_ok X G (c.fact 5 rfl)) (F5.bindsN fun _ _ _ _ _ _ us hl => match us, hl with | [_, _], _ => rfl)
  have CS : Cal P w K mg base "is_size" ["least", "thing"] 3 spSize := calOf F7 (ok_size m8 C1 F7) (He.glo_ok X G (c.fact 7 rfl)) (F7.bindsN fun _ _ _ _ _ _ us hl => match us, hl with | [_, _], _ => rfl)
  have C3 : Cal P w K mg base "is_way" ["size", "router", "thing"] 5 spWay := calOf F9 (ok_way B m8 C2 F9) (He.glo_ok X G (c.fact 9 rfl)) (F9.bindsN fun _ _ _ _ _ _ us hl => match us, hl with | [_, _, _], _ => rfl)
  have C5 : Cal P w K mg base "is_way_list" ["size", "router", "thing"] 6 spRow := calOf F11 (ok_row B m6 C3 F11) (He.glo_ok X G (c.fact 11 rfl)) (F11.bindsN fun _ _ _ _ _ _ us hl => match us, hl with | [_, _, _], _ => rfl)
  have C6 : Cal P w K mg base "has_let_rest" ["lists", "way"] 1 spRest := calOf F12 (ok_rest F12) (He.glo_ok X G (c.fact 12 rfl)) (F12.bindsN fun _ _ _ _ _ _ us hl => match us, hl with | [_, _], _ => rfl)
  have EN : Err P w K mg base "NoRouter" (He.ga K "NoRouter") := ⟨He.glo_ok X G (c.fact 60 (f := .glo "NoRouter") rfl), oN, xN, nN, He.exm_ok (c.fact 64 (f := .exm "NoRouter" "NoRouter" true) rfl), ⟨_, d36, iN.at_, beq_iff_eq.mp iN.fn, ok_xn oN nN F36, F36.bindsN fun _ _ _ _ _ _ us hl => match us, hl with | [_, _], _ => rfl⟩⟩
  have EB : Err P w K mg base "BadWishes" (He.ga K "BadWishes") := ⟨He.glo_ok X G (c.fact 59 (f := .glo "BadWishes") rfl), oB, xB, nB, He.exm_ok (c.fact 63 (f := .exm "BadWishes" "BadWishes" true) rfl), ⟨_, d37, iB.at_, beq_iff_eq.mp iB.fn, ok_xb oB nB F37, F37.bindsN fun _ _ _ _ _ _ us hl => match us, hl with | [_, _], _ => rfl⟩⟩
  have CR : CalX P w K mg base "refuse_no_router" ["size", "thing"] 4 (spNoRt (He.ga K "NoRouter")) := ⟨⟨_, d6, ok_noRt EN C2 F6, He.glo_ok X G (c.fact 6 rfl), F6.kp, (F6.bindsN fun _ _ _ _ _ _ us hl => match us, hl with | [_, _], _ => rfl)⟩⟩
  have C4 : CalX P w K mg base "refuse_wrong_lists" ["lists"] 7 (spRefuse (He.ga K "BadWishes")) := ⟨⟨_, d10, ok_refuse B m2 CS EB C5 C6 F10, He.glo_ok X G (c.fact 10 rfl), F10.kp, (F10.bindsN fun _ _ _ _ _ _ us hl => match us, hl with | [_], _ => rfl)⟩⟩
  have MW : MkW P w K mg base (He.ga K "Wishes") (He.ga K "BadWishes") := ⟨TX, ⟨_, d29, He.mkr_ok (c.fact 50 (f := .mkr "Wishes") rfl), ok_wi B TX C4 F29, F29.bindsN fun _ _ _ _ _ _ us hl => match us, hl with | [_, _], _ => rfl⟩⟩
  have WC1 : WC P w K mg base (He.ga K "Wishes") (He.ga K "NoRouter") := ⟨TX, IT, ⟨_, d30, He.meth_ok (c.fact 51 (f := .meth "Wishes" "ways") rfl), ok_ways TX CR F30, F30.bindsN fun _ _ _ _ _ _ us hl => match us, hl with | [_, _], _ => rfl⟩⟩
  have P1 : Cal P w K mg base "is_tuple_of" ["many", "thing"] 1 (spTupOf (He.ga K "Wishes")) := calOf F3 (ok_tupOf B IT F3) (He.glo_ok X G (c.fact 3 rfl)) (F3.bindsN fun _ _ _ _ _ _ us hl => match us, hl with | [_, _], _ => rfl)
  have P2 : Cal P w K mg base "is_integer_tuple" ["thing"] 2 spIntTup := calOf F4 (ok_intTup B C0 F4) (He.glo_ok X G (c.fact 4 rfl)) (F4.bindsN fun _ _ _ _ _ _ us hl => match us, hl with | [_], _ => rfl)
  have P3 : Cal P w K mg base "is_row" ["thing"] 1 spIsRow := calOf F2 (ok_isRow B F2) (He.glo_ok X G (c.fact 2 rfl)) (F2.bindsN fun _ _ _ _ _ _ us hl => match us, hl with | [_], _ => rfl)
  have P4 : Cal P w K mg base "is_router_pair" ["size", "thing"] 5 spPair := calOf F8 (ok_pair P1 C2 F8) (He.glo_ok X G (c.fact 8 rfl)) (F8.bindsN fun _ _ _ _ _ _ us hl => match us, hl with | [_, _], _ => rfl)
  have P5 : Cal P w K mg base "let_ways" ["wishes"] 6 (spLetWays (He.ga K "Wishes")) := calOf F13 (ok_letWays B WC1 F13) (He.glo_ok X G (c.fact 13 rfl)) (F13.bindsN fun _ _ _ _ _ _ us hl => match us, hl with | [_], _ => rfl)
  have P6 : Cal P w K mg base "is_let_way" ["wishes", "thing"] 6 (spLetWay (He.ga K "Wishes")) := calOf F14 (ok_letWay B WC1 P2 C2 F14) (He.glo_ok X G (c.fact 14 rfl)) (F14.bindsN fun _ _ _ _ _ _ us hl => match us, hl with | [_, _], _ => rfl)
  have P7 : Cal P w K mg base "is_row_of_unlike_ways" ["wishes", "thing"] 7 (spRowW (He.ga K "Wishes")) := calOf F15 (ok_rowW B P3 P6 F15) (He.glo_ok X G (c.fact 15 rfl)) (F15.bindsN fun _ _ _ _ _ _ us hl => match us, hl with | [_, _], _ => rfl)
  have P8 : Cal P w K mg base "ends" ["way"] 1 (spEnds endsW) := calOf F16 (ok_ends B F16) (He.glo_ok X G (c.fact 16 rfl)) (F16.bindsN fun _ _ _ _ _ _ us hl => match us, hl with | [_], _ => rfl)
  have P9 : Cal P w K mg base "hops" ["way"] 1 (spEnds hopsW) := calOf F17 (ok_hops B F17) (He.glo_ok X G (c.fact 17 rfl)) (F17.bindsN fun _ _ _ _ _ _ us hl => match us, hl with | [_], _ => rfl)
  have P10 : Cal P w K mg base "is_cut" ["cut", "link"] 1 spCut := calOf F18 (ok_cut F18) (He.glo_ok X G (c.fact 18 rfl)) (F18.bindsN fun _ _ _ _ _ _ us hl => match us, hl with | [_, _], _ => rfl)
  have ML : MlW P w K mg base (He.ga K "Wishes") := ⟨TX, ⟨_, d31, He.meth_ok (c.fact 52 (f := .meth "Wishes" "lines") rfl), ok_lines B hso P5 F31, F31.bindsN fun _ _ _ _ _ _ us hl => match us, hl with | [_], _ => rfl⟩⟩
  have MV : MwW P w K mg base (He.ga K "Wishes") := ⟨TX, ⟨_, d34, He.meth_ok (c.fact 55 (f := .meth "Wishes" "_without") rfl), ok_without B MW F34, F34.bindsN fun _ _ _ _ _ _ us hl => match us, hl with | [_, _], _ => rfl⟩⟩
  have MS : MmW P w K mg base (He.ga K "Wishes") "struck" "ways" (spStruck (He.ga K "Wishes") (He.ga K "BadWays")) := ⟨TX, ⟨_, d32, He.meth_ok (c.fact 53 (f := .meth "Wishes" "struck") rfl), ok_struck B han EW P7 P5 P8 MV F32, F32.bindsN fun _ _ _ _ _ _ us hl => match us, hl with | [_, _], _ => rfl⟩⟩
  have MF : MmW P w K mg base (He.ga K "Wishes") "failed" "links" (spFailed (He.ga K "Wishes") (He.ga K "BadLinks")) := ⟨TX, ⟨_, d33, He.meth_ok (c.fact 54 (f := .meth "Wishes" "failed") rfl), ok_failed B han EL P3 P4 P5 P9 P10 MV F33, F33.bindsN fun _ _ _ _ _ _ us hl => match us, hl with | [_, _], _ => rfl⟩⟩
  have D7 : Cal P w K mg base "_law_pool" ["_law_script"] 1 (spPool K) := calOf F19 (ok_pool B F19) (He.glo_ok X G (c.fact 19 rfl)) (F19.bindsN fun _ _ _ _ _ _ us hl => match us, hl with | [_], _ => rfl)
  have D8 : Cal P w K mg base "_law_draw" ["_law_pool_here", "_law_size"] 1 spDraw := calOf F20 (ok_draw B F20) (He.glo_ok X G (c.fact 20 rfl)) (F20.bindsN fun _ _ _ _ _ _ us hl => match us, hl with | [_, _], _ => rfl)
  have D9 : Cal P w K mg base "_law_order" ["_law_pool_here", "_law_size"] 2 spOrder := calOf F21 (ok_order B D8 F21) (He.glo_ok X G (c.fact 21 rfl)) (F21.bindsN fun _ _ _ _ _ _ us hl => match us, hl with | [_, _], _ => rfl)
  have D10 : Cal P w K mg base "_law_planted" ["_law_pool_here", "_law_size"] 3 spPlanted := calOf F22 (ok_planted B D8 D9 F22) (He.glo_ok X G (c.fact 22 rfl)) (F22.bindsN fun _ _ _ _ _ _ us hl => match us, hl with | [_, _], _ => rfl)
  have D11 : Cal P w K mg base "_law_add" ["_law_pool_here", "_law_lists_here", "_law_limit", "_law_cap"] 2 spAdd := calOf F23 (ok_add B D8 F23) (He.glo_ok X G (c.fact 23 rfl)) (F23.bindsN fun _ _ _ _ _ _ us hl => match us, hl with | [_, _, _, _], _ => rfl)
  have D12 : Cal P w K mg base "_law_lists" ["_law_pool_here", "_law_most", "_law_limit", "_law_cap"] 5 spLists := calOf F24 (ok_lists B D8 D10 D11 F24) (He.glo_ok X G (c.fact 24 rfl)) (F24.bindsN fun _ _ _ _ _ _ us hl => match us, hl with | [_, _, _, _], _ => rfl)
  have D13 : Cal P w K mg base "_law_same" ["_law_actual", "_law_expected"] 3 (spSamq 2) := calOf F25 (samq_all B F25 (He.glo_ok X G (c.fact 25 rfl)) 2) (He.glo_ok X G (c.fact 25 rfl)) (F25.bindsN fun _ _ _ _ _ _ us hl => match us, hl with | [_, _], _ => rfl)
  have L1 : Cal P w K mg base "_law_changed" ["_law_pool_here", "_law_lists_here"] 2 spChanged := calOf F26 (ok_changed B D8 F26) (He.glo_ok X G (c.fact 26 rfl)) (F26.bindsN fun _ _ _ _ _ _ us hl => match us, hl with | [_, _], _ => rfl)
  have L2 : Cal P w K mg base "_law_is" ["_law_wishes", "_law_lists_here"] 8 (spLIs (He.ga K "Wishes")) := calOf F27 (ok_lIs B WC1 D13 F27) (He.glo_ok X G (c.fact 27 rfl)) (F27.bindsN fun _ _ _ _ _ _ us hl => match us, hl with | [_, _], _ => rfl)
  have MQ : MqW P w K mg base (He.ga K "Wishes") := ⟨⟨_, d35, He.meth_ok (c.fact 56 (f := .meth "Wishes" "__eq__") rfl), ok_weq B TX IT ME F35, F35.bindsN fun _ _ _ _ _ _ us hl => match us, hl with | [_, _], _ => rfl⟩⟩
  exact ok_law (CB := He.ga K "BadWishes") (CL := He.ga K "BadLinks") (CV := He.ga K "BadWays") B ⟨D7, D8, D12, L1, D13, L2, MW, ⟨TX, ML.ex⟩, ⟨TX, MS.ex⟩, ⟨TX, MF.ex⟩, MQ⟩ F28
end Wk
open PySem PySem.W PySem.Calls PyProof.Rows
set_option maxHeartbeats 0
theorem PySem.Challenge.cw_wishreels_k02_equal_and_kept_holds : PySem.Challenge.rw_wishreels_k02_equal_and_kept.Holds := by
  w_on; o_law
  refine HandSHeadRun.head_any (r := Wk.R) (q := view Wk.R.prog [41]) (H := Wk.hk) (ob := Wk.ob) (M := 7000) (loose := Wk.loose) (d := HandSHeadRun.topDef Wk.R.prog 41) (kwd := []) Wk.ob_eq
    (by kernel_rfl) (fun s => by kernel_rfl) Wk.run (by kernel_rfl) (by kernel_rfl) (by kernel_rfl) (by rfl) (by first | assumption | decide +kernel) (by decide +kernel) ⟨rfl, rfl, rfl, rfl, rfl, by decide +kernel⟩ ?hw ?hc
  case hw => w_witness2
  case hc =>
    refine L2.walk_ofE (l := PySem.Challenge.rw_wishreels_k02_equal_and_kept) (n := 63) (k := 12) (x := "_law_script") (CX := L2.CX0) rfl (by decide) (by kernel_rfl) ⟨rfl, by decide, by decide⟩ ?F (fun _ _ _ _ z => z)
    intro w mg fa h Y G hmg0
    obtain ⟨K, kx, c, cx⟩ := Y
    have hmg : mg ("law" : PySem.Str) = some (.ref fa) := by
      have e : (HandSHeadRun.topDef Wk.R.prog 41).name = ("law" : PySem.Str) := by kernel_rfl
      rw [← e]
      exact hmg0
    obtain ⟨fd, hb, hF⟩ := Wk.facts (P := (PySem.Challenge.rw_wishreels_k02_equal_and_kept).prog) (w := w) kx G hmg c cx
    exact ⟨K, fd, Wk.spLaw K, kx, hb, fun H a ns hl _ hS => ⟨a, ns, rfl, hS, hl, fun _ => rfl⟩, hF⟩

import PyProof.Rows.All
import Wide.All
import OpenK.AllK
import Wide.FinOn
import HandS.ForMost
import HandS.Wide
import HandS.TupAny
import HandS.TupMul
import HandS.Style
import HandS.Conv
import HandS.Codes
import HandS.Exc
import HandS.TryOnly
import HandS.ExcOwn
import HandS.WordsExc
import HandS.Deep
import HandS.ExcIs
import KE.GoesEnum
import KE.GoesEnumKw
import HandS.Walk
import HandS.SortKw
import HandS.ExcInit
import HandS.ExcField
import HandS.IsInst
import HandS.Zip
import HandS.TryMany
import PyProof.ReprRoads
import PyProof.ReprLen
import PyProof.FitsInt
import PySem.Challenge.RW_digitsturn_k15_readings_of_versions
set_option Elab.async false
set_option linter.all false
set_option maxRecDepth 100000
namespace Dg
open PySem PySem.Spec PyProof.Rows L2

local macro_rules | `(tactic| walk_at "rd1") => `(tactic| first | refine ⟨_, rfl, ?_⟩ | refine ⟨_, _, rfl, rfl, ?_⟩)
local macro_rules | `(tactic| walk_at "rd") => `(tactic| repeat walk_at "rd1")
structure Cal (P : Program) (w : World) (K : PySem.W.Frag) (mg : Str → Option Value) (base : Heap) (CX : CXT) (k : Nat) (x : Str) (ps : List Str) (sp : Sp) : Prop where
  ex : ∃ (f : Addr) (fd : FuncData), FnOk P w K mg base CX k f fd ps sp ∧ mg x = some (.ref f) ∧ PySem.W.keepIn K (.ref f) = true ∧ Binds K fd ps []
section
variable {X : Cx} {CX : CXT} {k : Nat} {x : Str} {ps : List Str} {sp : Sp} {E : XK} {e : Expr} {es : List Expr} {t : TA} {p pos : Pos}
theorem pe_cal (C : Cal X.prog X.w X.K X.mg X.base CX k x ps sp) (hr : Room k X.A) (hg : Gl X x) (hx : Passes CX X E)
    (ha : PA X (e :: es) t) (hdb : (x == ("__debug__" : Str)) = false := by decide) (he : starEach (e :: es) X.env = (false, eval e X.env) :: starEach es X.env := by rfl) (hpl : (backTo pos (starEach es X.env)).any (·.1) = false := by rfl) :
    PE X (.Call (.Name x p) (e :: es) [] pos) (tCall sp [] E t) := by
  obtain ⟨f, fd, F, hm, hk, hb⟩ := C.ex
  exact pe_call F hr hg hm hk hb .nil hx ha hdb he hpl
theorem pe_cal0 (C : Cal X.prog X.w X.K X.mg X.base CX k x ps sp) (hr : Room k X.A) (hg : Gl X x) (hx : Passes CX X E) (hdb : (x == ("__debug__" : Str)) = false := by decide) :
    PE X (.Call (.Name x p) [] [] pos) (tCall sp [] E tNil) := by
  obtain ⟨f, fd, F, hm, hk, hb⟩ := C.ex
  exact pe_call0 F hr hg hm hk hb .nil hx hdb
end

structure Bi (mg : Str → Option Value) : Prop where
  b_abs : mg "abs" = none
  b_all : mg "all" = none
  b_dict : mg "dict" = none
  b_enumerate : mg "enumerate" = none
  b_int : mg "int" = none
  b_isinstance : mg "isinstance" = none
  b_len : mg "len" = none
  b_list : mg "list" = none
  b_max : mg "max" = none
  b_min : mg "min" = none
  b_range : mg "range" = none
  b_repr : mg "repr" = none
  b_sorted : mg "sorted" = none
  b_str : mg "str" = none
  b_sum : mg "sum" = none
  b_tuple : mg "tuple" = none
  b_zip : mg "zip" = none
  b_ValueError : mg "ValueError" = none

def SameB (p : Addr) (H H' : Hp) : Prop := ∀ b o, H b = some o → b ≠ p → H' b = some o
theorem SameB.refl (p : Addr) (H : Hp) : SameB p H H := fun _ _ h _ => h
theorem SameB.trans {p : Addr} {H H1 H2 : Hp} (a : SameB p H H1) (b : SameB p H1 H2) : SameB p H H2 := fun c o h n => b c o (a c o h n) n
theorem SameB.of {p : Addr} {H H' : Hp} (e : Same H H') : SameB p H H' := fun b o h _ => e b o h
theorem same_new {H : Hp} {p : Addr} {o : HO} (h : H p = none) : Same H (upd H p o) := fun b u e => by
  rw [upd_ne (ne_of_none e h)]
  exact e

theorem dp_ints {K : PySem.W.Frag} {H : Hp} : ∀ ns : List Int, DpAll K H (ns.map V.int) (ns.map .int)
  | [] => .nil
  | n :: r => .cons (.int n) (dp_ints r)
def okD (n : Nat) (d : PyData) : Prop := d.canLay0 = true ∧ d.depth ≤ n
theorem okD_shaped {n : Nat} {d : PyData} (h : okD n d) (hn : n ≤ 64) : SeqAt.shaped d = true := by
  unfold SeqAt.shaped
  rw [h.1, decide_eq_true (Nat.le_trans h.2 hn)]
  rfl
theorem okD_int (n : Nat) (i : Int) : okD n (.int i) := ⟨rfl, by simp [PyData.depth]⟩
theorem okD_none (n : Nat) : okD n .none := ⟨rfl, by simp [PyData.depth]⟩
theorem okD_str {n : Nat} {x : Str} (h : x.cps.all (· < 0x110000) = true) : okD n (.str x) := ⟨by
  simp only [PyData.canLay0, PyData.strOk]
  exact h, by simp [PyData.depth]⟩
theorem okD_all {n : Nat} : ∀ {ds : List PyData}, (∀ d ∈ ds, okD n d) → PyData.canLayAll0 ds = true ∧ PyData.depthAll ds ≤ n
  | [], _ => ⟨rfl, by simp [PyData.depthAll]⟩
  | d :: r, h => by
    obtain ⟨h1, h2⟩ := h d List.mem_cons_self
    obtain ⟨r1, r2⟩ := okD_all (ds := r) fun e he => h e (List.mem_cons_of_mem _ he)
    exact ⟨by simp only [PyData.canLayAll0, h1, r1]; rfl, by simp only [PyData.depthAll]; omega⟩
theorem okD_list {n : Nat} {ds : List PyData} (h : ∀ d ∈ ds, okD n d) : okD (n + 1) (.list ds) := by
  obtain ⟨h1, h2⟩ := okD_all h
  exact ⟨by simp only [PyData.canLay0]; exact h1, by simp only [PyData.depth]; omega⟩
theorem okD_tuple {n : Nat} {ds : List PyData} (h : ∀ d ∈ ds, okD n d) : okD (n + 1) (.tuple ds) := by
  obtain ⟨h1, h2⟩ := okD_all h
  exact ⟨by simp only [PyData.canLay0]; exact h1, by simp only [PyData.depth]; omega⟩
theorem okD_ints (n : Nat) (ns : List Int) : ∀ d ∈ ns.map PyData.int, okD n d := fun d hd => by
  obtain ⟨i, _, rfl⟩ := List.mem_map.mp hd
  exact okD_int n i
theorem shaped_ints (ns : List Int) : SeqAt.shaped (.list (ns.map .int)) = true := okD_shaped (okD_list (okD_ints 0 ns)) (by decide)
theorem shaped_tints (ns : List Int) : SeqAt.shaped (.tuple (ns.map .int)) = true := okD_shaped (okD_tuple (okD_ints 0 ns)) (by decide)
theorem eqv_nil {ds : List PyData} : PyData.eqv (.list ds) (.list []) = ds.isEmpty := by
  cases ds with
  | nil => simp only [PyData.eqv, PyData.eqvAll]; rfl
  | cons d r => simp only [PyData.eqv, PyData.eqvAll]; rfl
def penL (c : Addr) (t l : Int) : List (Key × V) := [(.inr "cells", .ref c), (.inr "turn", .int t), (.inr "left", .int l)]
theorem kct : ¬ (Sum.inr ("cells" : Str) : Key) = Sum.inr ("turn" : Str) := by decide +kernel
theorem kcl : ¬ (Sum.inr ("cells" : Str) : Key) = Sum.inr ("left" : Str) := by decide +kernel
theorem ktl : ¬ (Sum.inr ("turn" : Str) : Key) = Sum.inr ("left" : Str) := by decide +kernel
theorem klt : ¬ (Sum.inr ("left" : Str) : Key) = Sum.inr ("turn" : Str) := by decide +kernel
theorem sct : ¬ ("cells" : Str) = ("turn" : Str) := by decide +kernel
theorem scl : ¬ ("cells" : Str) = ("left" : Str) := by decide +kernel
theorem stl : ¬ ("turn" : Str) = ("left" : Str) := by decide +kernel
theorem slt : ¬ ("left" : Str) = ("turn" : Str) := by decide +kernel
theorem pen_cells (c : Addr) (t l : Int) : valV (penL c t l) (Sum.inr ("cells" : Str) : Key) = some (.ref c) := by
  unfold penL
  rw [valV_pos rfl]
theorem pen_turn (c : Addr) (t l : Int) : valV (penL c t l) (Sum.inr ("turn" : Str) : Key) = some (.int t) := by
  unfold penL
  rw [valV_neg kct, valV_pos rfl]
theorem pen_left (c : Addr) (t l : Int) : valV (penL c t l) (Sum.inr ("left" : Str) : Key) = some (.int l) := by
  unfold penL
  rw [valV_neg kcl, valV_neg ktl, valV_pos rfl]
theorem pen_put_turn (c : Addr) (t l u : Int) : putK (penL c t l) (Sum.inr ("turn" : Str) : Key) (.int u) = penL c u l := by
  unfold penL putK
  simp [sct, slt]
theorem pen_put_left (c : Addr) (t l u : Int) : putK (penL c t l) (Sum.inr ("left" : Str) : Key) (.int u) = penL c t u := by
  unfold penL putK
  simp [scl, stl]
structure PenAt (H : Hp) (p c : Addr) (ns : List Int) (t l : Int) (b : Int) : Prop where
  ob : H p = some (.dK (penL c t l))
  cs : H c = some (.lst (ns.map V.int))
  t0 : 0 ≤ t
  tb : t ≤ b
  l0 : 0 ≤ l
  n63 : ns.length ≤ 63
def Pen (H : Hp) (p c : Addr) (b : Int) : Prop := ∃ ns t l, PenAt H p c ns t l b
theorem PenAt.get_cells {H : Hp} {p c : Addr} {ns : List Int} {t l b : Int} (h : PenAt H p c ns t l b) : DGet H p (.str "cells") (some (.ref c)) := by
  have e := DGet.k (k := Sum.inr ("cells" : Str)) h.ob
  rw [pen_cells] at e
  exact e
theorem PenAt.get_turn {H : Hp} {p c : Addr} {ns : List Int} {t l b : Int} (h : PenAt H p c ns t l b) : DGet H p (.str "turn") (some (.int t)) := by
  have e := DGet.k (k := Sum.inr ("turn" : Str)) h.ob
  rw [pen_turn] at e
  exact e
theorem PenAt.get_left {H : Hp} {p c : Addr} {ns : List Int} {t l b : Int} (h : PenAt H p c ns t l b) : DGet H p (.str "left") (some (.int l)) := by
  have e := DGet.k (k := Sum.inr ("left" : Str)) h.ob
  rw [pen_left] at e
  exact e
theorem PenAt.put_turn {H : Hp} {p c : Addr} {ns : List Int} {t l b : Int} (h : PenAt H p c ns t l b) (u : Int) : DPut H p (.str "turn") (.int u) (upd H p (.dK (penL c u l))) := by
  have e := DPut.k (k := Sum.inr ("turn" : Str)) (v := .int u) h.ob (by show 3 < sizeLine; decide)
  rw [pen_put_turn] at e
  exact e
theorem PenAt.put_left {H : Hp} {p c : Addr} {ns : List Int} {t l b : Int} (h : PenAt H p c ns t l b) (u : Int) : DPut H p (.str "left") (.int u) (upd H p (.dK (penL c t u))) := by
  have e := DPut.k (k := Sum.inr ("left" : Str)) (v := .int u) h.ob (by show 3 < sizeLine; decide)
  rw [pen_put_left] at e
  exact e
theorem PenAt.ne {H : Hp} {p c : Addr} {ns : List Int} {t l b : Int} (h : PenAt H p c ns t l b) : c ≠ p := ne_of h.cs h.ob (by intro z; cases z)
theorem PenAt.upd {H : Hp} {p c : Addr} {ns : List Int} {t l b u v b' : Int} (h : PenAt H p c ns t l b) (hu : 0 ≤ u) (hb : u ≤ b') (hv : 0 ≤ v) : PenAt (upd H p (.dK (penL c u v))) p c ns u v b' :=
  ⟨upd_same, by rw [upd_ne h.ne]; exact h.cs, hu, hb, hv, h.n63⟩
theorem PenAt.same {H H' : Hp} {p c : Addr} {ns : List Int} {t l b : Int} (h : PenAt H p c ns t l b) (e : Same H H') : PenAt H' p c ns t l b :=
  ⟨e _ _ h.ob, e _ _ h.cs, h.t0, h.tb, h.l0, h.n63⟩
theorem Pen.same {H H' : Hp} {p c : Addr} {b : Int} (h : Pen H p c b) (e : Same H H') : Pen H' p c b := by
  obtain ⟨ns, t, l, h⟩ := h
  exact ⟨ns, t, l, h.same e⟩
theorem Pen.mono {H : Hp} {p c : Addr} {b b' : Int} (h : Pen H p c b) (e : b ≤ b') : Pen H p c b' := by
  obtain ⟨ns, t, l, h⟩ := h
  exact ⟨ns, t, l, h.ob, h.cs, h.t0, Int.le_trans h.tb e, h.l0, h.n63⟩
theorem sameB_upd {H : Hp} {p : Addr} {o : HO} : SameB p H (L2.upd H p o) := fun b u h n => by
  rw [upd_ne n]
  exact h
def spDraw : Sp := fun vs H Q _ => ∃ (p c : Addr) (n b : Int), vs = [.ref p, .int n] ∧ Pen H p c b ∧ 0 < n ∧ n < 2 ^ 300 ∧ b < 2 ^ 60 ∧
  ∀ (r : Int) (H' : Hp), 0 ≤ r → r < n → Pen H' p c (b + 1) → SameB p H H' → Q (.int r) H'
end Dg
namespace Dg
open PySem PySem.Spec PyProof.Rows L2
def Sq (K : PySem.W.Frag) (H : Hp) (a : Addr) (xs : List V) : Prop := SqL K H a xs ∨ SqT K H a xs
theorem sqL {K : PySem.W.Frag} {H : Hp} {a : Addr} {xs : List V} (h : H a = some (.lst xs)) : SqL K H a xs := .inl (.inl h)
theorem sqT {K : PySem.W.Frag} {H : Hp} {a : Addr} {xs : List V} (h : H a = some (.tup xs)) : SqT K H a xs := .inl (.inl h)
theorem same_t {K : PySem.W.Frag} {H H' : Hp} {a : Addr} {xs : List V} (e : Same H H') (h : SqT K H a xs) : SqT K H' a xs := by
  rcases h with (h | ⟨o, h⟩) | h
  · exact .inl (.inl (e _ _ h))
  · exact .inl (.inr ⟨o, e _ _ h⟩)
  · exact .inr h
theorem Sq.same {K : PySem.W.Frag} {H H' : Hp} {a : Addr} {xs : List V} (h : Sq K H a xs) (e : Same H H') : Sq K H' a xs := by
  rcases h with h | h
  · exact .inl (e.seq h)
  · exact .inr (same_t e h)
def rIxA (K : PySem.W.Frag) : R2 := fun x y H Q => ∃ p xs i v, x = .ref p ∧ y = .int i ∧ Sq K H p xs ∧ atI xs i = some v ∧ Q v H
theorem ix_any {X : Cx} : IxR X (rIxA X.K) := by
  intro value slice pins s σ H x y v u Q I rx ry q hs
  obtain ⟨p, xs, i, w, h1, h2, h3, h4, h5⟩ := q
  refine ix_seq value slice pins s σ H x y v u Q I rx ry ?_ hs
  rcases h3 with h3 | h3
  · exact .inl ⟨p, xs, i, w, h1, h2, h3, h4, h5⟩
  · exact .inr (.inl ⟨p, xs, i, w, h1, h2, h3, h4, h5⟩)
theorem at_int {ns : List Int} {i : Int} {j : Nat} (e : i = (j : Int)) (h : j < ns.length) : atI (ns.map V.int) i = some (.int (ns.getD j 0)) := by
  refine at_of e ?_
  rw [List.getElem?_map, List.getElem?_eq_getElem h, List.getD_eq_getElem?_getD, List.getElem?_eq_getElem h]
  rfl
theorem pmk_own0 {X : Cx} {C : Addr} {bmB : List Value} {B newId initId : String} {x : Str} {p pos : Pos} (F : ExcBaseFacts B newId initId bmB) (q : PySem.W.excIn X.K C bmB newId = true) (gC : X.mg x = some (.ref C))
    (kC : PySem.W.keepIn X.K (.ref C) = true) (r : Raises X (.ref C)) (hg : Gl X x) (hdb : (x == ("__debug__" : Str)) = false := by decide) :
    PMk X (.Call (.Name x p) [] [] pos) (fun _ H Q => Q (.ref C) none H) := by
  intro pins s σ H Q I h
  refine wpAny_Call_Name_kw (ld_glob I hg gC ?_ hdb)
  refine PySem.W.callWith_K0 I.kIn kC ?_
  show wpAny _ _ (call (.ref C) []) _ _ _
  obtain ⟨bm, N, nm, qn, bs, hdct, sn, sub, ab, col, dd, k0, k1, k2, k3, k5, mN, hC, hN, hni, T⟩ := exc_obj I.kIn q
  refine wpAny_call_exc_subT F T hC hN hni (fun h' e hm => ?_) (by decide)
  exact mk_of I hm r h (I.hok.gone hm.new)
structure Ec (K : PySem.W.Frag) (mg : Str → Option Value) (x : Str) (C : Addr) : Prop where
  gC : mg x = some (.ref C)
  xC : PySem.W.excIn K C [.type "ValueError", .type "Exception", .type "BaseException", .type "object"] "ValueError.__new__" = true
  kC : PySem.W.keepIn K (.ref C) = true
  bC : PySem.W.subIn K (.ref C) (.type "BaseException") = some true
  tC : PySem.W.typeIn K (.ref C) = some (.type "type")
  iC : PySem.W.isClsIn K C = true
  sC : PySem.W.subIn K (.ref C) (.ref C) = some true
theorem exm_self {K : PySem.W.Frag} {S : Addr} (h1 : PySem.W.subIn K (.ref S) (.type "BaseException") = some true) (h2 : PySem.W.isClsIn K S = true) (h3 : PySem.W.typeIn K (.ref S) = some (.type "type")) (h4 : PySem.W.subIn K (.ref S) (.ref S) = some true) :
    PySem.W.exmOne K (.ref S) (.ref S) = some true := by
  have e1 : (PySem.W.subIn K (.ref S) (.type "BaseException") == some true) = true := by rw [h1] <;> rfl
  have e2 : ((PySem.W.clsIn K S).isSome && PySem.W.typeIn K (.ref S) == some (.type "type")) = true := by
    have h2' : (PySem.W.clsIn K S).isSome = true := h2
    rw [h2', h3] <;> rfl
  show (if (PySem.W.subIn K (.ref S) (.type "BaseException") == some true) = true then (if ((PySem.W.clsIn K S).isSome && PySem.W.typeIn K (.ref S) == some (.type "type")) = true then PySem.W.subIn K (.ref S) (.ref S) else none) else none) = some true
  rw [if_pos e1, if_pos e2]
  exact h4
theorem Ec.te {K : PySem.W.Frag} {mg : Str → Option Value} {x : Str} {C : Addr} (c : Ec K mg x C) : PySem.W.exmOne K (.ref C) (.ref C) = some true := exm_self c.bC c.iC c.tC c.sC
end Dg
namespace Dg
open PySem PySem.Spec PyProof.Rows L2
section
variable {X : Cx} {CX : CXT} {k : Nat} {x : Str} {ps : List Str} {sp : Sp} {E : L2.St → XK} {e : Expr} {es : List Expr} {t : TA} {p pos : Pos}
theorem pe_calS (C : Cal X.prog X.w X.K X.mg X.base CX k x ps sp) (hr : Room k X.A) (hg : Gl X x) (hx : ∀ σ, PassesAt CX X σ (E σ))
    (ha : PA X (e :: es) t) (hdb : (x == ("__debug__" : Str)) = false := by decide) (he : starEach (e :: es) X.env = (false, eval e X.env) :: starEach es X.env := by rfl) (hpl : (backTo pos (starEach es X.env)).any (·.1) = false := by rfl) :
    PE X (.Call (.Name x p) (e :: es) [] pos) (tCallS sp E t) := by
  obtain ⟨f, fd, F, hm, hk, hb⟩ := C.ex
  exact pe_callS F hr hg hm hk hb hx ha hdb he hpl
end
theorem iteB {c : Bool} {A B : Prop} (h1 : c = true → A) (h2 : c = false → B) : if c = true then A else B := by
  cases c with
  | true => rw [if_pos rfl]; exact h1 rfl
  | false => rw [if_neg Bool.false_ne_true]; exact h2 rfl
end Dg
namespace Dg
open PySem PySem.Spec PyProof.Rows L2
theorem pd_length {α β : Type} {F : α → β → Prop} : ∀ {xs : List α} {ys : List β}, Paired F xs ys → xs.length = ys.length
  | _, _, .nil => rfl
  | _, _, .cons _ t => congrArg (· + 1) (pd_length t)
theorem pd_mono {α β : Type} {F G : α → β → Prop} : ∀ {xs : List α} {ys : List β}, Paired F xs ys → (∀ a b, F a b → G a b) → Paired G xs ys
  | _, _, .nil, _ => .nil
  | _, _, .cons r t, f => .cons (f _ _ r) (pd_mono t f)
theorem pd_app {α β : Type} {F : α → β → Prop} : ∀ {xs xs' : List α} {ys ys' : List β}, Paired F xs ys → Paired F xs' ys' → Paired F (xs ++ xs') (ys ++ ys')
  | _, _, _, _, .nil, h => h
  | _, _, _, _, .cons r t, h => .cons r (pd_app t h)
theorem pd_get {α β : Type} {F : α → β → Prop} : ∀ {xs : List α} {ys : List β} {i : Nat} {x : α}, Paired F xs ys → xs[i]? = some x → ∃ y, ys[i]? = some y ∧ F x y
  | _, _, _, _, .nil, e => by simp at e
  | _, _, 0, _, .cons r _, e => by
    simp at e
    subst e
    exact ⟨_, rfl, r⟩
  | _, _, i + 1, x, .cons _ t, e => by
    obtain ⟨y, h1, h2⟩ := pd_get (i := i) (x := x) t (by simpa using e)
    exact ⟨y, by simpa using h1, h2⟩
theorem pd_get' {α β : Type} {F : α → β → Prop} : ∀ {xs : List α} {ys : List β} {i : Nat} {y : β}, Paired F xs ys → ys[i]? = some y → ∃ x, xs[i]? = some x ∧ F x y
  | _, _, _, _, .nil, e => by simp at e
  | _, _, 0, _, .cons r _, e => by
    simp at e
    subst e
    exact ⟨_, rfl, r⟩
  | _, _, i + 1, y, .cons _ t, e => by
    obtain ⟨x, h1, h2⟩ := pd_get' (i := i) (y := y) t (by simpa using e)
    exact ⟨x, by simpa using h1, h2⟩
theorem pd_drop {α β : Type} {F : α → β → Prop} : ∀ {xs : List α} {ys : List β} (n : Nat), Paired F xs ys → Paired F (xs.drop n) (ys.drop n)
  | _, _, 0, r => r
  | _, _, _ + 1, .nil => .nil
  | _, _, n + 1, .cons _ t => pd_drop n t
theorem pd_take {α β : Type} {F : α → β → Prop} : ∀ {xs : List α} {ys : List β} (n : Nat), Paired F xs ys → Paired F (xs.take n) (ys.take n)
  | _, _, 0, _ => .nil
  | _, _, _ + 1, .nil => .nil
  | _, _, n + 1, .cons r t => .cons r (pd_take n t)
def RowAt (K : PySem.W.Frag) (H : Hp) (v : V) (r : List Int) : Prop := ∃ a, v = .ref a ∧ SqT K H a (r.map V.int)
def LAt (K : PySem.W.Frag) (H : Hp) (v : V) (rs : List (List Int)) : Prop := ∃ a vals, v = .ref a ∧ H a = some (.lst vals) ∧ Paired (RowAt K H) vals rs
theorem RowAt.same {K : PySem.W.Frag} {H H' : Hp} (e : Same H H') {v : V} {r : List Int} (h : RowAt K H v r) : RowAt K H' v r := by
  obtain ⟨a, h1, h2⟩ := h
  exact ⟨a, h1, same_t e h2⟩
theorem LAt.same {K : PySem.W.Frag} {H H' : Hp} (e : Same H H') {v : V} {r : List (List Int)} (h : LAt K H v r) : LAt K H' v r := by
  obtain ⟨a, vals, h1, h2, h3⟩ := h
  exact ⟨a, vals, h1, e _ _ h2, pd_mono h3 fun _ _ => RowAt.same e⟩
theorem rows_same {K : PySem.W.Frag} {H H' : Hp} (e : Same H H') {vs : List V} {rs : List (List Int)} (h : Paired (RowAt K H) vs rs) : Paired (RowAt K H') vs rs := pd_mono h fun _ _ => RowAt.same e
theorem lats_same {K : PySem.W.Frag} {H H' : Hp} (e : Same H H') {vs : List V} {rs : List (List (List Int))} (h : Paired (LAt K H) vs rs) : Paired (LAt K H') vs rs := pd_mono h fun _ _ => LAt.same e
def hid (D : Addr) (H : Hp) : Hp := fun b => if b = D then none else H b
theorem hid_same {D : Addr} {H : Hp} : Same (hid D H) H := fun b o h => by
  unfold hid at h
  split at h
  · cases h
  · exact h
theorem hid_at {D b : Addr} {H : Hp} {o : HO} (h : H b = some o) (n : b ≠ D) : hid D H b = some o := by
  unfold hid
  rw [if_neg n]
  exact h
theorem hid_upd {D : Addr} {H : Hp} {o : HO} : hid D (upd H D o) = hid D H := by
  funext b
  unfold hid
  by_cases e : b = D
  · rw [if_pos e, if_pos e]
  · rw [if_neg e, if_neg e, upd_ne e]
theorem hid_mono {D : Addr} {H H' : Hp} (e : Same H H') : Same (hid D H) (hid D H') := fun b o h => by
  unfold hid at h
  split at h
  · cases h
  · rename_i n
    exact hid_at (e b o h) n
theorem hid_none {D : Addr} {H : Hp} (n : H D = none) : Same H (hid D H) := fun b o h => hid_at h (ne_of_none h n)
theorem sb_rd {p a : Addr} {H H' : Hp} {o u : HO} (e : SameB p H H') (hp : H p = some o) (d : ∀ o', o ≠ .frz o' u) (du : o ≠ u) (h : Rd H a u) : Rd H' a u := by
  rcases h with h | ⟨o', h⟩
  · exact .inl (e a _ h fun z => by
      subst z
      rw [hp] at h
      exact du (Option.some.inj h))
  · exact .inr ⟨o', e a _ h fun z => by
      subst z
      rw [hp] at h
      exact d o' (Option.some.inj h)⟩
theorem sb_l {K : PySem.W.Frag} {p a : Addr} {H H' : Hp} {kvs : List (Key × V)} {xs : List V} (e : SameB p H H') (hp : H p = some (.dK kvs)) (h : SqL K H a xs) : SqL K H' a xs := by
  rcases h with h | h
  · exact .inl (sb_rd e hp (fun _ z => by cases z) (fun z => by cases z) h)
  · exact .inr h
theorem sb_t {K : PySem.W.Frag} {p a : Addr} {H H' : Hp} {kvs : List (Key × V)} {xs : List V} (e : SameB p H H') (hp : H p = some (.dK kvs)) (h : SqT K H a xs) : SqT K H' a xs := by
  rcases h with h | h
  · exact .inl (sb_rd e hp (fun _ z => by cases z) (fun z => by cases z) h)
  · exact .inr h
theorem sb_sq {K : PySem.W.Frag} {p a : Addr} {H H' : Hp} {kvs : List (Key × V)} {xs : List V} (e : SameB p H H') (hp : H p = some (.dK kvs)) (h : Sq K H a xs) : Sq K H' a xs := by
  rcases h with h | h
  · exact .inl (sb_l e hp h)
  · exact .inr (sb_t e hp h)
theorem Pen.dk {H : Hp} {p c : Addr} {b : Int} (h : Pen H p c b) : ∃ kvs, H p = some (.dK kvs) := by
  obtain ⟨ns, t, l, h⟩ := h
  exact ⟨_, h.ob⟩
theorem SameB.l {K : PySem.W.Frag} {p a : Addr} {H H' : Hp} {b : Int} {c : Addr} {xs : List V} (e : SameB p H H') (hp : Pen H p c b) (h : SqL K H a xs) : SqL K H' a xs := by
  obtain ⟨_, q⟩ := hp.dk
  exact sb_l e q h
theorem SameB.t {K : PySem.W.Frag} {p a : Addr} {H H' : Hp} {b : Int} {c : Addr} {xs : List V} (e : SameB p H H') (hp : Pen H p c b) (h : SqT K H a xs) : SqT K H' a xs := by
  obtain ⟨_, q⟩ := hp.dk
  exact sb_t e q h
theorem SameB.lst {p a : Addr} {H H' : Hp} {b : Int} {c : Addr} {xs : List V} (e : SameB p H H') (hp : Pen H p c b) (h : H a = some (.lst xs)) : H' a = some (.lst xs) := by
  obtain ⟨_, q⟩ := hp.dk
  exact e _ _ h (ne_of h q (by intro z; cases z))
theorem SameB.tup {p a : Addr} {H H' : Hp} {b : Int} {c : Addr} {xs : List V} (e : SameB p H H') (hp : Pen H p c b) (h : H a = some (.tup xs)) : H' a = some (.tup xs) := by
  obtain ⟨_, q⟩ := hp.dk
  exact e _ _ h (ne_of h q (by intro z; cases z))
theorem RowAt.sb {K : PySem.W.Frag} {H H' : Hp} {p c : Addr} {b : Int} (e : SameB p H H') (hp : Pen H p c b) {v : V} {r : List Int} (h : RowAt K H v r) : RowAt K H' v r := by
  obtain ⟨a, h1, h2⟩ := h
  exact ⟨a, h1, e.t hp h2⟩
theorem LAt.sb {K : PySem.W.Frag} {H H' : Hp} {p c : Addr} {b : Int} (e : SameB p H H') (hp : Pen H p c b) {v : V} {r : List (List Int)} (h : LAt K H v r) : LAt K H' v r := by
  obtain ⟨a, vals, h1, h2, h3⟩ := h
  exact ⟨a, vals, h1, e.lst hp h2, pd_mono h3 fun _ _ => RowAt.sb e hp⟩
theorem sb_free {p a : Addr} {H H' : Hp} (e : SameB p H H') (h : H' a = none) (n : a ≠ p) : H a = none := by
  cases q : H a with
  | none => rfl
  | some o =>
    rw [e a o q n] at h
    cases h
theorem OpR.imp {X : Cx} {f : Value → Value → Sem Value} {r r' : R2} (h : OpR X f r) (i : ∀ x y H Q, r' x y H Q → r x y H Q) : OpR X f r' :=
  fun pins s σ H x y v u Q I rx ry q => h pins s σ H x y v u Q I rx ry (i x y H Q q)
def rCatS (K : PySem.W.Frag) : R2 := fun x y H Q => ∃ a b xs ys, x = .ref a ∧ y = .ref b ∧ SqT K H a xs ∧ SqT K H b ys ∧ xs.length + ys.length ≤ sizeLine ∧ ∀ p H', Same H H' → SqT K H' p (xs ++ ys) → Q (.ref p) H'
theorem op_catS {X : Cx} : OpR X (binaryOp .Add) (rCatS X.K) := by
  refine OpR.imp op_catA fun x y H Q h => ?_
  obtain ⟨a, b, xs, ys, h1, h2, h3, h4, h5, q⟩ := h
  refine ⟨a, b, xs, ys, h1, h2, h3, h4, h5, fun e => ?_, fun e e2 => ?_, fun e e2 p np => ?_⟩
  · refine q b H (Same.refl H) ?_
    rw [e]
    exact h4
  · refine q a H (Same.refl H) ?_
    rw [e2, List.append_nil]
    exact h3
  · exact q p _ (same_new np) (sqT upd_same)
theorem eqv_ints : ∀ (ns ms : List Int), PyData.eqvAll (ns.map .int) (ms.map .int) = decide (ns = ms)
  | [], [] => by simp [PyData.eqvAll]
  | [], _ :: _ => by simp [PyData.eqvAll]
  | _ :: _, [] => by simp [PyData.eqvAll]
  | a :: r, b :: t => by
    simp only [List.map_cons, PyData.eqvAll, eqv_ints r t, PyData.eqv]
    by_cases h : a = b <;> by_cases h' : r = t <;> simp [h, h']
theorem eqv_tints (ns ms : List Int) : PyData.eqv (.tuple (ns.map .int)) (.tuple (ms.map .int)) = decide (ns = ms) := by
  simp only [PyData.eqv]
  exact eqv_ints ns ms
theorem eqv_lints (ns ms : List Int) : PyData.eqv (.list (ns.map .int)) (.list (ms.map .int)) = decide (ns = ms) := by
  simp only [PyData.eqv]
  exact eqv_ints ns ms
def tupD (r : List Int) : PyData := .tuple (r.map .int)
theorem dp_row {K : PySem.W.Frag} {H : Hp} {v : V} {r : List Int} (h : RowAt K H v r) : Dp K H v (tupD r) := by
  obtain ⟨a, e, h⟩ := h
  subst e
  exact .tup h (dp_ints r)
theorem dp_rows {K : PySem.W.Frag} {H : Hp} : ∀ {vs : List V} {rs : List (List Int)}, Paired (RowAt K H) vs rs → DpAll K H vs (rs.map tupD)
  | _, _, .nil => .nil
  | _, _, .cons h t => .cons (dp_row h) (dp_rows t)
theorem okD_tup (n : Nat) (r : List Int) : okD (n + 1) (tupD r) := okD_tuple (okD_ints n r)
theorem okD_tups (n : Nat) (rs : List (List Int)) : ∀ d ∈ rs.map tupD, okD (n + 1) d := fun d hd => by
  obtain ⟨r, _, rfl⟩ := List.mem_map.mp hd
  exact okD_tup n r
theorem eqv_rows : ∀ (rs ss : List (List Int)), PyData.eqvAll (rs.map tupD) (ss.map tupD) = decide (rs = ss)
  | [], [] => by simp [PyData.eqvAll]
  | [], _ :: _ => by simp [PyData.eqvAll]
  | _ :: _, [] => by simp [PyData.eqvAll]
  | a :: r, b :: t => by
    have e : PyData.eqv (tupD a) (tupD b) = decide (a = b) := eqv_tints a b
    simp only [List.map_cons, PyData.eqvAll, eqv_rows r t, e]
    by_cases h : a = b <;> by_cases h' : r = t <;> simp [h, h']
theorem cut_all (xs : List V) : cutV xs none none = xs := by
  unfold cutV
  rw [HT.sIx_none, HT.sIx_none]
  simp
theorem cut_from (xs : List V) (k : Nat) : cutV xs (some (k : Int)) none = xs.drop k := by
  unfold cutV
  rw [HT.sIx_nat, HT.sIx_none]
  by_cases h : k ≤ xs.length
  · rw [Nat.min_eq_left h, List.take_of_length_le (by rw [List.length_drop]; exact Nat.le_refl _)]
  · rw [Nat.min_eq_right (by omega), List.drop_eq_nil_of_le (Nat.le_refl _), List.drop_eq_nil_of_le (by omega)]
    simp
theorem cut_to (xs : List V) (k : Nat) : cutV xs none (some (k : Int)) = xs.take k := by
  unfold cutV
  rw [HT.sIx_nat, HT.sIx_none]
  show (xs.take (min k xs.length)) = xs.take k
  by_cases h : k ≤ xs.length
  · rw [Nat.min_eq_left h]
  · rw [Nat.min_eq_right (by omega), List.take_of_length_le (Nat.le_refl _), List.take_of_length_le (by omega)]
end Dg
namespace Dg
open PySem PySem.Spec PyProof.Rows L2
section
variable {X : Cx} {K : PySem.W.Frag} (h : X.K = K)
include h
theorem k_ix_list : IxR X (rIxL K) := h ▸ ix_list
theorem k_ix_tup : IxR X (rIxT K) := h ▸ ix_tup
theorem k_ix_any : IxR X (rIxA K) := h ▸ ix_any
theorem k_op_catS : OpR X (binaryOp .Add) (rCatS K) := h ▸ op_catS
theorem k_op_in_seq : OpR X (compareOp .In) (rIn K false) := h ▸ op_in_seq
theorem k_op_notIn_seq : OpR X (compareOp .NotIn) (rIn K true) := h ▸ op_notIn_seq
theorem k_op_eqD (hu : X.A.units + 64 < cLine) : OpR X (compareOp .Eq) (rEqD K) := h ▸ op_eqD hu
theorem k_op_neD (hu : X.A.units + 64 < cLine) : OpR X (compareOp .NotEq) (rNeD K) := h ▸ op_neD hu
theorem k_call_len_seq : CallR X (.builtin "len") (fun xs H Q => ∃ p ys, xs = [.ref p] ∧ (SqL K H p ys ∨ SqT K H p ys) ∧ Q (.int ys.length) H) := h ▸ call_len_seq
theorem k_call_list_of : CallR X (.type "list") (fun xs H Q => ∃ p ys, xs = [.ref p] ∧ (SqL K H p ys ∨ SqT K H p ys) ∧ ∀ l, H l = none → Q (.ref l) (upd H l (.lst ys))) := h ▸ call_list_of
theorem k_call_tuple_of : CallR X (.type "tuple") (fun xs H Q => ∃ p ys, xs = [.ref p] ∧ ((SqL K H p ys ∧ ∀ l, H l = none → Q (.ref l) (upd H l (.tup ys))) ∨ (SqT K H p ys ∧ Q (.ref p) H))) := h ▸ call_tuple_of
theorem k_sl_list : SlR X (rSlL K) := h ▸ sl_list
theorem k_sl_tupA : SlR X (rSlA K) := h ▸ sl_tupA
end
end Dg
namespace Dg
open PySem PySem.Spec PyProof.Rows L2
theorem at_last' {α : Type} {xs : List α} {v : α} (h : xs[xs.length - 1]? = some v) : atI xs (-1) = some v := by
  have h1 : xs.getLast? = some v := by
    rw [List.getLast?_eq_getElem?]
    exact h
  rcases List.eq_nil_or_concat xs with e | ⟨s, d, e⟩
  · rw [e] at h1
    cases h1
  · rw [List.concat_eq_append] at e
    subst e
    have : d = v := by simpa using h1
    rw [this]
    exact atI_last _ _
end Dg
namespace Dg
open PySem PySem.Spec PyProof.Rows L2
theorem SameB.upd {p q : Addr} {H H' : Hp} {o : HO} (e : SameB p H H') (h : H q = none) : SameB p H (upd H' q o) := fun b u hb n => by
  rw [upd_ne (ne_of_none hb h)]
  exact e b u hb n
theorem SameB.new {p q : Addr} {H H' : Hp} {o : HO} (e : SameB p H H') (h : H' q = none) : SameB p H (L2.upd H' q o) := e.trans (SameB.of (same_new h))
theorem Pen.upd {H : Hp} {p c q : Addr} {b : Int} {o : HO} (h : Pen H p c b) (hp : q ≠ p) (hc : q ≠ c) : Pen (L2.upd H q o) p c b := by
  obtain ⟨ns, t, l, h⟩ := h
  refine ⟨ns, t, l, ?_, ?_, h.t0, h.tb, h.l0, h.n63⟩
  · rw [upd_ne hp.symm]
    exact h.ob
  · rw [upd_ne hc.symm]
    exact h.cs
theorem Pen.fresh {H : Hp} {p c q : Addr} {b : Int} (h : Pen H p c b) (hq : H q = none) : q ≠ p ∧ q ≠ c := by
  obtain ⟨ns, t, l, h⟩ := h
  exact ⟨(ne_of_none h.ob hq).symm, (ne_of_none h.cs hq).symm⟩
end Dg
namespace Dg
open PySem PySem.Spec PyProof.Rows L2
theorem call_isE2 {X : Cx} {a D : Addr} {oe : Obj} {pn : List (Addr × Obj)} {cls : Value} {d : Option Addr} (C : ExcC X.K D) (hz : Zc cls d oe) (hf : ∃ vs, oe.data = .fields vs) :
    CallR (X.suite a ((a, oe) :: pn)) (.builtin "isinstance") (fun xs H Q => cls = .ref D ∧ d = none ∧ rIsE X.K D a xs H Q) := by
  intro pins s σ H xs us Q I r h
  obtain ⟨h1, h2, h⟩ := h
  subst h1 h2
  exact call_isE C hz hf pins s σ H xs us Q I r h
structure Ei (K : PySem.W.Frag) (mg : Str → Option Value) (C T : Addr) : Prop where
  ex : ExcC K C
  g_TurnError : mg "TurnError" = some (.ref T)
  kT : PySem.W.kitOne K (.ref C) (.ref T) = some true
  kV : PySem.W.kitOne K (.ref C) (.type "ValueError") = some true
end Dg
namespace Dg
open PySem PySem.Spec PyProof.Rows L2
theorem rel_ref (a : Addr) : RelV (.ref a) (.ref a) := rfl
theorem rel_ty (n : String) : RelV (.ty n) (.type n) := rfl
theorem boot_VE : bootBuiltins "ValueError" = some (.type "ValueError") := by decide +kernel
end Dg
namespace Dg
open PySem PySem.Spec PyProof.Rows L2
def lstD (rs : List (List Int)) : PyData := .list (rs.map tupD)
theorem dp_lats {K : PySem.W.Frag} {H : Hp} : ∀ {vs : List V} {ls : List (List (List Int))}, Paired (LAt K H) vs ls → DpAll K H vs (ls.map lstD)
  | _, _, .nil => .nil
  | _, _, .cons h t => .cons (by
      obtain ⟨a, vals, e, h1, h2⟩ := h
      subst e
      exact .lst (sqL h1) (dp_rows h2)) (dp_lats t)
theorem okD_lsts (n : Nat) (ls : List (List (List Int))) : ∀ d ∈ ls.map lstD, okD (n + 2) d := fun d hd => by
  obtain ⟨r, _, rfl⟩ := List.mem_map.mp hd
  exact okD_list (okD_tups n r)
end Dg
namespace Dg
open PySem PySem.Spec PyProof.Rows L2
theorem k_pg_tup {X : Cx} {K : PySem.W.Frag} {es : List Expr} {k n : Nat} {pos : Pos} {t : List V → L2.St → Hp → (L2.St → Hp → Prop) → Prop} (h : PG X (.Tuple es k pos) (gTup X.K n t)) (e : X.K = K) : PG X (.Tuple es k pos) (gTup K n t) := e ▸ h
end Dg
namespace Dg
open PySem PySem.Spec PyProof.Rows L2
def IteG (G : List V → Hp → Prop) (k : Int) : It where
  go i H := ∃ (xs : List V) (x : V), G xs H ∧ xs[i]? = some x
  yld i H v H' := ∃ T x, v = .ref T ∧ H T = none ∧ H' = upd H T (.tup [.int (k + (i : Nat)), x]) ∧ ∀ xs, G xs H → xs[i]? = some x
  stop i H := ∃ xs : List V, G xs H ∧ xs.length ≤ i
structure Drawn (P : Program) (w : World) (K : PySem.W.Frag) (a : Addr) (G : List V → Hp → Prop) (on : Nat → Addr → Heap → Prop) (all : Array Value → Heap → Prop) : Prop where
  sees : ∀ {X : Cx} {pins : List (Addr × Obj)} {σ : L2.St} {H : Hp} {s : Shared} {xs : List V}, X.K = K → Inv X pins σ H s → G xs H → ∃ its : List Value, Vals xs its ∧ all its.toArray s.heap
  same : ∀ {X : Cx} {pins : List (Addr × Obj)} {σ : L2.St} {H : Hp} {s : Shared} {xs ys : List V}, X.K = K → Inv X pins σ H s → G xs H → G ys H → ys = xs
  draws : ∀ (A : Around) (it : Addr) (its : Array Value), A.handled = none → a ≠ it → Draws P w A it [it, a] its.size (fun i v => its[i]? = some v) fun i h => on i it h ∧ all its h
  plain : ∀ {i : Nat} {it : Addr} {h : Heap}, on i it h → ∃ o, h.get? it = some o ∧ ∀ v, o.data ≠ .cell v
  moves : ∀ {i : Nat} {it : Addr} {h h' : Heap}, on i it h → (∀ o, h.get? it = some o → h'.get? it = some o) → on i it h'
  ends : ∀ (A : Around) (it : Addr) (its : Array Value) (i : Nat), A.handled = none → its.size ≤ i → Draws P w A it [it, a] i (fun _ _ => False) fun j h => j = i ∧ on i it h ∧ all its h
theorem drawnT (P : Program) (w : World) (K : PySem.W.Frag) (a : Addr) : Drawn P w K a (fun xs H => SqT K H a xs) (fun i it h => h.IsTupleIter it a i) fun its h => h.IsTuple a its where
  sees k I q := by
    subst k
    obtain ⟨its, r, t, _⟩ := I.tuple q
    exact ⟨its, r, t⟩
  same k I p q := by
    subst k
    exact I.tuple_inj q p
  draws A it its hd ne := Draws.tuple hd it a ne its
  plain z := by
    obtain ⟨o, e, _, d⟩ := z
    refine ⟨o, e, fun v x => ?_⟩
    rw [d] at x
    cases x
  moves z k := z.at k
  ends A it its i hd le :=
    ⟨fun _ _ z => let ⟨o, e, _⟩ := z.2.1; ⟨o, e⟩, fun _ _ _ z k => ⟨z.1, z.2.1.at fun o => k it (by simp) o, z.2.2.at fun o => k a (by simp) o⟩, fun j _ _ _ lt z => absurd z.1 (Nat.ne_of_lt lt),
      fun _ _ _ z e => wpAny_nextOf_tuple_end hd z.2.1 z.2.2 (Array.getElem?_eq_none le) e⟩
theorem drawnL (P : Program) (w : World) (K : PySem.W.Frag) (a : Addr) : Drawn P w K a (fun xs H => SqL K H a xs) (fun i it h => h.IsListIter it a i) fun its h => h.IsList a its where
  sees k I q := by
    subst k
    obtain ⟨its, r, t, _⟩ := I.list q
    exact ⟨its, r, t.isList⟩
  same k I p q := by
    subst k
    exact I.list_inj q p
  draws A it its hd ne := Draws.list hd it a ne its
  plain z := by
    obtain ⟨o, e, _, d⟩ := z
    refine ⟨o, e, fun v x => ?_⟩
    rw [d] at x
    cases x
  moves z k := z.at k
  ends A it its i hd le :=
    ⟨fun _ _ z => let ⟨o, e, _⟩ := z.2.1; ⟨o, e⟩, fun _ _ _ z k => ⟨z.1, z.2.1.at fun o => k it (by simp) o, z.2.2.at fun o => k a (by simp) o⟩, fun j _ _ _ lt z => absurd z.1 (Nat.ne_of_lt lt),
      fun _ _ _ z e => wpAny_nextOf_list_end hd z.2.1 z.2.2 (Array.getElem?_eq_none le) e⟩
theorem new_pair {X : Cx} {pins : List (Addr × Obj)} {σ : L2.St} {H : Hp} {s : Shared} (I : Inv X pins σ H s) {e it : Addr} (le : e < s.heap.objs.size) (li : it < s.heap.objs.size) (free : ∀ b ∈ [e, it], FpOk X pins H b) {h2 : Heap} {tk : Nat} {n : Int} {t : Tok} {x : V} {u : Value} (ru : RelV x u)
    (rest : ∀ b o, b ≠ e → b ≠ it → s.heap.get? b = some o → h2.get? b = some o) (made : h2.get? s.heap.objs.size = some { cls := .type "tuple", data := .seq #[.int n t, u] }) :
    Inv X pins σ (upd H s.heap.objs.size (.tup [.int n, x])) { s with heap := h2, toks := tk } ∧ ∀ b ∈ [e, it], upd H s.heap.objs.size (.tup [.int n, x]) b = none := by
  have apart : ∀ b ∈ [e, it], b ≠ s.heap.objs.size := by
    simp only [List.mem_cons, List.not_mem_nil, or_false]
    intro b z
    rcases z with z | z
    · exact z ▸ Nat.ne_of_lt le
    · exact z ▸ Nat.ne_of_lt li
  constructor
  · refine I.turnedNew (ch := [e, it]) (fun b o nb q => ?_) free (Nat.le_refl _) ⟨(show 2 ≤ sizeLine by decide), [.int n t, u], .cons ⟨t, rfl⟩ (.cons ru .nil), ⟨_, made, rfl, _, rfl⟩⟩
    rw [List.mem_cons, List.mem_singleton] at nb
    exact rest b o (fun z => nb (.inl z)) (fun z => nb (.inr z)) q
  · intro b hb
    rw [upd_ne (apart b hb)]
    exact (free b hb).1
section
variable {P : Program} {w : World} {K : PySem.W.Frag} {elts : List Expr} {kk : Nat} {tpos : Pos} {a : Addr} {G : List V → Hp → Prop} {on : Nat → Addr → Heap → Prop} {all : Array Value → Heap → Prop}
def EnAt (on : Nat → Addr → Heap → Prop) (k : Int) (a e it : Addr) (i : Nat) (h : Heap) : Prop := (∃ old, IsEnum h e it (k + ((i : Nat) : Int)) old) ∧ on i it h ∧ a ≠ it ∧ e ≠ it ∧ e ≠ a
theorem turn_en (D : Drawn P w K a G on all) (k : Int) (e it : Addr) : Turn P w K (.Tuple elts kk tpos) (IteG G k) [e, it] e (EnAt on k a e it) where
  mem := List.mem_cons_self
  obj i h z b hb := by
    obtain ⟨⟨old, en⟩, on1, _⟩ := z
    rcases List.mem_cons.mp hb with y | y
    · rw [y]
      exact ⟨_, en, fun _ => Data.noConfusion⟩
    · obtain rfl := List.mem_singleton.mp y
      exact D.plain on1
  keep i h h' z kp := by
    obtain ⟨⟨old, en⟩, on1, r⟩ := z
    exact ⟨⟨old, kp e List.mem_cons_self _ en⟩, D.moves on1 (kp it (by simp)), r⟩
  item X hP hw hK calm i pins s σ H E I free z go := by
    subst hP hw
    obtain ⟨⟨old, en⟩, on1, ai, ei, ea⟩ := z
    obtain ⟨xs, x, gx, ex⟩ := go
    obtain ⟨its, vals, al⟩ := D.sees hK I gx
    obtain ⟨u, eu, ru⟩ := vals.get ex
    obtain ⟨oi, hoi, _⟩ := D.plain on1
    have le := Heap.lt_size en
    refine wpAny_pyNext_enum_itemC (D.draws X.A.in1 it its.toArray (I.ok.hd calm) ai) en ⟨on1, al⟩ (i := i) (by simpa using (List.getElem?_eq_some_iff.mp eu).1) ei (by simp [ei, ea]) fun y h1 tk ey out nxt tup _ kept => ?_
    have : its[i]? = some y := by simpa using ey
    rw [eu] at this
    cases this
    refine ⟨_, rfl, wpAny_letOwnedTupleGo_enum (s := { s with heap := h1, toks := tk + 1 }) out fun h2 en2 only => ?_⟩
    obtain ⟨I2, gone⟩ := new_pair (h2 := h2) (tk := tk + 1) I le (Heap.lt_size hoi) free ru (fun b o n1 n2 q => (only.2 b n1).trans (kept b o n1 n2 q)) ((only.2 _ (Nat.ne_of_gt le)).trans tup)
    have e1 : k + ((i + 1 : Nat) : Int) = k + (i : Int) + 1 := by omega
    exact ⟨.ref s.heap.objs.size, _, I2, rfl, ⟨_, x, rfl, I.hok.fresh (Nat.le_refl _), rfl, fun ys hy => D.same hK I gx hy ▸ ex⟩, ⟨⟨u, e1 ▸ en2⟩, D.moves nxt.1 (fun o q => (only.2 it (Ne.symm ei)).trans q), ai, ei, ea⟩, gone⟩
  done X hP hw hK calm i pins s σ H E I free z stop := by
    subst hP hw
    obtain ⟨⟨old, en⟩, on1, ai, ei, ea⟩ := z
    obtain ⟨xs, gx, lx⟩ := stop
    obtain ⟨its, vals, al⟩ := D.sees hK I gx
    obtain ⟨f0, f1, f2, f3, f4, f5⟩ := free it (List.mem_cons_of_mem _ List.mem_cons_self)
    have size : its.toArray.size ≤ i := by
      rw [List.size_toArray, ← vals.length]
      exact lx
    exact wpAny_pyNext_enum_endD (D.ends X.A.in1 it its.toArray i (I.ok.hd calm) size) en ⟨rfl, on1, al⟩ fun h' kept => ⟨rfl, I.turned (t' := s.toks) kept f0 f1 f3 f4 f5⟩
  self A i s Q E z q := by
    obtain ⟨⟨old, en⟩, _⟩ := z
    exact wpAny_pyIter_enum en q
end
theorem meets_en1 {v : Value} {o : Obj} {H : Heap → Prop} (B : Begins v o H) : Meets (Builtin.«enumerate.__new__» ⟨[.type "enumerate", v], []⟩)
    (fun _ R s => H s.heap ∧ R (.ok (.ret (.ref (s.heap.push o).objs.size))) { s with heap := (s.heap.push o).push { cls := .type "enumerate", data := .fields #[.none, .bool false, .ref s.heap.objs.size, rawInt 0, .none, .none] } }) := by
  refine .of_wp fun P w A R st ⟨hv, q⟩ => ?_
  obtain ⟨heap, g, d, tk, os⟩ := st
  have kind := sub_enumerate
  have begin1 : ∀ {B' : Around} {E N : Value → Shared → Prop}, N (.ref heap.objs.size) ⟨heap.push o, g, d, tk, os⟩ → wpAny (model P w) B' (pyIter v) N E ⟨heap, g, d, tk, os⟩ := fun n => B.iter P w _ _ _ _ hv n
  wp_walk using begin1
  refine wpAny_stack_any fun top => wpAny_pure ?_
  split
  · rename_i c _ _ _ _ _
    cases c == Value.type "enumerate" <;> (wp_walk using begin1; exact ⟨_, rfl, q⟩)
  · wp_walk using begin1
    exact ⟨_, rfl, q⟩
theorem en1_begins {prog : Program} {w : World} {A : Around} {E Q : Value → Shared → Prop} {s : Shared} {v : Value} {o : Obj} {H : Heap → Prop} (B : Begins v o H) (hv : H s.heap)
    (q : ∀ h', IsEnum h' (s.heap.objs.size + 1) s.heap.objs.size 0 .none → h'.get? s.heap.objs.size = some o → (∀ b u, s.heap.get? b = some u → h'.get? b = some u) → Q (.ref (s.heap.objs.size + 1)) { s with heap := h' }) :
    wpAny (model prog w) A (call (.type "enumerate") [v]) Q E s := by
  have n1 : (s.heap.push o).objs.size = s.heap.objs.size + 1 := Heap.size_push ..
  have made := Heap.get?_push_size (s.heap.push o) (o := { cls := .type "enumerate", data := .fields #[.none, .bool false, .ref s.heap.objs.size, rawInt 0, .none, .none] }) rfl
  rw [n1] at made
  refine callType_new F.called_enumerate (by decide) (F.typeCall_enumerate_1 _) (F.newCall_enumerate_1 _) (fun obj => F.args_object_init_2 obj _) F.entry_enumerate_new (meets_en1 B) ⟨hv, ?_⟩
  rw [n1]
  exact ⟨⟨_, made, rfl⟩, q _ made (Heap.get?_push_of_some _ (Heap.get?_push_size _ B.free)) fun b u x => Heap.get?_push_of_some _ (Heap.get?_push_of_some _ x)⟩
theorem walk_enumT {K : PySem.W.Frag} {a : Addr} {xs : List V} {k : Int} : Walk (IteG (fun xs H => SqT K H a xs) k) xs.length (fun H => SqT K H a xs) (YPair (fun i => some (.int (k + (i : Nat)))) (fun i => xs[i]?)) := by
  refine ⟨fun i _ hi q => ⟨xs, xs[i], q, by simp [hi]⟩, fun _ q => ⟨xs, q, Nat.le_refl _⟩, fun i H v H' _ q y => ?_⟩
  obtain ⟨T, x, h1, h2, h3, h4⟩ := y
  exact ⟨T, .int (k + (i : Nat)), x, h1, h2, h3, rfl, h4 xs q⟩
def iEnumS (K : PySem.W.Frag) (ta : TA) : TI := fun σ H R => ta σ H fun vs H1 => ∃ a xs, vs = [.ref a] ∧ Sq K H1 a xs ∧
  ∀ J, L2.Walk J xs.length (fun H => Sq K H a xs ∧ Same H1 H) (YPair (fun i => some (.int (i : Nat))) (fun i => xs[i]?)) → R J H1
theorem walk_enumS {K : PySem.W.Frag} {a : Addr} {xs : List V} {H1 : Hp} : (SqL K H1 a xs → L2.Walk (Ite K a) xs.length (fun H => Sq K H a xs ∧ Same H1 H) (YPair (fun i => some (.int (i : Nat))) (fun i => xs[i]?))) ∧
    (SqT K H1 a xs → L2.Walk (IteG (fun xs H => SqT K H a xs) 0) xs.length (fun H => Sq K H a xs ∧ Same H1 H) (YPair (fun i => some (.int (i : Nat))) (fun i => xs[i]?))) := by
  refine ⟨fun h => Walk.mono walk_enum (fun H g => g.2.seq h) fun _ _ _ _ _ _ y => y, fun h => Walk.mono walk_enumT (fun H g => same_t g.2 h) fun i H x H' _ _ y => ?_⟩
  obtain ⟨T, u, v, h1, h2, h3, h4, h5⟩ := y
  refine ⟨T, u, v, h1, h2, h3, ?_, h5⟩
  rw [← h4]
  simp
theorem pi_enumS {X : Cx} {e : Expr} {ta : TA} {p pos tpos : Pos} {elts : List Expr} {kk : Nat} (hg : Gl X "enumerate") (hm : X.mg "enumerate" = none) (ha : PA X [e] ta) (hs : starEach [e] X.env = [(false, eval e X.env)] := by rfl) :
    PI X (.Tuple elts kk tpos) (.Call (.Name "enumerate" p) [e] [] pos) (iEnumS X.K ta) := by
  constructor
  intro pins s σ H R I h
  refine Call_ (ld_blt I hg hm boot_enumerate (PyProof.Rows.callWith_type1 (thn (ha.run pos pins s σ H _ I h) fun us s1 z => ?_) hs rfl))
  obtain ⟨vs, H1, I1, r1, a, xs, rfl, sq, q⟩ := z
  obtain ⟨u, rfl, ru⟩ : ∃ u, us = [u] ∧ RelV (V.ref a) u := by
    cases r1 with
    | cons r rr =>
      cases rr
      exact ⟨_, rfl, r⟩
  obtain rfl : u = .ref a := ru
  let n := s1.heap.objs.size
  have young : ∀ b ∈ [n + 1, n], FpOk X pins H1 b := fun b hb => by
    have le : n ≤ b := by
      rcases List.mem_cons.mp hb with z | z
      · exact z ▸ Nat.le_add_right n 1
      · exact Nat.le_of_eq (List.mem_singleton.mp z).symm
    exact I1.fpOk le (I1.hok.fresh le)
  have old : ∀ {o : Obj}, s1.heap.get? a = some o → a ≠ n ∧ n + 1 ≠ a := fun e => by
    have := Heap.lt_size e
    exact ⟨Nat.ne_of_lt this, Nat.ne_of_gt (Nat.lt_succ_of_lt this)⟩
  rcases sq with l | t
  · obtain ⟨its, _, is, _⟩ := I1.list l
    exact call_enumerate_list is.isList fun h' en on _ kp => wpAny_pyIter_enum en ⟨n + 1, [n + 1, n], _, _, H1, rfl, I1.kept (t' := s1.toks) kp, turn_enum a (n + 1) n, ⟨⟨.none, en⟩, on, Nat.succ_ne_self _⟩, young, q _ (walk_enumS.1 l)⟩
  · obtain ⟨its, _, is, _⟩ := I1.tuple t
    have is2 : s1.heap.IsTuple a its.toArray := is
    obtain ⟨o, eo, _⟩ := is2
    exact en1_begins (begins_tuple a its.toArray) is fun h' en made kp => wpAny_pyIter_enum en
      ⟨n + 1, [n + 1, n], _, _, H1, rfl, I1.kept (t' := s1.toks) kp, turn_en (drawnT X.prog X.w X.K a) 0 (n + 1) n, ⟨⟨.none, by simpa using en⟩, ⟨_, made, rfl, rfl⟩, (old eo).1, Nat.succ_ne_self _, (old eo).2⟩, young, q _ (walk_enumS.2 t)⟩
end Dg
namespace Dg
open PySem PySem.Spec PyProof.Rows L2
def spFld (C : Addr) (fld : Str) : Sp := fun vs H Q _ => ∃ (a : Addr) (v : V), vs = [.ref a, v] ∧ H a = some (exo a C none) ∧
  ∀ dx, H dx = none → dx ≠ a → Q .non (upd (upd H dx (exd dx [(fld, v)])) a (exo a C (some dx)))
structure Ef (P : Program) (w : World) (K : PySem.W.Frag) (mg : Str → Option Value) (base : Heap) (x fld : Str) (C : Addr) : Prop where
  T : OexC K C
  gC : mg x = some (.ref C)
  no : PySem.W.findIn K (.ref C) fld = some none
  ini : ∃ (fI : Addr) (fd : FuncData), PySem.W.findIn K (.ref C) "__init__" = some (some (.ref fI)) ∧ PySem.W.typeIn K (.ref fI) = some (.type "function") ∧ FnOk P w K mg base CX0 1 fI fd ["self", fld] (spFld C fld) ∧ Binds K fd ["self", fld] []
  xf : XfC K C
  iC : PySem.W.isClsIn K C = true
  sC : PySem.W.subIn K (.ref C) (.ref C) = some true
theorem Ef.te {P : Program} {w : World} {K : PySem.W.Frag} {mg : Str → Option Value} {base : Heap} {x fld : Str} {C : Addr} (c : Ef P w K mg base x fld C) : PySem.W.exmOne K (.ref C) (.ref C) = some true := exm_self c.T.exC c.iC c.T.tyC c.sC
theorem passF {X : Cx} : Passes CX0 X (fun _ _ _ => False) := fun _ _ _ _ _ _ _ h => h.elim
theorem pmk_fld {X : Cx} {x fld : Str} {C : Addr} {e : Expr} {ta : TA} {p pos : Pos} (c : Ef X.prog X.w X.K X.mg X.base x fld C) (hr : Room 2 X.A) (hg : Gl X x) (ha : PA X [e] ta) (hdb : (x == ("__debug__" : Str)) = false := by decide)
    (he : starEach [e] X.env = (false, eval e X.env) :: starEach [] X.env := by rfl) (hpl : (backTo pos (starEach [] X.env)).any (·.1) = false := by rfl) :
    PMk X (.Call (.Name x p) [e] [] pos) (tMkO C (spFld C fld) [] ta) := by
  obtain ⟨fI, fd, iC, tI, F1, hb⟩ := c.ini
  exact pmk_oex c.T iC tI F1 hr hb .nil passF hg c.gC ha hdb he hpl
theorem mkO_in {C : Addr} {fld : Str} {v : V} {H1 : Hp} {Q : XK} (h : ∀ d, H1 d = none → Q (.ref C) (some d) (upd H1 d (.xd [(fld, v)]))) :
    [v].length ≤ 1000 ∧ ∀ a, H1 a = none → spFld C fld (.ref a :: ([v] ++ [])) (upd H1 a (exo a C none)) (fun u H2 => u = .non ∧ ∃ (d : Addr) (fs : List (Str × V)), H2 a = some (exo a C (some d)) ∧ H2 d = some (exd d fs) ∧ H1 d = none ∧ Q (.ref C) (some d) (upd (del H2 a) d (.xd fs))) (fun _ _ _ => False) := by
  refine ⟨by show 1 ≤ 1000; decide, fun a na => ⟨a, v, rfl, upd_same, fun dx nd ne => ⟨rfl, dx, [(fld, v)], upd_same, ?_, ?_, ?_⟩⟩⟩
  · rw [upd_ne ne, upd_same]
  · rw [upd_ne ne] at nd
    exact nd
  · rw [upd_ne ne] at nd
    have e : upd (del (upd (upd (upd H1 a (exo a C none)) dx (exd dx [(fld, v)])) a (exo a C (some dx))) a) dx (.xd [(fld, v)]) = upd H1 dx (.xd [(fld, v)]) := by
      funext b
      by_cases h1 : b = dx
      · rw [h1, upd_same, upd_same]
      · rw [upd_ne h1, upd_ne h1]
        by_cases h2 : b = a
        · rw [h2, del_same, na]
        · rw [del_ne h2, upd_ne h2, upd_ne h1, upd_ne h2]
    rw [e]
    exact h dx nd
end Dg
namespace Dg
open PySem PySem.Spec PyProof.Rows L2
def iAny (K : PySem.W.Frag) (tl : TE) : TI := fun σ H R => tl σ H fun x H1 => ∃ a xs, x = .ref a ∧ Sq K H1 a xs ∧ ∀ J, L2.Walk J xs.length (fun H => Sq K H a xs ∧ Same H1 H) (YAt xs) → R J H1
theorem seq_begins {X : Cx} {pins : List (Addr × Obj)} {σ : L2.St} {H : Hp} {s : Shared} {tg : Expr} {a : Addr} {R : It → Hp → Prop} (I : Inv X pins σ H s) (q : ((∃ xs, SqL X.K H a xs) ∧ R (Itl X.K a) H) ∨ ((∃ xs, SqT X.K H a xs) ∧ R (Itt X.K a) H)) :
    wpAny (model X.prog X.w) X.A (pyIter (.ref a)) (PIE X pins σ tg R) X.xe s := by
  let n := s.heap.objs.size
  have young : ∀ b ∈ [n], FpOk X pins H b := fun b z => List.mem_singleton.mp z ▸ I.fpOk (Nat.le_refl n) (I.hok.fresh (Nat.le_refl n))
  have old : ∀ (o : Obj) (b : Addr) (u : Obj), s.heap.get? b = some u → (s.heap.push o).get? b = some u := fun _ _ _ z => Heap.get?_push_of_some _ z
  rcases q with ⟨⟨xs, l⟩, q⟩ | ⟨⟨xs, t⟩, q⟩
  · obtain ⟨its, _, is, _⟩ := I.list l
    exact wpAny_pyIter_list is.isList ⟨n, [n], _, _, H, rfl, I.kept (t' := s.toks) (old _), turn_list a n, ⟨_, Heap.get?_push_size _ rfl, rfl, rfl⟩, young, q⟩
  · obtain ⟨its, _, is, _⟩ := I.tuple t
    have is2 : s.heap.IsTuple a its.toArray := is
    exact wpAny_pyIter_tuple is2 ⟨n, [n], _, _, H, rfl, I.kept (t' := s.toks) (old _), turn_tuple a n, ⟨_, Heap.get?_push_size _ rfl, rfl, rfl⟩, young, q⟩
theorem pi_any {X : Cx} {tg l : Expr} {tl : TE} (hl : PE X l tl) : PI X tg l (iAny X.K tl) := by
  constructor
  intro pins s σ H R I h
  refine thn (hl.run pins s σ H _ I h) fun v s1 z => ?_
  obtain ⟨_, H1, I1, rv, a, xs, rfl, sq, q⟩ := z
  obtain rfl : v = .ref a := rv
  refine seq_begins I1 ?_
  rcases sq with k | k
  · exact .inl ⟨⟨xs, k⟩, q _ (Walk.mono walk_list (fun H g => g.2.seq k) fun _ _ _ _ _ _ y => y)⟩
  · exact .inr ⟨⟨xs, k⟩, q _ (Walk.mono walk_tup (fun H g => same_t g.2 k) fun _ _ _ _ _ _ y => y)⟩
def ValAt (K : PySem.W.Frag) (H : Hp) (v : V) (r : List Int) : Prop := ∃ a, v = .ref a ∧ Sq K H a (r.map V.int)
theorem ValAt.same {K : PySem.W.Frag} {H H' : Hp} (e : Same H H') {v : V} {r : List Int} (h : ValAt K H v r) : ValAt K H' v r := by
  obtain ⟨a, h1, h2⟩ := h
  exact ⟨a, h1, h2.same e⟩
theorem RowAt.val {K : PySem.W.Frag} {H : Hp} {v : V} {r : List Int} (h : RowAt K H v r) : ValAt K H v r := by
  obtain ⟨a, h1, h2⟩ := h
  exact ⟨a, h1, .inr h2⟩
theorem vals_same {K : PySem.W.Frag} {H H' : Hp} (e : Same H H') {vs : List V} {rs : List (List Int)} (h : Paired (ValAt K H) vs rs) : Paired (ValAt K H') vs rs := pd_mono h fun _ _ => ValAt.same e
theorem truV_l {K : PySem.W.Frag} {H : Hp} {a : Addr} {xs : List V} (h : SqL K H a xs) : TruV K (.ref a) H (!xs.isEmpty) := .inl ⟨xs, h, rfl⟩
theorem truV_t {K : PySem.W.Frag} {H : Hp} {a : Addr} {xs : List V} (h : SqT K H a xs) : TruV K (.ref a) H (!xs.isEmpty) := .inr (.inl ⟨xs, h, rfl⟩)
end Dg
namespace Dg
open PySem PySem.Spec PyProof.Rows L2
theorem sqT_upd {K : PySem.W.Frag} {H : Hp} {D a : Addr} {o : HO} {acc xs : List V} (hD : H D = some (.lst acc)) (h : SqT K H a xs) : SqT K (upd H D o) a xs := by
  rcases h with (h | ⟨o', h⟩) | h
  · exact .inl (.inl (by rw [upd_ne (ne_of h hD (by intro z; cases z))]; exact h))
  · exact .inl (.inr ⟨o', by rw [upd_ne (ne_of h hD (by intro z; cases z))]; exact h⟩)
  · exact .inr h
theorem row_upd {K : PySem.W.Frag} {H : Hp} {D : Addr} {o : HO} {acc : List V} {v : V} {r : List Int} (hD : H D = some (.lst acc)) (h : RowAt K H v r) : RowAt K (upd H D o) v r := by
  obtain ⟨a, e, h⟩ := h
  exact ⟨a, e, sqT_upd hD h⟩
end Dg
namespace Dg
def carryV (k l : List Int) (c d : Nat) : Option Int :=
  if k.getD d 0 = l.getD d 0 then none
  else if k.getD c 0 > k.getD d 0 then some (k.getD d 0 + 1)
  else if l.getD d 0 > l.getD c 0 then some (l.getD d 0)
  else none
def stepV (k l : List Int) (n : Nat) : Option (List Int × Int) :=
  (List.range n).findSome? fun i => if k.getD i 0 > l.getD i 0 then some ([(i : Int)], k.getD i 0) else none
def pairV (k l : List Int) (d n : Nat) : Option (List Int × Int) :=
  (List.range n).findSome? fun c => (carryV k l c d).map fun p => ([(c : Int), (d : Int)], p)
def carriesV (k l : List Int) (n : Nat) : Option (List Int × Int) :=
  (List.range n).findSome? fun d => pairV k l d d
def faultV (k l : List Int) : Option (List Int × Int) :=
  match stepV k l k.length with
  | some x => some x
  | none => carriesV k l k.length
theorem range_some {α : Type} (f : Nat → Option α) (n : Nat) : (List.range (n + 1)).findSome? f = ((List.range n).findSome? f).or (f n) := by
  rw [List.range_succ, List.findSome?_append]
  congr 1
  simp
theorem range_some_first {α : Type} {f : Nat → Option α} {x : α} : ∀ (n i : Nat), i < n → (List.range i).findSome? f = none → f i = some x → (List.range n).findSome? f = some x
  | 0, _, h, _, _ => absurd h (Nat.not_lt_zero _)
  | n + 1, i, h, h0, hx => by
    rw [range_some]
    by_cases e : i = n
    · subst e
      rw [h0, hx]
      rfl
    · rw [range_some_first n i (by omega) h0 hx]
      rfl
end Dg
namespace Dg
def preP (g : Nat → Nat → Int) : Nat → Nat → Int
  | 0, _ => 0
  | i + 1, v => 2 * preP g i v + g i v
def redP (g : Nat → Nat → Int) (k : Nat → Nat) : Nat → Int
  | 0 => 0
  | i + 1 => 2 * redP g k i + g i (k i)
structure Bits (g : Nat → Nat → Int) : Prop where
  lo : ∀ i v, 0 ≤ g i v
  hi : ∀ i v, g i v ≤ 1
theorem preP_mono {g : Nat → Nat → Int} (B : Bits g) {v w : Nat} : ∀ (n i : Nat), i ≤ n → preP g n v ≤ preP g n w → preP g i v ≤ preP g i w
  | 0, i, h, hn => by
    have : i = 0 := by omega
    subst this
    exact hn
  | n + 1, i, h, hn => by
    by_cases e : i = n + 1
    · subst e
      exact hn
    · refine preP_mono B n i (by omega) ?_
      have h1 := B.lo n v
      have h2 := B.hi n w
      simp only [preP] at hn
      omega
structure Crit (k l : Nat → Nat) (n : Nat) : Prop where
  le : ∀ i, i < n → k i ≤ l i
  adj : ∀ i, i + 1 < n → k (i + 1) = l (i + 1) ∨ (k i ≤ k (i + 1) ∧ l (i + 1) ≤ l i)
theorem crit_same {g : Nat → Nat → Int} {k l : Nat → Nat} {n : Nat} (C : Crit k l n) (M : ∀ i v w, i ≤ n → v ≤ w → preP g i v ≤ preP g i w) :
    ∀ x, x < n → (∀ j, j ≤ x → g j (k j) = g j (l j)) → ∀ lo hi, k x ≤ lo → lo ≤ hi → hi ≤ l x → preP g (x + 1) lo = preP g (x + 1) hi
  | 0, hx, hd, lo, hi, h1, h2, h3 => by
    have a1 := M 1 (k 0) lo (by omega) h1
    have a2 := M 1 lo hi (by omega) h2
    have a3 := M 1 hi (l 0) (by omega) h3
    have e : preP g 1 (k 0) = preP g 1 (l 0) := by
      simp only [preP]
      rw [hd 0 (Nat.le_refl _)]
    show preP g 1 lo = preP g 1 hi
    omega
  | x + 1, hx, hd, lo, hi, h1, h2, h3 => by
    rcases C.adj x hx with e | ⟨e1, e2⟩
    · have : lo = hi := by omega
      rw [this]
    · have hk := C.le (x + 1) hx
      have e : preP g (x + 1) (k (x + 1)) = preP g (x + 1) (l (x + 1)) := crit_same C M x (by omega) (fun j hj => hd j (by omega)) _ _ e1 hk e2
      have e' : preP g (x + 2) (k (x + 1)) = preP g (x + 2) (l (x + 1)) := by
        show 2 * preP g (x + 1) (k (x + 1)) + g (x + 1) (k (x + 1)) = 2 * preP g (x + 1) (l (x + 1)) + g (x + 1) (l (x + 1))
        rw [e, hd (x + 1) (Nat.le_refl _)]
      have a1 := M (x + 2) (k (x + 1)) lo (by omega) h1
      have a2 := M (x + 2) lo hi (by omega) h2
      have a3 := M (x + 2) hi (l (x + 1)) (by omega) h3
      show preP g (x + 2) lo = preP g (x + 2) hi
      omega
theorem crit_le {g : Nat → Nat → Int} (B : Bits g) {k l : Nat → Nat} {n : Nat} (C : Crit k l n) (M : ∀ i v w, i ≤ n → v ≤ w → preP g i v ≤ preP g i w) :
    ∀ i, i ≤ n → redP g k i < redP g l i ∨ (redP g k i = redP g l i ∧ ∀ j, j < i → g j (k j) = g j (l j))
  | 0, _ => .inr ⟨rfl, fun j h => absurd h (Nat.not_lt_zero _)⟩
  | i + 1, hi => by
    have b1 := B.lo i (k i)
    have b2 := B.hi i (k i)
    have b3 := B.lo i (l i)
    have b4 := B.hi i (l i)
    have ek : redP g k (i + 1) = 2 * redP g k i + g i (k i) := rfl
    have el : redP g l (i + 1) = 2 * redP g l i + g i (l i) := rfl
    rcases crit_le B C M i (by omega) with h | ⟨h, hd⟩
    · left
      omega
    · have hk := C.le i (by omega)
      have key : g i (k i) ≤ g i (l i) := by
        have m1 := M (i + 1) (k i) (l i) hi hk
        have e1 : preP g (i + 1) (k i) = 2 * preP g i (k i) + g i (k i) := rfl
        have e2 : preP g (i + 1) (l i) = 2 * preP g i (l i) + g i (l i) := rfl
        cases i with
        | zero =>
          have z1 : preP g 0 (k 0) = 0 := rfl
          have z2 : preP g 0 (l 0) = 0 := rfl
          omega
        | succ x =>
          rcases C.adj x (by omega) with e | ⟨f1, f2⟩
          · rw [e]
            exact Int.le_refl _
          · have e := crit_same C M x (by omega) (fun j hj => hd j (by omega)) _ _ f1 hk f2
            omega
      by_cases e : g i (k i) = g i (l i)
      · right
        refine ⟨by omega, fun j hj => ?_⟩
        by_cases hj2 : j = i
        · subst hj2
          exact e
        · exact hd j (by omega)
      · left
        omega
end Dg
namespace Dg
def numV (r : List Int) : Int := r.foldl (fun a d => 2 * a + d) 0
def rowsV : Nat → List (List Int)
  | 0 => [[]]
  | n + 1 => (rowsV n).flatMap fun r => [r ++ [0], r ++ [1]]
theorem numV_snoc (r : List Int) (d : Int) : numV (r ++ [d]) = 2 * numV r + d := by
  unfold numV
  rw [List.foldl_append]
  rfl
def IsBits (n : Nat) (r : List Int) : Prop := r.length = n ∧ ∀ d ∈ r, d = 0 ∨ d = 1
theorem snoc_of {α : Type} {n : Nat} {r : List α} (h : r.length = n + 1) : ∃ s d, r = s ++ [d] ∧ s.length = n := by
  rcases List.eq_nil_or_concat r with e | ⟨s, d, e⟩
  · rw [e] at h
    simp at h
  · rw [List.concat_eq_append] at e
    refine ⟨s, d, e, ?_⟩
    rw [e] at h
    simp at h
    exact h
theorem mem_rowsV : ∀ (n : Nat) (r : List Int), r ∈ rowsV n ↔ IsBits n r
  | 0, r => by
    unfold IsBits rowsV
    constructor
    · intro h
      have e : r = [] := by simpa using h
      subst e
      exact ⟨rfl, fun d hd => by simp at hd⟩
    · intro h
      have e : r = [] := List.eq_nil_of_length_eq_zero h.1
      rw [e]
      simp
  | n + 1, r => by
    unfold rowsV
    rw [List.mem_flatMap]
    constructor
    · rintro ⟨s, hs, hr⟩
      have hb := (mem_rowsV n s).mp hs
      have hr' : r = s ++ [0] ∨ r = s ++ [1] := by simpa using hr
      rcases hr' with e | e <;> subst e
      · refine ⟨by rw [List.length_append, hb.1]; rfl, fun d hd => ?_⟩
        rcases List.mem_append.mp hd with h | h
        · exact hb.2 d h
        · left
          simpa using h
      · refine ⟨by rw [List.length_append, hb.1]; rfl, fun d hd => ?_⟩
        rcases List.mem_append.mp hd with h | h
        · exact hb.2 d h
        · right
          simpa using h
    · rintro ⟨h1, h2⟩
      obtain ⟨s, d, e, hs⟩ := snoc_of h1
      subst e
      refine ⟨s, (mem_rowsV n s).mpr ⟨hs, fun x hx => h2 x (List.mem_append_left _ hx)⟩, ?_⟩
      rcases h2 d (List.mem_append_right _ List.mem_cons_self) with e | e <;> rw [e] <;> simp
theorem rowsV_len (n : Nat) : (rowsV n).length = 2 ^ n := by
  induction n with
  | zero => rfl
  | succ n ih =>
    unfold rowsV
    rw [List.length_flatMap]
    have e : (List.map (fun a => ([a ++ [(0 : Int)], a ++ [1]] : List (List Int)).length) (rowsV n)) = List.replicate (rowsV n).length 2 := by
      rw [List.eq_replicate_iff]
      refine ⟨by rw [List.length_map], fun b hb => ?_⟩
      obtain ⟨a, _, rfl⟩ := List.mem_map.mp hb
      rfl
    rw [e, List.sum_replicate_nat, ih, Nat.pow_succ]
theorem rowsV_pw : ∀ n : Nat, (rowsV n).Pairwise fun a b => numV a < numV b
  | 0 => by
    unfold rowsV
    simp
  | n + 1 => by
    unfold rowsV
    rw [List.pairwise_flatMap]
    refine ⟨fun a _ => ?_, ?_⟩
    · simp only [List.pairwise_cons, List.mem_cons, List.mem_nil_iff, or_false, forall_eq, List.not_mem_nil, false_imp_iff, implies_true, List.Pairwise.nil, and_true]
      rw [numV_snoc, numV_snoc]
      omega
    · refine (rowsV_pw n).imp fun {a b} h x hx y hy => ?_
      have hx' : x = a ++ [0] ∨ x = a ++ [1] := by simpa using hx
      have hy' : y = b ++ [0] ∨ y = b ++ [1] := by simpa using hy
      rcases hx' with e | e <;> rcases hy' with e2 | e2 <;> rw [e, e2, numV_snoc, numV_snoc] <;> omega
def firstV (rows one : List (List Int)) : Nat := match one.getLast? with
  | none => 0
  | some r => rows.findIdx (fun x => decide (x = r))
def risV (rows : List (List Int)) : Nat → List (List (List Int))
  | 0 => [[]]
  | n + 1 => (risV rows n).flatMap fun one => (rows.drop (firstV rows one)).map fun row => one ++ [row]
structure IsRis (rows : List (List Int)) (m : Nat) (rs : List (List Int)) : Prop where
  len : rs.length = m
  mem : ∀ r ∈ rs, r ∈ rows
  up : rs.Pairwise fun a b => numV a ≤ numV b
theorem getLast_snoc {α : Type} (s : List α) (d : α) : (s ++ [d]).getLast? = some d := by simp
theorem drop_le {rows : List (List Int)} (pw : rows.Pairwise fun a b => numV a < numV b) {x y : List Int} {j : Nat} (hx : rows[j]? = some x) (hy : y ∈ rows.drop j) : numV x ≤ numV y := by
  have hj : j < rows.length := (List.getElem?_eq_some_iff.mp hx).1
  have e : rows.drop j = x :: rows.drop (j + 1) := by
    rw [List.drop_eq_getElem_cons hj]
    congr 1
    exact (List.getElem?_eq_some_iff.mp hx).2
  rw [e] at hy
  have pw2 : (rows.drop j).Pairwise fun a b => numV a < numV b := pw.sublist (List.drop_sublist _ _)
  rw [e] at pw2
  rcases List.mem_cons.mp hy with h | h
  · rw [h]
    exact Int.le_refl _
  · exact Int.le_of_lt (List.rel_of_pairwise_cons pw2 h)
theorem mem_drop {rows : List (List Int)} (pw : rows.Pairwise fun a b => numV a < numV b) {x y : List Int} {j : Nat} (hx : rows[j]? = some x) (hy : y ∈ rows) (h : numV x ≤ numV y) : y ∈ rows.drop j := by
  rw [← List.take_append_drop j rows] at hy
  rcases List.mem_append.mp hy with h1 | h1
  · exfalso
    have hj : j < rows.length := (List.getElem?_eq_some_iff.mp hx).1
    have hxd : x ∈ rows.drop j := by
      rw [List.drop_eq_getElem_cons hj, (List.getElem?_eq_some_iff.mp hx).2]
      exact List.mem_cons_self
    have pw' := pw
    rw [← List.take_append_drop j rows, List.pairwise_append] at pw'
    have := pw'.2.2 y h1 x hxd
    omega
  · exact h1
theorem find_at {rows : List (List Int)} {r : List Int} (h : r ∈ rows) : rows[rows.findIdx (fun x => decide (x = r))]? = some r := by
  have hlt : rows.findIdx (fun x => decide (x = r)) < rows.length := List.findIdx_lt_length_of_exists ⟨r, h, by simp⟩
  rw [List.getElem?_eq_getElem hlt]
  have := List.findIdx_getElem (w := hlt)
  rw [of_decide_eq_true this]
theorem mem_risV {rows : List (List Int)} (pw : rows.Pairwise fun a b => numV a < numV b) : ∀ (m : Nat) (rs : List (List Int)), rs ∈ risV rows m ↔ IsRis rows m rs
  | 0, rs => by
    unfold risV
    constructor
    · intro h
      have e : rs = [] := by simpa using h
      subst e
      exact ⟨rfl, fun r hr => by simp at hr, List.Pairwise.nil⟩
    · intro h
      rw [List.eq_nil_of_length_eq_zero h.len]
      simp
  | m + 1, rs => by
    unfold risV
    rw [List.mem_flatMap]
    constructor
    · rintro ⟨one, ho, hr⟩
      obtain ⟨row, hrow, rfl⟩ := List.mem_map.mp hr
      have H := (mem_risV pw m one).mp ho
      refine ⟨by rw [List.length_append, H.len]; rfl, fun r hr => ?_, ?_⟩
      · rcases List.mem_append.mp hr with h | h
        · exact H.mem r h
        · have e : r = row := by simpa using h
          rw [e]
          exact List.mem_of_mem_drop hrow
      · rw [List.pairwise_append]
        refine ⟨H.up, by simp, fun a ha b hb => ?_⟩
        have eb : b = row := by simpa using hb
        subst eb
        rcases List.eq_nil_or_concat one with e | ⟨s, d, e⟩
        · rw [e] at ha
          simp at ha
        · have e' : one = s ++ [d] := e.trans (List.concat_eq_append)
          have hf : firstV rows one = rows.findIdx (fun x => decide (x = d)) := by
            unfold firstV
            rw [e', getLast_snoc]
          have hd : d ∈ rows := H.mem d (by rw [e']; simp)
          have h1 : numV d ≤ numV b := drop_le pw (find_at hd) (by rw [← hf]; exact hrow)
          rw [e'] at ha
          rcases List.mem_append.mp ha with h | h
          · have up := H.up
            rw [e', List.pairwise_append] at up
            have := up.2.2 a h d List.mem_cons_self
            omega
          · have : a = d := by simpa using h
            rw [this]
            exact h1
    · rintro ⟨h1, h2, h3⟩
      obtain ⟨s, d, e, hs⟩ := snoc_of h1
      subst e
      rw [List.pairwise_append] at h3
      refine ⟨s, (mem_risV pw m s).mpr ⟨hs, fun r hr => h2 r (List.mem_append_left _ hr), h3.1⟩, List.mem_map.mpr ⟨d, ?_, rfl⟩⟩
      have hd : d ∈ rows := h2 d (by simp)
      rcases List.eq_nil_or_concat s with e | ⟨t, x, e⟩
      · unfold firstV
        rw [e]
        exact hd
      · have e' : s = t ++ [x] := e.trans (List.concat_eq_append)
        have hf : firstV rows s = rows.findIdx (fun y => decide (y = x)) := by
          unfold firstV
          rw [e', getLast_snoc]
        rw [hf]
        refine mem_drop pw (find_at (h2 x (by rw [e']; simp))) hd (h3.2.2 x (by rw [e']; simp) d List.mem_cons_self)
theorem risV_len (rows : List (List Int)) (R : Nat) (h : rows.length ≤ R) : ∀ m, (risV rows m).length ≤ R ^ m
  | 0 => by simp [risV]
  | m + 1 => by
    unfold risV
    rw [List.length_flatMap]
    have ih := risV_len rows R h m
    have key : ∀ l : List (List (List Int)), (l.map fun one => ((rows.drop (firstV rows one)).map fun row => one ++ [row]).length).sum ≤ l.length * R := by
      intro l
      induction l with
      | nil => simp
      | cons a r ih2 =>
        rw [List.map_cons, List.sum_cons, List.length_cons, Nat.succ_mul]
        have : ((rows.drop (firstV rows a)).map fun row => a ++ [row]).length ≤ R := by
          rw [List.length_map, List.length_drop]
          omega
        omega
    refine Nat.le_trans (key _) ?_
    rw [Nat.pow_succ]
    exact Nat.mul_le_mul_right _ ih
end Dg
namespace Dg
def rowV (rows : List (List Int)) (k : List Int) : List Int := (List.range k.length).map fun i => (rows.getD (k.getD i 0).toNat []).getD i 0
def digV (rows : List (List Int)) (i v : Nat) : Int := (rows.getD (min v (rows.length - 1)) []).getD i 0
def verV (k : List Int) (i : Nat) : Nat := (k.getD i 0).toNat
structure InV (k : List Int) (m : Nat) : Prop where
  lo : ∀ i, 0 ≤ k.getD i 0
  hi : ∀ i, k.getD i 0 ≤ (m : Int)
theorem num_row {rows : List (List Int)} {k : List Int} {m : Nat} (h : InV k m) (hr : rows.length = m + 1) : ∀ n, n ≤ k.length →
    numV ((List.range n).map fun i => (rows.getD (k.getD i 0).toNat []).getD i 0) = redP (digV rows) (verV k) n
  | 0, _ => rfl
  | n + 1, hn => by
    rw [List.range_succ, List.map_append, List.map_cons, List.map_nil, numV_snoc, num_row h hr n (by omega)]
    have h1 := h.lo n
    have h2 := h.hi n
    have e : min (verV k n) (rows.length - 1) = (k.getD n 0).toNat := by
      unfold verV
      omega
    show _ = 2 * redP (digV rows) (verV k) n + digV rows n (verV k n)
    unfold digV
    rw [e]
theorem num_row' {rows : List (List Int)} {k : List Int} {m : Nat} (h : InV k m) (hr : rows.length = m + 1) : numV (rowV rows k) = redP (digV rows) (verV k) k.length := num_row h hr _ (Nat.le_refl _)
theorem getD_bits {n : Nat} {r : List Int} (h : IsBits n r) (i : Nat) : 0 ≤ r.getD i 0 ∧ r.getD i 0 ≤ 1 := by
  rw [List.getD_eq_getElem?_getD]
  cases e : r[i]? with
  | none => simp
  | some d =>
    have := h.2 d (List.mem_of_getElem? e)
    simp only [Option.getD_some]
    omega
theorem dig_row {rows : List (List Int)} {m : Nat} (hr : rows.length = m + 1) (v : Nat) : ∃ r, r ∈ rows ∧ (∀ i, digV rows i v = r.getD i 0) ∧ rows[min v (rows.length - 1)]? = some r := by
  have hlt : min v (rows.length - 1) < rows.length := by omega
  refine ⟨rows[min v (rows.length - 1)], List.getElem_mem hlt, fun i => ?_, List.getElem?_eq_getElem hlt⟩
  unfold digV
  rw [List.getD_eq_getElem?_getD (l := rows), List.getElem?_eq_getElem hlt]
  rfl
theorem pre_num {g : Nat → Nat → Int} {r : List Int} {v : Nat} (h : ∀ i, g i v = r.getD i 0) : ∀ n, n ≤ r.length → preP g n v = numV (r.take n)
  | 0, _ => rfl
  | n + 1, hn => by
    have hlt : n < r.length := by omega
    have e : r.take (n + 1) = r.take n ++ [r.getD n 0] := by
      rw [List.take_add_one, List.getElem?_eq_getElem hlt, List.getD_eq_getElem?_getD, List.getElem?_eq_getElem hlt]
      rfl
    rw [e, numV_snoc, ← pre_num h n (by omega)]
    show 2 * preP g n v + g n v = _
    rw [h]
theorem ris_mono {n m : Nat} {rows : List (List Int)} (R : IsRis (rowsV n) (m + 1) rows) : ∀ i v w, i ≤ n → v ≤ w → preP (digV rows) i v ≤ preP (digV rows) i w := by
  have B : Bits (digV rows) := by
    constructor
    · intro i v
      obtain ⟨r, hr, hd, _⟩ := dig_row R.len v
      rw [hd]
      exact (getD_bits ((mem_rowsV n r).mp (R.mem r hr)) i).1
    · intro i v
      obtain ⟨r, hr, hd, _⟩ := dig_row R.len v
      rw [hd]
      exact (getD_bits ((mem_rowsV n r).mp (R.mem r hr)) i).2
  intro i v w hi hvw
  refine preP_mono B n i hi ?_
  obtain ⟨r, hr, hd, e1⟩ := dig_row R.len v
  obtain ⟨s, hs, hd2, e2⟩ := dig_row R.len w
  have lr := ((mem_rowsV n r).mp (R.mem r hr)).1
  have ls := ((mem_rowsV n s).mp (R.mem s hs)).1
  rw [pre_num hd n (by omega), pre_num hd2 n (by omega), List.take_of_length_le (by omega), List.take_of_length_le (by omega)]
  by_cases e : min v (rows.length - 1) = min w (rows.length - 1)
  · rw [e, e2] at e1
    have := Option.some.inj e1
    rw [this]
    exact Int.le_refl _
  · have up := List.pairwise_iff_getElem.mp R.up (min v (rows.length - 1)) (min w (rows.length - 1)) (List.getElem?_eq_some_iff.mp e1).1 (List.getElem?_eq_some_iff.mp e2).1 (by omega)
    rw [(List.getElem?_eq_some_iff.mp e1).2, (List.getElem?_eq_some_iff.mp e2).2] at up
    exact up
theorem ris_bits {n m : Nat} {rows : List (List Int)} (R : IsRis (rowsV n) (m + 1) rows) : Bits (digV rows) := by
  constructor
  · intro i v
    obtain ⟨r, hr, hd, _⟩ := dig_row R.len v
    rw [hd]
    exact (getD_bits ((mem_rowsV n r).mp (R.mem r hr)) i).1
  · intro i v
    obtain ⟨r, hr, hd, _⟩ := dig_row R.len v
    rw [hd]
    exact (getD_bits ((mem_rowsV n r).mp (R.mem r hr)) i).2
theorem some_none {α : Type} {f : Nat → Option α} {n : Nat} (h : (List.range n).findSome? f = none) : ∀ i, i < n → f i = none := by
  intro i hi
  rw [List.findSome?_eq_none_iff] at h
  exact h i (List.mem_range.mpr hi)
theorem some_some {α : Type} {f : Nat → Option α} {n : Nat} {x : α} (h : (List.range n).findSome? f = some x) : ∃ i, i < n ∧ f i = some x := by
  obtain ⟨i, hi, e⟩ := List.exists_of_findSome?_eq_some h
  exact ⟨i, List.mem_range.mp hi, e⟩
theorem fault_none {k l : List Int} (h : faultV k l = none) : (∀ i, i < k.length → k.getD i 0 ≤ l.getD i 0) ∧ ∀ d, d < k.length → ∀ c, c < d → carryV k l c d = none := by
  unfold faultV at h
  cases hs : stepV k l k.length with
  | some x =>
    rw [hs] at h
    cases h
  | none =>
    rw [hs] at h
    refine ⟨fun i hi => ?_, fun d hd c hc => ?_⟩
    · have := some_none hs i hi
      by_cases e : k.getD i 0 > l.getD i 0
      · rw [if_pos e] at this
        cases this
      · omega
    · have h1 : pairV k l d d = none := some_none h d hd
      have h2 := some_none h1 c hc
      cases e : carryV k l c d with
      | none => rfl
      | some p =>
        rw [e] at h2
        cases h2
theorem carry_none {k l : List Int} {c d : Nat} (h : carryV k l c d = none) : k.getD d 0 = l.getD d 0 ∨ (k.getD c 0 ≤ k.getD d 0 ∧ l.getD d 0 ≤ l.getD c 0) := by
  unfold carryV at h
  by_cases e : k.getD d 0 = l.getD d 0
  · exact .inl e
  · rw [if_neg e] at h
    by_cases e1 : k.getD c 0 > k.getD d 0
    · rw [if_pos e1] at h
      cases h
    · rw [if_neg e1] at h
      by_cases e2 : l.getD d 0 > l.getD c 0
      · rw [if_pos e2] at h
        cases h
      · exact .inr ⟨by omega, by omega⟩
theorem fault_none_le {n m : Nat} {k l : List Int} {rows : List (List Int)} (hk : InV k m) (hl : InV l m) (nk : k.length = n) (nl : l.length = n) (h : faultV k l = none) (R : IsRis (rowsV n) (m + 1) rows) : numV (rowV rows k) ≤ numV (rowV rows l) := by
  rw [num_row' hk R.len, num_row' hl R.len, nk, nl]
  obtain ⟨h1, h2⟩ := fault_none h
  have C : Crit (verV k) (verV l) n := by
    constructor
    · intro i hi
      have := h1 i (by omega)
      unfold verV
      omega
    · intro i hi
      unfold verV
      have a1 := hk.lo (i + 1)
      have a2 := hl.lo (i + 1)
      rcases carry_none (h2 (i + 1) (by omega) i (by omega)) with e | ⟨e1, e2⟩
      · left
        rw [e]
      · right
        omega
  rcases crit_le (ris_bits R) C (ris_mono R) n (Nat.le_refl _) with e | ⟨e, _⟩ <;> omega
theorem gt_up {g : Nat → Nat → Int} (B : Bits g) {k l : Nat → Nat} {i : Nat} (h : redP g l i < redP g k i) : ∀ n, i ≤ n → redP g l n < redP g k n
  | 0, hn => by
    have : i = 0 := by omega
    subst this
    exact h
  | n + 1, hn => by
    by_cases e : i = n + 1
    · subst e
      exact h
    · have ih := gt_up B h n (by omega)
      have b1 := B.hi n (l n)
      have b2 := B.lo n (k n)
      show 2 * redP g l n + g n (l n) < 2 * redP g k n + g n (k n)
      omega
theorem eq_up {g : Nat → Nat → Int} {k l : Nat → Nat} {i : Nat} (h : redP g k i = redP g l i) : ∀ n, i ≤ n → (∀ j, i ≤ j → j < n → g j (k j) = g j (l j)) → redP g k n = redP g l n
  | 0, hn, _ => by
    have : i = 0 := by omega
    subst this
    exact h
  | n + 1, hn, hd => by
    by_cases e : i = n + 1
    · subst e
      exact h
    · have ih := eq_up h n (by omega) fun j a b => hd j a (by omega)
      show 2 * redP g k n + g n (k n) = 2 * redP g l n + g n (l n)
      rw [ih, hd n (by omega) (by omega)]
def lowV (n : Nat) (cs : List Int) : List Int := if cs.length = 2 then (List.replicate n 0).set (cs.getD 1 0).toNat 1 else List.replicate n 0
def highV (n : Nat) (cs : List Int) : List Int := (List.replicate n 0).set (cs.getD 0 0).toNat 1
def turnV (n : Nat) (cs : List Int) (p last : Int) : List (List Int) := List.replicate p.toNat (lowV n cs) ++ List.replicate (last + 1 - p).toNat (highV n cs)
theorem set_bits (n j : Nat) : IsBits n ((List.replicate n (0 : Int)).set j 1) := by
  refine ⟨by simp, fun d hd => ?_⟩
  rcases List.mem_or_eq_of_mem_set hd with h | h
  · left
    exact (List.mem_replicate.mp h).2
  · right
    exact h
theorem zero_bits (n : Nat) : IsBits n (List.replicate n (0 : Int)) := ⟨by simp, fun d hd => .inl (List.mem_replicate.mp hd).2⟩
theorem low_bits (n : Nat) (cs : List Int) : IsBits n (lowV n cs) := by
  unfold lowV
  split
  · exact set_bits n _
  · exact zero_bits n
theorem getD_set0 (n j i : Nat) (hj : j < n) : ((List.replicate n (0 : Int)).set j 1).getD i 0 = if i = j then 1 else 0 := by
  rw [List.getD_eq_getElem?_getD]
  by_cases e : i = j
  · subst e
    rw [if_pos rfl, List.getElem?_set_self (by simpa using hj)]
    rfl
  · rw [if_neg e, List.getElem?_set_ne (fun z => e z.symm)]
    rw [List.getElem?_replicate]
    split <;> rfl
theorem getD_zero (n i : Nat) : (List.replicate n (0 : Int)).getD i 0 = 0 := by
  rw [List.getD_eq_getElem?_getD, List.getElem?_replicate]
  split <;> rfl
theorem turn_len {n : Nat} {cs : List Int} {p last : Int} (h0 : 0 ≤ p) (h1 : p ≤ last) : (turnV n cs p last).length = last.toNat + 1 := by
  unfold turnV
  rw [List.length_append, List.length_replicate, List.length_replicate]
  omega
theorem turn_at {n : Nat} {cs : List Int} {p last : Int} (h0 : 0 ≤ p) (h1 : p ≤ last) (v : Nat) (hv : v ≤ last.toNat) : (turnV n cs p last).getD v [] = if (v : Int) < p then lowV n cs else highV n cs := by
  unfold turnV
  rw [List.getD_eq_getElem?_getD, List.getElem?_append, List.length_replicate]
  by_cases e : v < p.toNat
  · rw [if_pos e, List.getElem?_replicate, if_pos e, if_pos (by omega)]
    rfl
  · rw [if_neg e, List.getElem?_replicate, if_pos (by omega), if_neg (by omega)]
    rfl
theorem turn_dig {n : Nat} {cs : List Int} {p last : Int} (h0 : 0 ≤ p) (h1 : p ≤ last) (i v : Nat) (hv : v ≤ last.toNat) : digV (turnV n cs p last) i v = if (v : Int) < p then (lowV n cs).getD i 0 else (highV n cs).getD i 0 := by
  unfold digV
  rw [turn_len h0 h1, show min v (last.toNat + 1 - 1) = v by omega, turn_at h0 h1 v hv]
  split <;> rfl
theorem fault_some {n m : Nat} {k l : List Int} {cs : List Int} {p : Int} (hk : InV k m) (hl : InV l m) (nk : k.length = n) (nl : l.length = n) (h : faultV k l = some (cs, p)) :
    (1 ≤ p ∧ p ≤ m) ∧ ((∃ c : Nat, c < n ∧ cs = [(c : Int)] ∧ p ≤ k.getD c 0 ∧ l.getD c 0 < p) ∨
      ∃ c d : Nat, c < d ∧ d < n ∧ cs = [(c : Int), (d : Int)] ∧ k.getD d 0 < p ∧ p ≤ l.getD d 0 ∧ k.getD c 0 ≤ l.getD c 0 ∧ (p ≤ k.getD c 0 ∨ l.getD c 0 < p)) := by
  unfold faultV at h
  cases hs : stepV k l k.length with
  | some x =>
    rw [hs] at h
    obtain ⟨i, hi, e⟩ := some_some hs
    have hx : x = (cs, p) := Option.some.inj h
    by_cases g : k.getD i 0 > l.getD i 0
    · rw [if_pos g] at e
      have e2 := (Option.some.inj e).trans hx
      have c1 : [(i : Int)] = cs := congrArg Prod.fst e2
      have c2 : k.getD i 0 = p := congrArg Prod.snd e2
      have a1 := hl.lo i
      have a2 := hk.hi i
      exact ⟨⟨by omega, by omega⟩, .inl ⟨i, by omega, c1.symm, by omega, by omega⟩⟩
    · rw [if_neg g] at e
      cases e
  | none =>
    rw [hs] at h
    have hle : ∀ i, i < k.length → k.getD i 0 ≤ l.getD i 0 := fun i hi => by
      have := some_none hs i hi
      by_cases e : k.getD i 0 > l.getD i 0
      · rw [if_pos e] at this
        cases this
      · omega
    obtain ⟨d, hd, h1⟩ := some_some (show (List.range k.length).findSome? (fun d => pairV k l d d) = some (cs, p) from h)
    obtain ⟨c, hc, h2⟩ := some_some (show (List.range d).findSome? (fun c => (carryV k l c d).map fun p => ([(c : Int), (d : Int)], p)) = some (cs, p) from h1)
    have q1 := hle d hd
    have q2 := hle c (by omega)
    have a1 := hk.lo d
    have a2 := hl.hi d
    have a3 := hk.lo c
    cases e : carryV k l c d with
    | none =>
      rw [e] at h2
      cases h2
    | some q =>
      rw [e] at h2
      have e2 : (([(c : Int), (d : Int)], q) : List Int × Int) = (cs, p) := Option.some.inj h2
      have c1 : [(c : Int), (d : Int)] = cs := congrArg Prod.fst e2
      have c2 : q = p := congrArg Prod.snd e2
      subst c2
      unfold carryV at e
      by_cases g0 : k.getD d 0 = l.getD d 0
      · rw [if_pos g0] at e
        cases e
      · rw [if_neg g0] at e
        by_cases g1 : k.getD c 0 > k.getD d 0
        · rw [if_pos g1] at e
          have := Option.some.inj e
          exact ⟨⟨by omega, by omega⟩, .inr ⟨c, d, hc, by omega, c1.symm, by omega, by omega, q2, .inl (by omega)⟩⟩
        · rw [if_neg g1] at e
          by_cases g2 : l.getD d 0 > l.getD c 0
          · rw [if_pos g2] at e
            have := Option.some.inj e
            exact ⟨⟨by omega, by omega⟩, .inr ⟨c, d, hc, by omega, c1.symm, by omega, by omega, q2, .inr (by omega)⟩⟩
          · rw [if_neg g2] at e
            cases e
theorem red_zero {g : Nat → Nat → Int} {k : Nat → Nat} : ∀ n, (∀ i, i < n → g i (k i) = 0) → redP g k n = 0
  | 0, _ => rfl
  | n + 1, h => by
    show 2 * redP g k n + g n (k n) = 0
    rw [red_zero n fun i hi => h i (by omega), h n (by omega)]
    rfl
theorem turn_bits {n : Nat} {cs : List Int} {p last : Int} : Bits (digV (turnV n cs p last)) := by
  have key : ∀ i v, 0 ≤ digV (turnV n cs p last) i v ∧ digV (turnV n cs p last) i v ≤ 1 := by
    intro i v
    unfold digV
    have : ∀ r, r ∈ turnV n cs p last → IsBits n r := by
      intro r hr
      unfold turnV at hr
      rcases List.mem_append.mp hr with h | h
      · rw [(List.mem_replicate.mp h).2]
        exact low_bits n cs
      · rw [(List.mem_replicate.mp h).2]
        exact set_bits n _
    rw [List.getD_eq_getElem?_getD (l := turnV n cs p last)]
    cases e : (turnV n cs p last)[min v ((turnV n cs p last).length - 1)]? with
    | none => simp
    | some r => exact getD_bits (this r (List.mem_of_getElem? e)) i
  exact ⟨fun i v => (key i v).1, fun i v => (key i v).2⟩
theorem fault_gt {n m : Nat} {k l : List Int} {cs : List Int} {p : Int} {last : Int} (hk : InV k m) (hl : InV l m) (nk : k.length = n) (nl : l.length = n) (h : faultV k l = some (cs, p))
    (hm : last = (m : Int)) : numV (rowV (turnV n cs p last) l) < numV (rowV (turnV n cs p last) k) := by
  subst hm
  obtain ⟨⟨p1, p2⟩, hc⟩ := fault_some hk hl nk nl h
  have tl : (turnV n cs p (m : Int)).length = m + 1 := by
    rw [turn_len (by omega) p2]
    rfl
  rw [num_row' hl tl, num_row' hk tl, nk, nl]
  have dk : ∀ i, digV (turnV n cs p (m : Int)) i (verV k i) = if k.getD i 0 < p then (lowV n cs).getD i 0 else (highV n cs).getD i 0 := fun i => by
    have a1 := hk.lo i
    have a2 := hk.hi i
    rw [turn_dig (by omega) p2 i _ (by unfold verV; omega)]
    have e : ((verV k i : Nat) : Int) = k.getD i 0 := by
      unfold verV
      omega
    rw [e]
  have dl : ∀ i, digV (turnV n cs p (m : Int)) i (verV l i) = if l.getD i 0 < p then (lowV n cs).getD i 0 else (highV n cs).getD i 0 := fun i => by
    have a1 := hl.lo i
    have a2 := hl.hi i
    rw [turn_dig (by omega) p2 i _ (by unfold verV; omega)]
    have e : ((verV l i : Nat) : Int) = l.getD i 0 := by
      unfold verV
      omega
    rw [e]
  rcases hc with ⟨c, hcn, ecs, h1, h2⟩ | ⟨c, d, hcd, hdn, ecs, h1, h2, h3, h4⟩
  · have lo0 : ∀ i, (lowV n cs).getD i 0 = 0 := fun i => by
      unfold lowV
      rw [ecs, if_neg (by simp)]
      exact getD_zero n i
    have hi0 : ∀ i, (highV n cs).getD i 0 = if i = c then 1 else 0 := fun i => by
      unfold highV
      rw [ecs]
      exact getD_set0 n c i hcn
    have z1 : redP (digV (turnV n cs p (m : Int))) (verV k) c = redP (digV (turnV n cs p (m : Int))) (verV l) c := by
      rw [red_zero c fun i hi => by
        rw [dk, lo0, hi0, if_neg (show ¬ i = c by omega)]
        split <;> rfl]
      rw [red_zero c fun i hi => by
        rw [dl, lo0, hi0, if_neg (show ¬ i = c by omega)]
        split <;> rfl]
    refine gt_up turn_bits (i := c + 1) ?_ n (by omega)
    show 2 * redP _ (verV l) c + digV _ c (verV l c) < 2 * redP _ (verV k) c + digV _ c (verV k c)
    rw [z1, dk, dl, lo0, hi0, if_pos rfl, if_pos h2, if_neg (by omega)]
    omega
  · have hi0 : ∀ i, (highV n cs).getD i 0 = if i = c then 1 else 0 := fun i => by
      unfold highV
      rw [ecs]
      exact getD_set0 n c i (by omega)
    have lo0 : ∀ i, (lowV n cs).getD i 0 = if i = d then 1 else 0 := fun i => by
      unfold lowV
      rw [ecs, if_pos (by simp)]
      exact getD_set0 n d i hdn
    have z1 : redP (digV (turnV n cs p (m : Int))) (verV k) c = redP (digV (turnV n cs p (m : Int))) (verV l) c := by
      rw [red_zero c fun i hi => by
        rw [dk, lo0, hi0, if_neg (show ¬ i = c by omega), if_neg (show ¬ i = d by omega)]
        split <;> rfl]
      rw [red_zero c fun i hi => by
        rw [dl, lo0, hi0, if_neg (show ¬ i = c by omega), if_neg (show ¬ i = d by omega)]
        split <;> rfl]
    have ck : digV (turnV n cs p (m : Int)) c (verV k c) = if k.getD c 0 < p then 0 else 1 := by
      rw [dk, lo0, hi0, if_pos rfl, if_neg (show ¬ c = d by omega)]
    have cl : digV (turnV n cs p (m : Int)) c (verV l c) = if l.getD c 0 < p then 0 else 1 := by
      rw [dl, lo0, hi0, if_pos rfl, if_neg (show ¬ c = d by omega)]
    by_cases e : (l.getD c 0 < p ∧ p ≤ k.getD c 0)
    · omega
    · by_cases e2 : digV (turnV n cs p (m : Int)) c (verV k c) = digV (turnV n cs p (m : Int)) c (verV l c)
      · have z2 : redP (digV (turnV n cs p (m : Int))) (verV k) d = redP (digV (turnV n cs p (m : Int))) (verV l) d := by
          refine eq_up z1 d (by omega) fun j hj hj2 => ?_
          by_cases ej : j = c
          · rw [ej]
            exact e2
          · rw [dk, dl, lo0, hi0, if_neg ej, if_neg (show ¬ j = d by omega)]
            split <;> split <;> rfl
        refine gt_up turn_bits (i := d + 1) ?_ n (by omega)
        show 2 * redP _ (verV l) d + digV _ d (verV l d) < 2 * redP _ (verV k) d + digV _ d (verV k d)
        rw [z2, dk, dl, lo0, hi0, if_pos rfl, if_neg (show ¬ d = c by omega), if_pos h1, if_neg (show ¬ l.getD d 0 < p by omega)]
        omega
      · exfalso
        rw [ck, cl] at e2
        rcases h4 with h | h
        · rw [if_neg (by omega), if_neg (by omega)] at e2
          exact e2 rfl
        · rw [if_pos (show k.getD c 0 < p by omega), if_pos h] at e2
          exact e2 rfl
theorem numV_le_of {n : Nat} {cs : List Int} (h : numV (lowV n cs) ≤ numV (highV n cs)) {p last : Int} : (turnV n cs p last).Pairwise fun a b => numV a ≤ numV b := by
  unfold turnV
  rw [List.pairwise_append]
  refine ⟨?_, ?_, fun a ha b hb => ?_⟩
  · rw [List.pairwise_replicate]
    exact .inr (Int.le_refl _)
  · rw [List.pairwise_replicate]
    exact .inr (Int.le_refl _)
  · rw [(List.mem_replicate.mp ha).2, (List.mem_replicate.mp hb).2]
    exact h
end Dg
namespace Dg
theorem red_const (g : Nat → Nat → Int) (v : Nat) : ∀ n, redP g (fun _ => v) n = preP g n v
  | 0 => rfl
  | n + 1 => by
    show 2 * redP g (fun _ => v) n + g n v = 2 * preP g n v + g n v
    rw [red_const g v n]
theorem num_two {n : Nat} {r s : List Int} (hr : IsBits n r) (hs : IsBits n s) {c : Nat} (hc : c < n) (heq : ∀ i, i < c → r.getD i 0 = s.getD i 0) (hlt : r.getD c 0 < s.getD c 0) : numV r ≤ numV s := by
  have B : Bits (fun i v => if v = 0 then r.getD i 0 else s.getD i 0) := by
    constructor
    · intro i v
      show (0 : Int) ≤ if v = 0 then _ else _
      split
      · exact (getD_bits hr i).1
      · exact (getD_bits hs i).1
    · intro i v
      show (if v = 0 then _ else _) ≤ (1 : Int)
      split
      · exact (getD_bits hr i).2
      · exact (getD_bits hs i).2
  have e1 : preP (fun i v => if v = 0 then r.getD i 0 else s.getD i 0) n 0 = numV r := by
    rw [pre_num (r := r) (fun i => if_pos rfl) n (by rw [hr.1]; exact Nat.le_refl _), List.take_of_length_le (by rw [hr.1]; exact Nat.le_refl _)]
  have e2 : preP (fun i v => if v = 0 then r.getD i 0 else s.getD i 0) n 1 = numV s := by
    rw [pre_num (r := s) (fun i => if_neg (by decide)) n (by rw [hs.1]; exact Nat.le_refl _), List.take_of_length_le (by rw [hs.1]; exact Nat.le_refl _)]
  have z : redP (fun i v => if v = 0 then r.getD i 0 else s.getD i 0) (fun _ => 1) c = redP (fun i v => if v = 0 then r.getD i 0 else s.getD i 0) (fun _ => 0) c :=
    eq_up (i := 0) (k := fun _ => 1) (l := fun _ => 0) rfl c (Nat.zero_le _) fun j _ hj => (heq j hj).symm
  have h := gt_up B (k := fun _ => 1) (l := fun _ => 0) (i := c + 1) (by
    show 2 * redP _ (fun _ => 0) c + r.getD c 0 < 2 * redP _ (fun _ => 1) c + s.getD c 0
    rw [z]
    omega) n (by omega)
  rw [red_const, red_const, e1, e2] at h
  omega
theorem turn_ris {n m : Nat} {k l : List Int} {cs : List Int} {p : Int} (hk : InV k m) (hl : InV l m) (nk : k.length = n) (nl : l.length = n) (h : faultV k l = some (cs, p)) : IsRis (rowsV n) (m + 1) (turnV n cs p (m : Int)) := by
  obtain ⟨⟨p1, p2⟩, hc⟩ := fault_some hk hl nk nl h
  refine ⟨?_, fun r hr => ?_, numV_le_of ?_⟩
  · rw [turn_len (by omega) p2]
    rfl
  · rw [mem_rowsV]
    unfold turnV at hr
    rcases List.mem_append.mp hr with h | h
    · rw [(List.mem_replicate.mp h).2]
      exact low_bits n cs
    · rw [(List.mem_replicate.mp h).2]
      exact set_bits n _
  · rcases hc with ⟨c, hcn, ecs, _⟩ | ⟨c, d, hcd, hdn, ecs, _⟩
    · refine num_two (low_bits n cs) (set_bits n _) hcn (fun i hi => ?_) ?_
      · unfold lowV
        rw [ecs, if_neg (by simp), getD_zero]
        show 0 = ((List.replicate n (0 : Int)).set c 1).getD i 0
        rw [getD_set0 n c i hcn, if_neg (by omega)]
      · unfold lowV
        rw [ecs, if_neg (by simp), getD_zero]
        show 0 < ((List.replicate n (0 : Int)).set c 1).getD c 0
        rw [getD_set0 n c c hcn, if_pos rfl]
        decide
    · refine num_two (low_bits n cs) (set_bits n _) (c := c) (by omega) (fun i hi => ?_) ?_
      · unfold lowV
        rw [ecs, if_pos (by simp)]
        show ((List.replicate n (0 : Int)).set d 1).getD i 0 = ((List.replicate n (0 : Int)).set c 1).getD i 0
        rw [getD_set0 n d i hdn, getD_set0 n c i (by omega), if_neg (by omega), if_neg (by omega)]
      · unfold lowV
        rw [ecs, if_pos (by simp)]
        show ((List.replicate n (0 : Int)).set d 1).getD c 0 < ((List.replicate n (0 : Int)).set c 1).getD c 0
        rw [getD_set0 n d c hdn, getD_set0 n c c (by omega), if_neg (by omega), if_pos rfl]
        decide
theorem fault_iff {n m : Nat} {k l : List Int} (hk : InV k m) (hl : InV l m) (nk : k.length = n) (nl : l.length = n) :
    faultV k l = none ↔ ((risV (rowsV n) (m + 1)).filter fun rows => !decide (numV (rowV rows k) ≤ numV (rowV rows l))) = [] := by
  constructor
  · intro h
    rw [List.filter_eq_nil_iff]
    intro rows hr
    have R := (mem_risV (rowsV_pw n) (m + 1) rows).mp hr
    have := fault_none_le hk hl nk nl h R
    simp [this]
  · intro h
    cases e : faultV k l with
    | none => rfl
    | some x =>
      obtain ⟨cs, p⟩ := x
      exfalso
      have R := turn_ris hk hl nk nl e
      have hm := (mem_risV (rowsV_pw n) (m + 1) _).mpr R
      have := fault_gt hk hl nk nl e (last := (m : Int)) rfl
      rw [List.filter_eq_nil_iff] at h
      have h2 := h _ hm
      simp at h2
      omega
def codeV (v : List Int) (c d : Nat) (p : Int) : Int := 2 * (if p ≤ v.getD c 0 then 1 else 0) + (if v.getD d 0 < p then 1 else 0)
def putPair (k l : List Int) (d c : Nat) : Bool := decide (codeV k c d (k.getD d 0 + 1) > codeV l c d (k.getD d 0 + 1)) || decide (codeV k c d (l.getD d 0) > codeV l c d (l.getD d 0))
def putCell (k l : List Int) (d : Nat) : Bool := decide (k.getD d 0 > l.getD d 0) || (List.range d).any (putPair k l d)
def putV (k l : List Int) : Bool := (List.range k.length).any (putCell k l)
theorem put_pair {k l : List Int} {c d : Nat} (hc : k.getD c 0 ≤ l.getD c 0) (hd : k.getD d 0 ≤ l.getD d 0) : putPair k l d c = (carryV k l c d).isSome := by
  unfold putPair codeV carryV
  by_cases e : k.getD d 0 = l.getD d 0
  · rw [if_pos e, e]
    rw [Bool.or_eq_false_iff.mpr ⟨decide_eq_false ?_, decide_eq_false ?_⟩]
    · rfl
    · rw [if_pos (show l.getD d 0 < l.getD d 0 + 1 by omega)]
      split <;> split <;> omega
    · rw [if_neg (show ¬ l.getD d 0 < l.getD d 0 by omega)]
      split <;> split <;> omega
  · rw [if_neg e]
    have h1 : k.getD d 0 < l.getD d 0 := by omega
    rw [if_pos (show k.getD d 0 < k.getD d 0 + 1 by omega), if_neg (show ¬ l.getD d 0 < k.getD d 0 + 1 by omega), if_pos h1, if_neg (show ¬ l.getD d 0 < l.getD d 0 by omega)]
    by_cases e1 : k.getD c 0 > k.getD d 0
    · rw [if_pos e1, Bool.or_eq_true_iff.mpr (.inl (decide_eq_true ?_))]
      · rfl
      · rw [if_pos (show k.getD d 0 + 1 ≤ k.getD c 0 by omega)]
        split <;> omega
    · rw [if_neg e1]
      by_cases e2 : l.getD d 0 > l.getD c 0
      · rw [if_pos e2, Bool.or_eq_true_iff.mpr (.inr (decide_eq_true ?_))]
        · rfl
        · rw [if_neg (show ¬ l.getD d 0 ≤ l.getD c 0 by omega)]
          split <;> omega
      · rw [if_neg e2, Bool.or_eq_false_iff.mpr ⟨decide_eq_false ?_, decide_eq_false ?_⟩]
        · rfl
        · rw [if_neg (show ¬ k.getD d 0 + 1 ≤ k.getD c 0 by omega), if_pos (show k.getD d 0 + 1 ≤ l.getD c 0 by omega)]
          omega
        · rw [if_neg (show ¬ l.getD d 0 ≤ k.getD c 0 by omega), if_pos (show l.getD d 0 ≤ l.getD c 0 by omega)]
          omega
theorem put_is (k l : List Int) : putV k l = (faultV k l).isSome := by
  unfold putV faultV
  cases hs : stepV k l k.length with
  | some x =>
    obtain ⟨i, hi, e⟩ := some_some hs
    have g : k.getD i 0 > l.getD i 0 := by
      by_cases g : k.getD i 0 > l.getD i 0
      · exact g
      · rw [if_neg g] at e
        cases e
    show _ = true
    rw [List.any_eq_true]
    refine ⟨i, List.mem_range.mpr hi, ?_⟩
    unfold putCell
    rw [decide_eq_true g]
    rfl
  | none =>
    have hle : ∀ i, i < k.length → k.getD i 0 ≤ l.getD i 0 := fun i hi => by
      have := some_none hs i hi
      by_cases e : k.getD i 0 > l.getD i 0
      · rw [if_pos e] at this
        cases this
      · omega
    have key : ∀ d, d < k.length → putCell k l d = (pairV k l d d).isSome := fun d hd => by
      unfold putCell
      rw [decide_eq_false (by have := hle d hd; omega), Bool.false_or]
      have gen : ∀ n, n ≤ d → (List.range n).any (putPair k l d) = (pairV k l d n).isSome := by
        intro n
        induction n with
        | zero => intro _; rfl
        | succ n ih =>
          intro hn
          rw [List.range_succ, List.any_append, ih (by omega)]
          unfold pairV
          rw [range_some]
          rw [List.any_cons, List.any_nil, Bool.or_false, put_pair (hle n (by omega)) (hle d hd), Option.isSome_or, Option.isSome_map]
      exact gen d (Nat.le_refl _)
    have gen : ∀ n, n ≤ k.length → (List.range n).any (putCell k l) = (carriesV k l n).isSome := by
      intro n
      induction n with
      | zero => intro _; rfl
      | succ n ih =>
        intro hn
        rw [List.range_succ, List.any_append, ih (by omega)]
        unfold carriesV
        rw [range_some, List.any_cons, List.any_nil, Bool.or_false, key n (by omega), Option.isSome_or]
    exact gen _ (Nat.le_refl _)
theorem fault_self {k : List Int} : faultV k k = none := by
  have h : putV k k = false := by
    unfold putV
    rw [List.any_eq_false]
    intro d hd
    unfold putCell
    rw [decide_eq_false (Int.lt_irrefl _), Bool.false_or, Bool.not_eq_true, List.any_eq_false]
    intro c hc
    unfold putPair
    simp
  rw [put_is] at h
  cases e : faultV k k with
  | none => rfl
  | some x =>
    rw [e] at h
    cases h
end Dg
namespace Dg
theorem num_bound {n : Nat} {r : List Int} (h : IsBits n r) : ∀ i, i ≤ n → 0 ≤ numV (r.take i) ∧ numV (r.take i) < 2 ^ i
  | 0, _ => by
    simp [numV]
  | i + 1, hi => by
    have hlt : i < r.length := by rw [h.1]; omega
    have e : r.take (i + 1) = r.take i ++ [r.getD i 0] := by
      rw [List.take_add_one, List.getElem?_eq_getElem hlt, List.getD_eq_getElem?_getD, List.getElem?_eq_getElem hlt]
      rfl
    obtain ⟨h1, h2⟩ := num_bound h i (by omega)
    obtain ⟨b1, b2⟩ := getD_bits h i
    rw [e, numV_snoc, Int.pow_succ]
    omega
theorem take_snoc (r : List Int) (i : Nat) (h : i < r.length) : r.take (i + 1) = r.take i ++ [r.getD i 0] := by
  rw [List.take_add_one, List.getElem?_eq_getElem h, List.getD_eq_getElem?_getD, List.getElem?_eq_getElem h]
  rfl
theorem pow60 {i : Nat} {x : Int} (hi : i ≤ 60) (h0 : 0 ≤ x) (h : x < 2 ^ i) : x.natAbs < 2 ^ 60 := by
  have h1 : x.natAbs < 2 ^ i := by
    have : (x.natAbs : Int) = x := Int.natAbs_of_nonneg h0
    have h2 : ((x.natAbs : Nat) : Int) < ((2 ^ i : Nat) : Int) := by
      rw [this]
      simpa using h
    exact Int.ofNat_lt.mp h2
  exact Nat.lt_of_lt_of_le h1 (Nat.pow_le_pow_right (by decide) hi)
theorem row_bits {n m : Nat} {rows : List (List Int)} {k : List Int} (h : InV k m) (R : IsRis (rowsV n) (m + 1) rows) (nk : k.length = n) : IsBits n (rowV rows k) := by
  refine ⟨by unfold rowV; rw [List.length_map, List.length_range, nk], fun d hd => ?_⟩
  unfold rowV at hd
  obtain ⟨i, hi, rfl⟩ := List.mem_map.mp hd
  have h1 := h.lo i
  have h2 := h.hi i
  have hlt : (k.getD i 0).toNat < rows.length := by rw [R.len]; omega
  have hr : rows.getD (k.getD i 0).toNat [] ∈ rows := by
    rw [List.getD_eq_getElem?_getD, List.getElem?_eq_getElem hlt]
    exact List.getElem_mem hlt
  have b := (mem_rowsV n _).mp (R.mem _ hr)
  have := getD_bits b i
  omega
theorem flat_take {α β : Type} (f : α → List β) (l : List α) (i : Nat) (x : α) (h : l[i]? = some x) : (l.take (i + 1)).flatMap f = (l.take i).flatMap f ++ f x := by
  rw [List.take_add_one, h, List.flatMap_append]
  simp
end Dg
namespace Dg
theorem any_at {f : Nat → Bool} {n i : Nat} (h : i < n) (e : f i = true) : (List.range n).any f = true := List.any_eq_true.mpr ⟨i, List.mem_range.mpr h, e⟩
theorem any_next {f : Nat → Bool} {n : Nat} (h : (List.range n).any f = false) (e : f n = false) : (List.range (n + 1)).any f = false := by
  rw [List.range_succ, List.any_append, h, List.any_cons, e]
  rfl
theorem ite_dec {q : Prop} [Decidable q] : (if decide q = true then (1 : Int) else 0) = if q then 1 else 0 := by
  by_cases h : q <;> simp [h]
theorem put_first {k l : List Int} {c d : Nat} (h : codeV k c d (k.getD d 0 + 1) > codeV l c d (k.getD d 0 + 1)) : putPair k l d c = true := by
  unfold putPair
  rw [decide_eq_true h]
  rfl
theorem put_second {k l : List Int} {c d : Nat} (h : codeV k c d (l.getD d 0) > codeV l c d (l.getD d 0)) : putPair k l d c = true := by
  unfold putPair
  rw [decide_eq_true h, Bool.or_true]
theorem put_not {k l : List Int} {c d : Nat} (h1 : ¬ codeV k c d (k.getD d 0 + 1) > codeV l c d (k.getD d 0 + 1)) (h2 : ¬ codeV k c d (l.getD d 0) > codeV l c d (l.getD d 0)) : putPair k l d c = false := by
  unfold putPair
  rw [decide_eq_false h1, decide_eq_false h2]
  rfl
theorem put_cell_gt {k l : List Int} {d : Nat} (h : k.getD d 0 > l.getD d 0) : putCell k l d = true := by
  unfold putCell
  rw [decide_eq_true h]
  rfl
theorem put_cell_pair {k l : List Int} {c d : Nat} (hc : c < d) (h : putPair k l d c = true) : putCell k l d = true := by
  unfold putCell
  rw [any_at hc h, Bool.or_true]
theorem put_cell_not {k l : List Int} {d : Nat} (h1 : ¬ k.getD d 0 > l.getD d 0) (h2 : (List.range d).any (putPair k l d) = false) : putCell k l d = false := by
  unfold putCell
  rw [decide_eq_false h1, h2]
  rfl
theorem first_nil (rows : List (List Int)) : firstV rows [] = 0 := rfl
theorem first_last {rows one : List (List Int)} {r : List Int} (h : one.getLast? = some r) : firstV rows one = rows.findIdx (fun x => decide (x = r)) := by
  unfold firstV
  rw [h]
theorem ris_step {rows : List (List Int)} {R m : Nat} (h : rows.length ≤ R) (j : Nat) (hR : 0 < R) : (((risV rows m).take j).flatMap fun one => (rows.drop (firstV rows one)).map fun row => one ++ [row]).length ≤ R ^ (m + 1) := by
  have e : risV rows m = (risV rows m).take j ++ (risV rows m).drop j := (List.take_append_drop j _).symm
  have h2 := risV_len rows R h (m + 1)
  unfold risV at h2
  rw [e, List.flatMap_append, List.length_append] at h2
  omega
end Dg
namespace Dg
def AllIn (k : List Int) (m : Int) : Prop := ∀ x ∈ k, 0 ≤ x ∧ x ≤ m
theorem AllIn.inV {k : List Int} {m : Nat} (h : AllIn k m) : InV k m := by
  have key : ∀ i, 0 ≤ k.getD i 0 ∧ k.getD i 0 ≤ (m : Int) := by
    intro i
    rw [List.getD_eq_getElem?_getD]
    cases e : k[i]? with
    | none => simp
    | some d => exact h d (List.mem_of_getElem? e)
  exact ⟨fun i => (key i).1, fun i => (key i).2⟩
theorem AllIn.snoc {k : List Int} {m x : Int} (h : AllIn k m) (h0 : 0 ≤ x) (h1 : x ≤ m) : AllIn (k ++ [x]) m := fun y hy => by
  rcases List.mem_append.mp hy with z | z
  · exact h y z
  · have : y = x := by simpa using z
    rw [this]
    exact ⟨h0, h1⟩
theorem AllIn.set {k : List Int} {m x : Int} (h : AllIn k m) (j : Nat) (h0 : 0 ≤ x) (h1 : x ≤ m) : AllIn (k.set j x) m := fun y hy => by
  rcases List.mem_or_eq_of_mem_set hy with z | z
  · exact h y z
  · rw [z]
    exact ⟨h0, h1⟩
theorem AllIn.get {k : List Int} {m : Int} (h : AllIn k m) {j : Nat} (hj : j < k.length) : 0 ≤ k.getD j 0 ∧ k.getD j 0 ≤ m := by
  rw [List.getD_eq_getElem?_getD, List.getElem?_eq_getElem hj]
  exact h _ (List.getElem_mem hj)
end Dg
namespace Dg
def lexL : List Int → List Int → Bool
  | [], [] => false
  | [], _ :: _ => true
  | _ :: _, [] => false
  | x :: xs, y :: ys => if x = y then lexL xs ys else decide (x < y)
def badNext (a b : List Int) : Bool := decide (b.length ≠ a.length) || lexL b a
def badFrom (rows : List (List Int)) (n : Nat) : Option Nat := (List.range n).findSome? fun j => if badNext (rows.getD j []) (rows.getD (j + 1) []) = true then some (j + 1) else none
def badAt (rows : List (List Int)) : Option Nat := if rows = [] ∨ rows.getD 0 [] = [] then some 0 else badFrom rows (rows.length - 1)
end Dg
namespace Dg
theorem bad_none {rows : List (List Int)} (h : badAt rows = none) : rows ≠ [] ∧ rows.getD 0 [] ≠ [] ∧ badFrom rows (rows.length - 1) = none := by
  unfold badAt at h
  by_cases e : rows = [] ∨ rows.getD 0 [] = []
  · rw [if_pos e] at h
    cases h
  · rw [if_neg e] at h
    exact ⟨fun z => e (.inl z), fun z => e (.inr z), h⟩
theorem bad_step {rows : List (List Int)} (h : badAt rows = none) (j : Nat) (hj : j + 1 < rows.length) : (rows.getD (j + 1) []).length = (rows.getD j []).length ∧ lexL (rows.getD (j + 1) []) (rows.getD j []) = false := by
  have h1 := (bad_none h).2.2
  unfold badFrom at h1
  have h2 := some_none h1 j (by omega)
  cases e : badNext (rows.getD j []) (rows.getD (j + 1) []) with
  | true =>
    rw [if_pos e] at h2
    cases h2
  | false =>
    unfold badNext at e
    rw [Bool.or_eq_false_iff] at e
    refine ⟨?_, e.2⟩
    have := of_decide_eq_false e.1
    omega
theorem bad_len {rows : List (List Int)} (h : badAt rows = none) : ∀ j, j < rows.length → (rows.getD j []).length = (rows.getD 0 []).length
  | 0, _ => rfl
  | j + 1, hj => (bad_step h j hj).1.trans (bad_len h j (by omega))
theorem bad_len' {rows : List (List Int)} (h : badAt rows = none) {r : List Int} (hr : r ∈ rows) : r.length = (rows.getD 0 []).length := by
  obtain ⟨j, hj, e⟩ := List.getElem_of_mem hr
  have := bad_len h j hj
  rw [List.getD_eq_getElem?_getD, List.getElem?_eq_getElem hj] at this
  rw [← e]
  exact this
def versOk (rows : List (List Int)) (k : List Int) : Prop := k.length = (rows.getD 0 []).length ∧ ∀ x ∈ k, 0 ≤ x ∧ x < (rows.length : Int)
theorem versOk_in {rows : List (List Int)} {k : List Int} (h : versOk rows k) (hr : rows ≠ []) : AllIn k ((rows.length - 1 : Nat) : Int) := fun x hx => by
  have h1 := h.2 x hx
  have h2 : 0 < rows.length := List.length_pos_iff.mpr hr
  omega
end Dg
namespace Dg
open PySem PySem.Spec PyProof.Rows L2
theorem lex_is : ∀ a b : List Int, lexL a b = HT.lexLt a b
  | [], [] => rfl
  | [], _ :: _ => rfl
  | _ :: _, [] => rfl
  | x :: xs, y :: ys => by
    unfold lexL
    rw [HT.lexLt_cons, lex_is xs ys]
end Dg
namespace Dg
open PySem PySem.Spec PyProof.Rows L2
theorem int_at {k : List Int} {i : Nat} {x : V} (h : (k.map V.int)[i]? = some x) : i < k.length ∧ x = .int (k.getD i 0) := by
  have hi : i < k.length := by
    have := (List.getElem?_eq_some_iff.mp h).1
    rwa [List.length_map] at this
  refine ⟨hi, ?_⟩
  rw [List.getElem?_map, List.getElem?_eq_getElem hi] at h
  rw [List.getD_eq_getElem?_getD, List.getElem?_eq_getElem hi]
  exact (Option.some.inj h).symm
end Dg
namespace Dg
open PySem PySem.Spec PyProof.Rows L2
section
variable {prog : Program} {w : World} {A : Around} {E : Value → Shared → Prop} {s : Shared} {l : Addr}
theorem max_tup {its : List Value} {ns : List Int} {Q : Value → Shared → Prop} (hd : A.handled = none) (is : s.heap.IsTuple l its.toArray) (num : IntsAre its ns) (any1 : 0 < ns.length)
    (q : ∀ h' tk m t, (∀ b o, s.heap.get? b = some o → h'.get? b = some o) → m ∈ ns → (∀ y ∈ ns, y ≤ m) → Q (.int m t) { s with heap := h', toks := tk }) : wpAny (model prog w) A (call (.builtin "max") [.ref l]) Q E s := by
  obtain ⟨xs, same⟩ := num.allInts.items
  have told : (xs.toList.map (·.1)) = ns := by rw [← nums_intItems, ← same]; exact num.numsOf
  have many : ns.length = xs.size := by rw [← told, List.length_map, Array.length_toList]
  have all : ∀ i, i < xs.size → numAt xs i ∈ ns := fun i hi => by
    rw [numAt_eq, ← told]
    exact PySem.getD_mem (by rw [told, many]; exact hi)
  rw [same] at is
  let n := s.heap.objs.size
  have young : l < n := let ⟨_, e, _⟩ := id is; Heap.lt_size e
  obtain ⟨w1, w2⟩ := argBest_gt (numAt xs) (xs.size - 1)
  have low : ∀ b ∈ [n, l], b < (s.heap.push { cls := .type "tuple_iterator", data := .fields #[.ref l, .int 0 0] }).objs.size := fun b hb => by
    rw [Heap.size_push]
    show b < n + 1
    rcases List.mem_cons.mp hb with z | z
    · exact z ▸ Nat.lt_succ_self n
    · exact List.mem_singleton.mp z ▸ Nat.lt_succ_of_lt young
  apply call_max_walk
  apply wpAny_pyIter_tuple is
  refine ⟨_, [n, l], [n], _, _, _, _, rfl, Walks.tuple (A := A.in1) hd n l (Nat.ne_of_lt young) (intItems xs), ⟨⟨_, Heap.get?_push_size _ rfl, rfl, rfl⟩, is.push _⟩, low, ?_, CmpOf.ints_gt (numAt xs) (fun _ _ => intItems_at), fun v h' tk got kept => ?_⟩
  · simpa [intItems, ← many] using any1
  · have got : (intItems xs)[argBest (fun i j => decide (numAt xs i > numAt xs j)) (xs.size - 1)]? = some v := by simpa [intItems] using got
    obtain ⟨t, rfl⟩ := intItems_at got
    refine q h' tk _ t (fun b o e => kept b o (fun z => ?_) (Heap.get?_push_of_some _ e)) (all _ (by omega)) fun y hy => ?_
    · have := Heap.lt_size e
      rw [List.mem_singleton.mp z] at this
      exact Nat.lt_irrefl n this
    · rw [← told] at hy
      obtain ⟨i, hi, rfl⟩ := mem_getD hy
      rw [told, many] at hi
      exact numAt_eq xs i ▸ w2 i (by omega)
end
section
variable {X : Cx}
def rMaxA (K : PySem.W.Frag) : List V → Hp → VK → Prop := fun vs H Q => ∃ (a : Addr) (ns : List Int), vs = [V.ref a] ∧ Sq K H a (ns.map V.int) ∧ 0 < ns.length ∧ ∀ m, m ∈ ns → (∀ y, y ∈ ns → y ≤ m) → Q (.int m) H
theorem cr_maxA (hc : X.calm = true) : CallR X (.builtin "max") (rMaxA X.K) := by
  rintro pins s σ H vs us Q I r ⟨a, ns, rfl, hs, hne, q⟩
  rw [Vals.ref1 r]
  rcases hs with hs | hs
  · obtain ⟨its, rv, hl, _⟩ := I.list hs
    exact max_raw (I.ok.hd hc) hl.isList rv.ints hne fun h' tk m t' hk h1 h2 => ⟨.int _, H, I.kept hk, ⟨_, rfl⟩, q m h1 h2⟩
  · obtain ⟨its, rv, hl, _⟩ := I.tuple hs
    exact max_tup (I.ok.hd hc) hl rv.ints hne fun h' tk m t' hk h1 h2 => ⟨.int _, H, I.kept hk, ⟨_, rfl⟩, q m h1 h2⟩
end
theorem rep_one {α : Type} (n : Nat) (x : α) : (List.replicate n [x]).flatten = List.replicate n x := List.flatten_replicate_singleton
theorem getD_in {k : List Int} {i : Nat} (h : i < k.length) : k.getD i 0 ∈ k := by
  rw [List.getD_eq_getElem?_getD, List.getElem?_eq_getElem h]
  exact List.getElem_mem h
theorem ix_of {n : Nat} {x : Int} (h0 : 0 ≤ x) (h : x < (n : Int)) : ixN n x = some x.toNat := by
  obtain ⟨j, rfl⟩ := Int.eq_ofNat_of_zero_le h0
  rw [Int.toNat_natCast]
  unfold ixN
  rw [if_pos (by omega), if_pos (by omega), Int.toNat_natCast]
theorem same_updF {H H1 : Hp} {p : Addr} {o : HO} (s : Same H H1) (hp : H p = none) : Same H (upd H1 p o) := fun c o' e => by
  rw [upd_ne (ne_of_none e hp)]
  exact s c o' e
theorem set_ints (n j : Nat) : (List.replicate n (V.int 0)).set j (V.int 1) = (((List.replicate n (0 : Int)).set j 1)).map V.int := by
  rw [List.map_set, List.map_replicate]
theorem pd_rep {K : PySem.W.Frag} {H : Hp} {p : Addr} {r : List Int} (h : SqT K H p (r.map V.int)) (n : Nat) : Paired (RowAt K H) (List.replicate n (V.ref p)) (List.replicate n r) := by
  induction n with
  | zero => exact .nil
  | succ n ih => exact .cons ⟨p, rfl, h⟩ ih
theorem k_call_isi {X : Cx} {K : PySem.W.Frag} (h : X.K = K) : CallR X (.builtin "isinstance") (rIsi K) := h ▸ call_isi
theorem boot_list : bootBuiltins "list" = some (.type "list") := by decide +kernel
theorem boot_tuple : bootBuiltins "tuple" = some (.type "tuple") := by decide +kernel
theorem boot_int : bootBuiltins "int" = some (.type "int") := by decide +kernel
theorem boot_str : bootBuiltins "str" = some (.type "str") := by decide +kernel
theorem boot_dict : bootBuiltins "dict" = some (.type "dict") := by decide +kernel
theorem boot_bool : bootBuiltins "bool" = some (.type "bool") := by decide +kernel
theorem tyx_T {K : PySem.W.Frag} {H : Hp} {a : Addr} {xs : List V} (h : SqT K H a xs) : TyX K H (.ref a) (.type "tuple") := by
  rcases h with (h | ⟨o, h⟩) | ⟨o, its, n, e, c, _⟩
  · exact .base (.tup h)
  · exact .fTuple h
  · exact .kTuple e c
theorem tyx_L {K : PySem.W.Frag} {H : Hp} {a : Addr} {xs : List V} (h : SqL K H a xs) : TyX K H (.ref a) (.type "list") := by
  rcases h with (h | ⟨o, h⟩) | ⟨o, its, n, e, c, _⟩
  · exact .base (.lst h)
  · exact .base (.frz h)
  · exact .kList e c
theorem kitb_tt : kitB "tuple" "tuple" = some true := by decide +kernel
theorem kitb_ll : kitB "list" "list" = some true := by decide +kernel
theorem eqvAll_ints : ∀ a b : List Int, PyData.eqvAll (a.map .int) (b.map .int) = decide (a = b)
  | [], [] => by simp only [List.map_nil, PyData.eqvAll]; rfl
  | [], _ :: _ => by simp only [List.map_nil, List.map_cons, PyData.eqvAll]; rfl
  | _ :: _, [] => by simp only [List.map_nil, List.map_cons, PyData.eqvAll]; rfl
  | x :: xs, y :: ys => by
    rw [List.map_cons, List.map_cons, PyData.eqvAll, eqvAll_ints xs ys]
    rw [PyData.eqv]
    by_cases e : x = y <;> by_cases e2 : xs = ys <;> simp [e, e2]
theorem eqv_tups (a b : List Int) : PyData.eqv (tupD a) (tupD b) = decide (a = b) := by
  unfold tupD
  rw [PyData.eqv, eqvAll_ints]
end Dg
namespace Dg
inductive Cells (n : Nat) : List Int → Prop where
  | one (c : Nat) (h : c < n) : Cells n [(c : Int)]
  | two (c d : Nat) (h : c < d) (h' : d < n) : Cells n [(c : Int), (d : Int)]
theorem rep_at (n i : Nat) : (List.replicate n (0 : Int)).getD i 0 = 0 := by
  rw [List.getD_eq_getElem?_getD, List.getElem?_replicate]
  split <;> rfl
theorem repset_at {n j : Nat} (hj : j < n) (i : Nat) : ((List.replicate n (0 : Int)).set j 1).getD i 0 = if i = j then 1 else 0 := by
  rw [List.getD_eq_getElem?_getD, List.getElem?_set, List.length_replicate, List.getElem?_replicate]
  by_cases e : j = i
  · subst e
    rw [if_pos rfl, if_pos hj, if_pos rfl]
    rfl
  · rw [if_neg e, if_neg (Ne.symm e)]
    split <;> rfl
theorem high_at {n : Nat} {cs : List Int} (h : Cells n cs) (i : Nat) : (highV n cs).getD i 0 = if (i : Int) = cs.getD 0 0 then 1 else 0 := by
  cases h with
  | one c h =>
    show ((List.replicate n (0 : Int)).set (c : Int).toNat 1).getD i 0 = if (i : Int) = (c : Int) then 1 else 0
    rw [Int.toNat_natCast, repset_at h]
    by_cases e : i = c
    · rw [if_pos e, if_pos (by omega)]
    · rw [if_neg e, if_neg (by omega)]
  | two c d h h' =>
    show ((List.replicate n (0 : Int)).set (c : Int).toNat 1).getD i 0 = if (i : Int) = (c : Int) then 1 else 0
    rw [Int.toNat_natCast, repset_at (by omega)]
    by_cases e : i = c
    · rw [if_pos e, if_pos (by omega)]
    · rw [if_neg e, if_neg (by omega)]
theorem filt_one (c : Nat) : ∀ n, (List.range n).filter (fun i => decide (i = c)) = if c < n then [c] else []
  | 0 => by simp
  | n + 1 => by
    rw [List.range_succ, List.filter_append, filt_one c n]
    by_cases e : n = c
    · subst e
      simp
    · rw [List.filter_cons_of_neg (by simp [e]), List.filter_nil, List.append_nil]
      by_cases h : c < n
      · rw [if_pos h, if_pos (by omega)]
      · rw [if_neg h, if_neg (by omega)]
theorem filt_two {c d : Nat} (hcd : c < d) : ∀ n, (List.range n).filter (fun i => decide (i = c ∨ i = d)) = if d < n then [c, d] else if c < n then [c] else []
  | 0 => by simp
  | n + 1 => by
    rw [List.range_succ, List.filter_append, filt_two hcd n]
    by_cases e : n = d
    · subst e
      rw [List.filter_cons_of_pos (by simp), List.filter_nil, if_neg (by omega), if_pos hcd, if_pos (by omega)]
      rfl
    · by_cases e2 : n = c
      · subst e2
        rw [List.filter_cons_of_pos (by simp), List.filter_nil, if_neg (by omega), if_neg (by omega), if_neg (by omega), if_pos (by omega)]
        rfl
      · rw [List.filter_cons_of_neg (by simp [e, e2]), List.filter_nil, List.append_nil]
        by_cases h : d < n
        · simp [h, show d < n + 1 by omega]
        · by_cases h2 : c < n
          · simp [h, h2, show ¬ d < n + 1 by omega, show c < n + 1 by omega]
          · simp [h, h2, show ¬ d < n + 1 by omega, show ¬ c < n + 1 by omega]
theorem low_at {n : Nat} {cs : List Int} (h : Cells n cs) (i : Nat) : (lowV n cs).getD i 0 = if cs.length = 2 ∧ (i : Int) = cs.getD 1 0 then 1 else 0 := by
  cases h with
  | one c h =>
    show (List.replicate n (0 : Int)).getD i 0 = _
    rw [rep_at, if_neg (fun z => by have := z.1; simp at this)]
  | two c d h h' =>
    have e0 : (lowV n [(c : Int), (d : Int)]).getD i 0 = if i = d then 1 else 0 := by
      show ((List.replicate n (0 : Int)).set (d : Int).toNat 1).getD i 0 = _
      rw [Int.toNat_natCast, repset_at h']
    rw [e0]
    by_cases e : i = d
    · simp [e]
    · have : ¬ (i : Int) = (d : Int) := by omega
      simp [e, this]
theorem moved_is {n : Nat} {cs : List Int} (h : Cells n cs) : ((List.range n).filter fun i : Nat => !decide ((lowV n cs).getD i 0 = (highV n cs).getD i 0)).map (fun i : Nat => (i : Int)) = cs := by
  have e : (List.range n).filter (fun i : Nat => !decide ((lowV n cs).getD i 0 = (highV n cs).getD i 0)) = (List.range n).filter (fun i : Nat => decide ((i : Int) ∈ cs)) := by
    congr 1
    funext i
    rw [low_at h, high_at h]
    cases h with
    | one c h =>
      by_cases e : (i : Int) = (c : Int) <;> simp [e]
    | two c d h h' =>
      have e0 : [(c : Int), (d : Int)].getD 0 0 = c := rfl
      have e1 : [(c : Int), (d : Int)].getD 1 0 = d := rfl
      have e2 : [(c : Int), (d : Int)].length = 2 := rfl
      have e3 : decide ((i : Int) ∈ [(c : Int), (d : Int)]) = decide ((i : Int) = c ∨ (i : Int) = d) := decide_eq_decide.mpr (by rw [List.mem_cons, List.mem_cons]; simp)
      rw [e0, e1, e2, e3]
      by_cases g : (i : Int) = (c : Int)
      · rw [if_neg (fun z => by omega), if_pos g, decide_eq_true (Or.inl g)]
        rfl
      · rw [if_neg (c := (i : Int) = (c : Int)) g]
        by_cases g2 : (i : Int) = (d : Int)
        · rw [if_pos ⟨rfl, g2⟩, decide_eq_true (Or.inr g2)]
          rfl
        · rw [if_neg (fun z => g2 z.2), decide_eq_false (p := (i : Int) = c ∨ (i : Int) = d) (fun z => z.elim g g2)]
          rfl
  rw [e]
  cases h with
  | one c h =>
    have : (fun i : Nat => decide ((i : Int) ∈ [(c : Int)])) = fun i => decide (i = c) := by
      funext i
      simp
      omega
    rw [this, filt_one, if_pos h]
    rfl
  | two c d h h' =>
    have : (fun i : Nat => decide ((i : Int) ∈ [(c : Int), (d : Int)])) = fun i => decide (i = c ∨ i = d) := by
      funext i
      refine decide_eq_decide.mpr ?_
      rw [List.mem_cons, List.mem_cons]
      constructor
      · rintro (z | z | z)
        · exact .inl (by omega)
        · exact .inr (by omega)
        · cases z
      · rintro (z | z)
        · exact .inl (by omega)
        · exact .inr (.inl (by omega))
    rw [this, filt_two h, if_pos h']
    rfl
theorem low_ne_high {n : Nat} {cs : List Int} (h : Cells n cs) : highV n cs ≠ lowV n cs := by
  intro z
  have h1 := high_at h (cs.getD 0 0).toNat
  have h2 := low_at h (cs.getD 0 0).toNat
  rw [z] at h1
  cases h with
  | one c h =>
    rw [h1] at h2
    simp at h2
  | two c d h h' =>
    rw [h1] at h2
    have e0 : [(c : Int), (d : Int)].getD 0 0 = c := rfl
    have e1 : [(c : Int), (d : Int)].getD 1 0 = d := rfl
    rw [e0, e1, Int.toNat_natCast, if_pos rfl, if_neg (fun z => by omega)] at h2
    exact absurd h2 (by decide)
theorem fault_cells {n m : Nat} {k l : List Int} {cs : List Int} {p : Int} (hk : InV k m) (hl : InV l m) (nk : k.length = n) (nl : l.length = n) (h : faultV k l = some (cs, p)) : Cells n cs ∧ 1 ≤ p ∧ p ≤ m := by
  obtain ⟨hp, hc⟩ := fault_some hk hl nk nl h
  refine ⟨?_, hp⟩
  rcases hc with ⟨c, hcn, rfl, _⟩ | ⟨c, d, hcd, hdn, rfl, _⟩
  · exact .one c hcn
  · exact .two c d hcd hdn
theorem low_len {n : Nat} {cs : List Int} : (lowV n cs).length = n := by
  unfold lowV
  split <;> simp
theorem high_len {n : Nat} {cs : List Int} : (highV n cs).length = n := by
  unfold highV
  simp
theorem turn_row_len {n : Nat} {cs : List Int} {p last : Int} {r : List Int} (h : r ∈ turnV n cs p last) : r.length = n := by
  unfold turnV at h
  rcases List.mem_append.mp h with z | z
  · rw [(List.mem_replicate.mp z).2, low_len]
  · rw [(List.mem_replicate.mp z).2, high_len]
theorem turn_get {n : Nat} {cs : List Int} {p last : Int} (h0 : 0 ≤ p) (h1 : p ≤ last) (v : Nat) (hv : v ≤ last.toNat) : (turnV n cs p last)[v]? = some (if (v : Int) < p then lowV n cs else highV n cs) := by
  have hl : v < (turnV n cs p last).length := by
    rw [turn_len h0 h1]
    omega
  have h := turn_at (n := n) (cs := cs) h0 h1 v hv
  rw [List.getD_eq_getElem?_getD, List.getElem?_eq_getElem hl] at h
  rw [List.getElem?_eq_getElem hl]
  exact congrArg some h
theorem Cells.bound {n : Nat} {cs : List Int} (h : Cells n cs) : ∀ x ∈ cs, 0 ≤ x ∧ x < (n : Int) := by
  cases h with
  | one c h =>
    intro x hx
    have : x = c := by simpa using hx
    omega
  | two c d h h' =>
    intro x hx
    have : x = c ∨ x = d := by simpa using hx
    omega
end Dg
namespace Dg
theorem foldl_num : ∀ (r : List Int) (a : Int), r.foldl (fun a d => 2 * a + d) a = a * 2 ^ r.length + numV r
  | [], a => by
    show a = a * 2 ^ 0 + 0
    omega
  | x :: xs, a => by
    have h0 : numV (x :: xs) = (2 * 0 + x) * 2 ^ xs.length + numV xs := by
      unfold numV
      rw [List.foldl_cons, foldl_num xs (2 * 0 + x)]
      unfold numV
      rfl
    rw [List.foldl_cons, foldl_num xs (2 * a + x), h0, List.length_cons, Int.pow_succ]
    generalize (2 : Int) ^ xs.length = z
    rw [show a * (z * 2) = 2 * a * z by rw [Int.mul_comm z 2, ← Int.mul_assoc, Int.mul_comm a 2], Int.add_mul (2 * a) x z, Int.mul_zero, Int.zero_add]
    omega
theorem num_cons (x : Int) (xs : List Int) : numV (x :: xs) = x * 2 ^ xs.length + numV xs := by
  have h := foldl_num xs (2 * 0 + x)
  rw [show (2 * 0 + x) = x by omega] at h
  unfold numV
  rw [List.foldl_cons, show (2 * 0 + x) = x by omega, h]
  unfold numV
  rfl
def BitsOf (r : List Int) : Prop := ∀ d ∈ r, d = 0 ∨ d = 1
theorem num_range : ∀ {r : List Int}, BitsOf r → 0 ≤ numV r ∧ numV r < 2 ^ r.length
  | [], _ => ⟨Int.le_refl _, by decide⟩
  | x :: xs, h => by
    obtain ⟨h1, h2⟩ := num_range (r := xs) fun d hd => h d (List.mem_cons_of_mem _ hd)
    rw [num_cons, List.length_cons, Int.pow_succ]
    have hx := h x List.mem_cons_self
    generalize (2 : Int) ^ xs.length = z at h2
    rcases hx with e | e <;> rw [e] <;> constructor <;> omega
theorem lex_num : ∀ {r s : List Int}, r.length = s.length → BitsOf r → BitsOf s → lexL r s = false → numV s ≤ numV r
  | [], [], _, _, _, _ => Int.le_refl _
  | x :: xs, y :: ys, hl, hr, hs, h => by
    have hl' : xs.length = ys.length := by simpa using hl
    have hr' : BitsOf xs := fun d hd => hr d (List.mem_cons_of_mem _ hd)
    have hs' : BitsOf ys := fun d hd => hs d (List.mem_cons_of_mem _ hd)
    rw [num_cons, num_cons, hl']
    unfold lexL at h
    by_cases e : x = y
    · rw [if_pos e] at h
      have := lex_num hl' hr' hs' h
      rw [e]
      omega
    · rw [if_neg e] at h
      have h1 := of_decide_eq_false h
      have hx := hr x List.mem_cons_self
      have hy := hs y List.mem_cons_self
      have b1 := num_range hr'
      have b2 := num_range hs'
      have ex : x = 1 := by omega
      have ey : y = 0 := by omega
      rw [ex, ey]
      generalize (2 : Int) ^ ys.length = z at b2
      omega
theorem num_lex {r s : List Int} (hl : r.length = s.length) (hr : BitsOf r) (hs : BitsOf s) (h : numV r < numV s) : lexL r s = true := by
  cases e : lexL r s with
  | true => rfl
  | false =>
    have := lex_num hl hr hs e
    omega
theorem lex_self : ∀ r : List Int, lexL r r = false
  | [] => rfl
  | x :: xs => by
    unfold lexL
    rw [if_pos rfl]
    exact lex_self xs
theorem lex_at : ∀ {r s : List Int} (i : Nat), r.length = s.length → lexL r s = true → (∀ j, j < i → r.getD j 0 = s.getD j 0) → i < r.length ∧ (r.getD i 0 ≠ s.getD i 0 → r.getD i 0 < s.getD i 0)
  | [], [], i, _, h, _ => by
    rw [lex_self] at h
    cases h
  | x :: xs, y :: ys, 0, _, h, _ => by
    refine ⟨Nat.zero_lt_succ _, fun z => ?_⟩
    have z' : ¬ x = y := z
    unfold lexL at h
    rw [if_neg z'] at h
    exact of_decide_eq_true h
  | x :: xs, y :: ys, i + 1, hl, h, he => by
    have e0 : x = y := he 0 (Nat.zero_lt_succ _)
    unfold lexL at h
    rw [if_pos e0] at h
    obtain ⟨h1, h2⟩ := lex_at (r := xs) (s := ys) i (by simpa using hl) h fun j hj => he (j + 1) (Nat.succ_lt_succ hj)
    exact ⟨Nat.succ_lt_succ h1, h2⟩
theorem bad_of {rows : List (List Int)} (h0 : rows ≠ []) (h1 : rows.getD 0 [] ≠ []) (h : ∀ j, j + 1 < rows.length → badNext (rows.getD j []) (rows.getD (j + 1) []) = false) : badAt rows = none := by
  unfold badAt
  rw [if_neg (fun z => z.elim h0 h1)]
  unfold badFrom
  rw [List.findSome?_eq_none_iff]
  intro j hj
  have hj' := List.mem_range.mp hj
  rw [h j (by omega)]
  rfl
theorem lowV_bits {n : Nat} {cs : List Int} : BitsOf (lowV n cs) := by
  unfold lowV
  split
  · exact (set_bits n _).2
  · exact (zero_bits n).2
theorem highV_bits {n : Nat} {cs : List Int} : BitsOf (highV n cs) := (set_bits n _).2
theorem high_not_below {n : Nat} {cs : List Int} (h : Cells n cs) : lexL (highV n cs) (lowV n cs) = false := by
  cases e : lexL (highV n cs) (lowV n cs) with
  | false => rfl
  | true =>
    have hl : (highV n cs).length = (lowV n cs).length := high_len.trans low_len.symm
    have key : ∀ c : Nat, cs.getD 0 0 = (c : Int) → ((cs.length = 2) → (c : Int) < cs.getD 1 0) → False := by
      intro c hc h2
      have hlow : (lowV n cs).getD c 0 = 0 := by
        rw [low_at h, if_neg (fun z => by have := h2 z.1; omega)]
      have hhigh : (highV n cs).getD c 0 = 1 := by
        rw [high_at h, if_pos hc.symm]
      have hj : ∀ j, j < c → (highV n cs).getD j 0 = (lowV n cs).getD j 0 := by
        intro j hj
        rw [high_at h, low_at h, if_neg (by omega), if_neg (fun z => by have := h2 z.1; omega)]
      have := (lex_at c hl e hj).2 (by rw [hlow, hhigh]; decide)
      rw [hlow, hhigh] at this
      omega
    cases h with
    | one c h => exact (key c rfl (fun z => by simp at z)).elim
    | two c d h h' => exact (key c rfl (fun _ => by show (c : Int) < (d : Int); omega)).elim
theorem turn_bad {n : Nat} {cs : List Int} {p last : Int} (h : Cells n cs) (p1 : 1 ≤ p) (pl : p ≤ last) : badAt (turnV n cs p last) = none := by
  have hlen : (turnV n cs p last).length = last.toNat + 1 := turn_len (by omega) pl
  have n0 : 0 < n := by
    cases h <;> omega
  refine bad_of (fun z => ?_) (fun z => ?_) fun j hj => ?_
  · rw [z] at hlen
    simp at hlen
  · rw [turn_at (by omega) pl 0 (Nat.zero_le _), if_pos (by omega)] at z
    have := low_len (n := n) (cs := cs)
    rw [z] at this
    simp at this
    omega
  · rw [turn_at (by omega) pl j (by omega), turn_at (by omega) pl (j + 1) (by omega)]
    unfold badNext
    by_cases g : ((j + 1 : Nat) : Int) < p
    · rw [if_pos g, if_pos (by omega), lex_self, decide_eq_false (fun z => z rfl)]
      rfl
    · rw [if_neg g]
      by_cases g2 : (j : Int) < p
      · rw [if_pos g2, high_not_below h, decide_eq_false (fun z => z (high_len.trans low_len.symm))]
        rfl
      · rw [if_neg g2, lex_self, decide_eq_false (fun z => z rfl)]
        rfl
theorem turn_versOk {n : Nat} {cs : List Int} {p last : Int} {k : List Int} (p1 : 1 ≤ p) (pl : p ≤ last) (hk : AllIn k last) (hl : k.length = n) : versOk (turnV n cs p last) k := by
  refine ⟨?_, fun x hx => ?_⟩
  · rw [turn_at (by omega) pl 0 (Nat.zero_le _), if_pos (by omega), low_len, hl]
  · rw [turn_len (by omega) pl]
    have := hk x hx
    omega
theorem rowV_bits {n : Nat} {cs : List Int} {p last : Int} {k : List Int} : BitsOf (rowV (turnV n cs p last) k) := by
  intro d hd
  unfold rowV at hd
  obtain ⟨i, _, rfl⟩ := List.mem_map.mp hd
  have key : ∀ r, r ∈ turnV n cs p last → BitsOf r := by
    intro r hr
    unfold turnV at hr
    rcases List.mem_append.mp hr with z | z
    · rw [(List.mem_replicate.mp z).2]
      exact lowV_bits
    · rw [(List.mem_replicate.mp z).2]
      exact highV_bits
  have dig : ∀ r : List Int, BitsOf r → r.getD i 0 = 0 ∨ r.getD i 0 = 1 := by
    intro r hr
    rw [List.getD_eq_getElem?_getD]
    cases e2 : r[i]? with
    | none => exact .inl rfl
    | some d => exact hr d (List.mem_of_getElem? e2)
  refine dig _ ?_
  generalize (k.getD i 0).toNat = v
  rw [List.getD_eq_getElem?_getD]
  cases e : (turnV n cs p last)[v]? with
  | none => exact fun d hd => by cases hd
  | some r => exact key r (List.mem_of_getElem? e)
theorem turn_above {n m : Nat} {k l : List Int} {cs : List Int} {p last : Int} (hk : InV k m) (hl : InV l m) (nk : k.length = n) (nl : l.length = n) (h : faultV k l = some (cs, p)) (hm : last = (m : Int)) :
    lexL (rowV (turnV n cs p last) l) (rowV (turnV n cs p last) k) = true :=
  num_lex (by unfold rowV; rw [List.length_map, List.length_map, List.length_range, List.length_range, nk, nl]) rowV_bits rowV_bits (fault_gt hk hl nk nl h hm)
end Dg
namespace Dg
open PySem PySem.Spec PyProof.Rows L2
structure FnG (P : Program) (w : World) (K : PySem.W.Frag) (mg : Str → Option Value) (base : Heap) (C : CXT) (k : Nat) (f : Addr) (fd : FuncData) (ps : List Str) (sp : Sp) : Prop where
  cnt : ∀ vs H Q E, sp vs H Q E → vs.length = ps.length
  go : ∀ (A : Around) (outer : List Env) (s : Shared) (H : Hp) (args : Args) (us : List Value) (vs : List V) (Q : VK) (E : XK), A.guards = some [] → Room k A → Env0 P w K mg base A outer s H →
    BindsTo s fd args (ps.zip us) → Vals vs us → sp vs H Q E → codeAny (model P w) A (.call (.ref f) args) (CR C outer P w H s Q E) s
section
variable {P : Program} {w : World} {K : PySem.W.Frag} {mg : Str → Option Value} {base : Heap}
theorem fnG_ok {x q : Str} {st : Stmt} {f : Addr} {fd : FuncData} {N ps : List Str} {k : Nat} {sp : Sp} (F : Fun K x q st f fd) (S : FnScope N ps (defScope st)) (cnt : ∀ vs H Q E, sp vs H Q E → vs.length = ps.length)
    (body : ∀ (cdv : Value) (A : Around) (outer : List Env) (s : Shared) (H : Hp) (vs : List V) (Q : VK) (E : XK), A.guards = some [] → Room k (A.deeper (envOfC q (defScope st) s.heap.objs.size f cdv)) → sp vs H Q E →
      ∃ t, PSs (cxOf CX0 P w K mg base N q (defScope st) f cdv A outer s H E).nox (defBody st) t ∧ t { nx := fun _ H' => Q .non H', rt := Q } (start N vs) H) : FnG P w K mg base CX0 (k + 1) f fd ps sp := by
  obtain ⟨_, _, _, _, _, _, cdv, _, _, rfl, look, code⟩ := F.ex
  constructor
  · exact cnt
  intro A outer s H args us vs Q E hg room e0 bind rel asked
  have nvs := cnt _ _ _ _ asked
  have old : ∀ b o, base.get? b = some o → s.heap.get? b = some o := fun b o e => (e0.bs b o e).1
  have KX : K.In s.heap := e0.mod.kin.keeps old
  have names : ∀ y ∈ ps.zip us, (defScope st).names.lookup y.1 = some .local ∨ ((defScope st).names.lookup y.1 = some .cell ∧ ((cellsFrom (s.heap.objs.size + 1) (defScope st).names []).lookup y.1).isSome = true) := by
    rintro ⟨n, v⟩ hy
    have hn := (List.of_mem_zip hy).1
    exact (S.par n hn).imp (fun z => z) fun z => ⟨z, PySem.W.cellsFrom_some _ _ _ (.inl z)⟩
  refine codeAny_call_function room.depth (KX _ _ look) rfl S.co S.gen rfl (PySem.W.codeRec_of KX code) (bind _ _ _ _ ?_)
  refine wpAny_newFunctionEnv_cells S.kind names ?_
  intro env he s1 made
  subst he
  refine ⟨(e0.mod.nolimit.keeps old).keeps made.toInCall.keep, codeAny_func ?_⟩
  obtain ⟨t, ht, asks⟩ := body cdv A outer s H vs Q E hg (room.deeper _) asked
  have I := inv_start (CX := CX0) (E := E) S room.hd e0 nvs rel made
  refine wpAny_mono (ht.nox.run [] s1 (start N vs) H _ I asks) ?_ (fun e s' z => z)
  intro fl s' z
  have fin : ∀ {σ' : L2.St} {H' : Hp} {v : V} {u : Value}, Inv (cxOf CX0 P w K mg base N q (defScope st) f cdv A outer s H E) [] σ' H' s' → RelV v u → Q v H' → CE outer P w H s Q u s' :=
    fun J rv hq => ⟨_, _, J.os, J.bare, J.base, J.hok, rv, hq⟩
  cases fl with
  | ret u =>
    obtain ⟨_, _, _, J, rv, hq⟩ := z
    exact fin J rv hq
  | next =>
    obtain ⟨_, _, J, hq⟩ := z
    exact fin (v := V.non) (u := Value.none) J rfl hq
  | brk => exact z.elim fun _ z => z.elim fun _ z => z.2.elim
  | cont => exact z.elim fun _ z => z.elim fun _ z => z.2.elim
end
section
variable {X : Cx}
def rRepr (K : PySem.W.Frag) : List V → Hp → VK → Prop := fun vs H Q => ∃ (a : Addr) (d : PyData), vs = [.ref a] ∧ Dp K H (.ref a) d ∧ d.showable = true ∧ d.hasDict = false ∧ d.depth ≤ 60 ∧ d.shown.length ≤ sizeLine ∧ Q (.str d.shown) H
theorem cr_repr (hg : X.A.guards = some []) (hu : X.A.units + 64 < cLine) : CallR X (.builtin "repr") (rRepr X.K) := by
  intro pins s σ H vs us Q I r h
  obtain ⟨a, d, rfl, hd, h1, h2, h3, h4, q⟩ := h
  rw [Vals.ref1 r]
  obtain ⟨as, rd⟩ := Dp.reads I d _ _ hd rfl
  exact repr_of_reads' rd h1 (fun z => by rw [h2] at z; cases z) hg (by omega) (fun _ _ e => e) (fun h' u tk hk => ⟨.str _, H, I.kept hk, ⟨_, rfl⟩, q⟩) h4
end
theorem script_heap {P : Program} {w : World} {K : PySem.W.Frag} {h : Heap} {a : Addr} {vs : List Value} {ns : List Int} (KX : K.In h) (ha : h.get? a = some { cls := .type "list", data := .seq vs.toArray }) (hi : IntsAre vs ns) (hl : ns.length ≤ sizeLine) :
    ∃ H : Hp, Only H ∧ SqL K H a (ns.map V.int) ∧ HOk P w H h ∧ ∀ b, H b ≠ none → b = a ∧ K.lookup a = none := by
  have rv := vals_ints hi
  have nv := hi.length
  cases hk : K.lookup a with
  | some o =>
    have eo := (KX a o hk).symm.trans ha
    cases eo
    exact ⟨fun _ => none, fun _ => .inl rfl, .inr ⟨_, vs.toArray, _, hk, rfl, rfl, rfl, by rw [List.size_toArray, nv]; exact hl, by simpa using rv⟩, fun _ _ z => (by cases z), fun _ z => absurd rfl z⟩
  | none =>
    obtain ⟨ob, eob⟩ : ∃ ob : Obj, ob = { cls := .type "list", data := .seq vs.toArray } := ⟨_, rfl⟩
    refine ⟨fun b => if b = a then some (.frz ob (.lst (ns.map V.int))) else none, fun b => ?_, .inl (.inr ⟨ob, if_pos rfl⟩), fun b u z => ?_, fun b z => ⟨?_, rfl⟩⟩
    · rcases Classical.em (b = a) with e | e
      · exact .inr ⟨_, _, if_pos e⟩
      · exact .inl (if_neg e)
    · rcases Classical.em (b = a) with e | e
      · have z1 : some _ = some u := (if_pos e).symm.trans z
        cases z1
        rw [e, eob]
        exact ⟨ha, by rw [List.length_map]; exact hl, vs, _, rv, ha⟩
      · have z1 : none = some u := (if_neg e).symm.trans z
        cases z1
    · rcases Classical.em (b = a) with e | e
      · exact e
      · exact absurd (if_neg e) z
theorem headG {P : Program} {w : World} {K : PySem.W.Frag} {mg mb : Str → Option Value} {k : Nat} {fa a : Addr} {fd : FuncData} {x : Str} {sp : Sp} {s : Shared} {vs : List Value} {ns : List Int}
    (KX : K.In s.heap) (gl : s.heap.Ns mainGlobals mg) (bl : s.heap.Ns builtinsNs mb) (bb : ∀ x : Str, x ≠ "__name__" → mb x = bootBuiltins x) (lim : s.heap.NoLimit) (gn : s.gens = #[])
    (ha : s.heap.get? a = some { cls := .type "list", data := .seq vs.toArray }) (hi : IntsAre vs ns) (hl : ns.length ≤ sizeLine) (room : Room k callerA)
    (F : ∀ base : Heap, K.In base → base.Ns mainGlobals mg → FnG P w K mg base CX0 k fa fd [x] sp) (bind : ∀ (s : Shared) (u : Value), BindsTo s fd ⟨[u], []⟩ [(x, u)])
    (asks : ∀ H : Hp, Only H → SqL K H a (ns.map V.int) → sp [.ref a] H (fun v _ => v = .bl true) fun _ _ _ => False) :
    codeAny (model P w) callerA (.call (.ref fa) ⟨[.ref a], []⟩) (fun r s' => r = .ok (.ret (.bool true)) ∧ OldK s.heap s'.heap ∧ s'.os = s.os ∧ AllBare s'.gens) s := by
  obtain ⟨H, only, seq, ok, hA⟩ := script_heap (P := P) (w := w) KX ha hi hl
  have free : ∀ {b : Addr} {o : Obj}, s.heap.get? b = some o → (b = a → False) → (hidT s.heap H).get? b = some o := fun {b o} e n => hidT_get e (by
    cases q : H b with
    | none => rfl
    | some u => exact (n (hA b (by rw [q]; simp)).1).elim)
  have space : ∀ {b : Addr} {m : Str → Option Value}, s.heap.Ns b m → (hidT s.heap H).Ns b m := by
    rintro b m ⟨o, es, ep, e, d, r⟩
    refine ⟨o, es, ep, free e (fun z => ?_), d, r⟩
    subst z
    cases e.symm.trans ha
    cases d
  have kin : K.In (hidT s.heap H) := fun b o e => hidT_get (KX b o e) (by
    cases q : H b with
    | none => rfl
    | some u =>
      obtain ⟨z, nk⟩ := hA b (by rw [q]; simp)
      subst z
      cases e.symm.trans nk)
  have mod : Mod K mg (hidT s.heap H) := ⟨kin, space gl, ⟨mb, space bl, bb⟩, lim.elim fun mc z => ⟨mc, space z.1, z.2⟩⟩
  have env : Env0 P w K mg (hidT s.heap H) callerA [] s H := by
    refine ⟨rfl, mod, fun b o e => of_hidT e, Nat.le_of_eq (hidT_size _ _), trivial, fun b z => ?_, ok, .of_eq gn⟩
    cases (show b ∈ ([] : List Addr) from z)
  have run := (F _ kin (space gl)).go callerA [] s H ⟨[.ref a], []⟩ [.ref a] [.ref a] _ _ rfl room env (bind s _) (.cons rfl .nil) (asks H only seq)
  refine codeAny_mono run ?_
  intro r s' z
  match r, z with
  | .error e, z => exact z.elim
  | .ok .next, z => exact z.elim
  | .ok .brk, z => exact z.elim
  | .ok .cont, z => exact z.elim
  | .ok (.ret u), ⟨v, H', os, bare, un, ok', rel, hv⟩ =>
    have hv' : v = .bl true := hv
    rw [hv'] at rel
    refine ⟨congrArg (fun t => Except.ok (Flow.ret t)) (show u = Value.bool true from rel), OldK.of_keep ?_, os, bare⟩
    intro b o e
    cases q : H b with
    | none => exact un.keep b o e q (fun y => by cases (show b ∈ ([] : List Addr) from y)) (by simp)
    | some c =>
      rcases only b with y | ⟨ob, xs, y⟩
      · cases q.symm.trans y
      · have e1 := (ok b _ y).1
        have e2 := (ok' b _ (un.frzs b ob _ y)).1
        cases e.symm.trans e1
        exact e2
theorem walk_ofG {l : PySem.W.OpenLaw} {n k : Nat} {q : Program} {loose : List Str} {XP : (Str → Option Value) → Heap → Prop} {YP : World → Heap → Prop} {d : DefRec} {K : Params → PySem.W.Frag} {sp : World → Sp} {x : Str}
    (most : l.most = some n) (n2 : n ≤ sizeLine) (nodef : d.params.defaults = []) (room : Room k callerA) (kin : ∀ (w : World) (h : Heap), YP w h → (K w.params).In h)
    (F : ∀ (w : World) (mg : Str → Option Value) (fa : Addr) (h : Heap), (K w.params).In h → h.Ns mainGlobals mg → mg d.name = some (.ref fa) →
      ∃ fd : FuncData, (∀ (s : Shared) (u : Value), BindsTo s fd ⟨[u], []⟩ [(x, u)]) ∧ ∀ base : Heap, (K w.params).In base → base.Ns mainGlobals mg → FnG l.prog w (K w.params) mg base CX0 k fa fd [x] (sp w))
    (asks : ∀ (w : World) (H : Hp) (a : Addr) (ns : List Int), ns.length ≤ n → Only H → SqL (K w.params) H a (ns.map V.int) → sp w [.ref a] H (fun v _ => v = .bl true) fun _ _ _ => False) :
    PySem.W.WalkO q loose XP YP l.row.toRowW d [] (fun f vs => PySem.call f vs) := by
  refine Att.attach_call most nodef ?_
  intro w s₀ s mg mb fa o pm cd doc a vs ns G Y ho hd hcd hmg hobj hints hlen hg
  have KX := kin w _ Y
  obtain ⟨fd, bind, go⟩ := F w mg fa _ KX G.T.g hmg
  exact headG KX G.T.g G.T.b G.T.builtins G.T.nolimit hg hobj hints (Nat.le_trans hlen n2) room go bind fun H only seq => asks w H a ns hlen only seq
end Dg
namespace Dg
open PySem PySem.Spec PyProof.Rows L2
abbrev Suite := Addr → Value → Option Addr → TS
def clauseEnds : Option Nat → Ends → Ends
  | none, D => D
  | some i, D => { nx := fun t G => D.nx (t.set i none) G, rt := D.rt, bk := fun t G => D.bk (t.set i none) G, ct := fun t G => D.ct (t.set i none) G }
def clauseSlot : Option Nat → L2.St → Addr → L2.St
  | none, t, _ => t
  | some i, t, a => t.set i (some (.ref a))
def wClauses (K : PySem.W.Frag) (out : WX) (D : Ends) : List (Value × Option Nat × Suite) → WX
  | [] => out
  | (c, i, ts) :: l => fun cls d t G => ∃ b, PySem.W.exmOne K cls c = some b ∧
      (b = true → ∀ a, G a = none → ts a cls d (clauseEnds i D) (clauseSlot i t a) G) ∧ (b = false → wClauses K out D l cls d t G)
inductive Clauses (X : Cx) : List ExceptHandler → List (Value × Option Nat × Suite) → Prop where
  | nil : Clauses X [] []
  | bare {x : Str} {c : Value} {ts : Suite} {b : Stmt} {bs : List Stmt} {p p' : Pos} {hs : List ExceptHandler} {l : List (Value × Option Nat × Suite)} (nm : Names X x c)
      (su : ∀ (a : Addr) (o : Obj) (cls : Value) (d : Option Addr) (pn : List (Addr × Obj)), Zc cls d o → (∃ vs, o.data = .fields vs) → PSs (X.suite a ((a, o) :: pn)) (b :: bs) (ts a cls d)) (more : Clauses X hs l) :
      Clauses X (.ExceptHandler (some (.Name x p)) none (b :: bs) p' :: hs) ((c, none, ts) :: l)
  | named {x n : Str} {c : Value} {i : Nat} {ts : Suite} {b : Stmt} {bs : List Stmt} {p p' : Pos} {hs : List ExceptHandler} {l : List (Value × Option Nat × Suite)} (at_ : X.N[i]? = some n) (lo : X.env.kindOf n = some .local) (nm : Names X x c)
      (su : ∀ (a : Addr) (o : Obj) (cls : Value) (d : Option Addr) (pn : List (Addr × Obj)), Zc cls d o → (∃ vs, o.data = .fields vs) → PSs (X.suite a ((a, o) :: pn)) (b :: bs) (ts a cls d)) (more : Clauses X hs l) :
      Clauses X (.ExceptHandler (some (.Name x p)) (some n) (b :: bs) p' :: hs) ((c, some i, ts) :: l)
section
variable {X : Cx} {body : List Stmt} {h0 : ExceptHandler} {hs : List ExceptHandler} {l : List (Value × Option Nat × Suite)} {pos : Pos} {tb : WX → TS} {out : WX}
theorem ps_tryC (stk : X.stack = X.env :: X.outer) (frm : X.env.frame = some X.env.locals) (nod : X.N.Nodup) (tk : Takes X out)
    (hb : ∀ (W : WX) (pn : List (Addr × Obj)) (xe : Value → Shared → Prop), Takes (X.tr pn xe) W → PassesOwn (model X.prog X.w) X.A X.env xe → PSs (X.tr pn xe) body (tb W)) (hc : Clauses X (h0 :: hs) l) :
    PS X (.Try body (h0 :: hs) [] [] pos) (fun D t G => tb (wClauses X.K out D l) D t G) := by
  constructor
  intro pins s t G D I asked
  have ok := I.ok
  have frames : X.A.frames = some (X.env :: X.outer) := ok.frames.trans (congrArg some stk)
  refine wpAny_Try_except (wpAny_mono ((hb (wClauses X.K out D l) (X.pn ++ pins) _ ?takes PassesOwn.looking).run [] s t G D (I.toTry _) asked) ?done fun _ _ z => z)
  case takes =>
    rintro u s1 ⟨a, B, sI, pins1, t1, G1, cls, d, rfl, J0, nb, up, sky, free, os, gens, wish⟩
    have J := J0.ofTry ok
    have sky1 : Sky B (X.env :: X.outer) a (Zc cls d) X.env.locals s1.heap := stk ▸ sky
    show wpAny (model X.prog X.w) X.A (noteFrame (.ref a) X.env) _ _ _
    refine Sky.land Zc.steady frames frm sky1 ?_
    intro h3 fl up3
    have J3 : Inv X pins t1 G1 { s1 with heap := h3 } := J.landed nb fl.1 (up.trans up3) os gens
    obtain ⟨o3, vs3, e3, z3, d3⟩ := fl.there
    have away : a ∉ frs (X.env :: X.outer) := by
      intro hm
      obtain ⟨_, o', e', nf⟩ := fl.2.2.1.mem hm
      cases e3.symm.trans e'
      exact nf _ d3
    have awayL : a ≠ X.env.locals := by
      intro z
      exact away (List.mem_filterMap.mpr ⟨_, List.mem_cons_self, by rw [frm, z]⟩)
    have awayF : a ∉ X.fs := by
      intro hm
      obtain ⟨e, he, q⟩ := List.mem_filterMap.mp hm
      exact away (List.mem_filterMap.mpr ⟨e, List.mem_cons_of_mem _ he, q⟩)
    have S3 := J3.suite e3 d3 free awayL awayF
    have look : ∀ {x : Str} {c : Value} {p : Pos}, Names X x c → ∀ {Q E : Value → Shared → Prop}, Q c { s1 with heap := h3 } → wpAny (model X.prog X.w) (X.A.mark (some (.ref a))) (eval (.Name x p) X.env) Q E { s1 with heap := h3 } := by
      rintro x c p ⟨hg, nd, hm | ⟨hm, hv, nn⟩⟩ Q E q
      · exact ld_glob (X := X.suite a ((a, o3) :: (X.pn ++ pins))) S3 hg hm q nd
      · exact ld_blt (X := X.suite a ((a, o3) :: (X.pn ++ pins))) S3 hg hm hv q nn nd
    have cls3 : PySem.W.Looks (model X.prog X.w) h3 (typeOf (.ref a)) cls := fun _ _ _ _ k q => wpAny_typeOf_ref (k _ _ e3) (by rw [z3.1]; exact q)
    have go : ∀ {hs' : List ExceptHandler} {l' : List (Value × Option Nat × Suite)}, Clauses X hs' l' → wClauses X.K out D l' cls d t1 G1 →
        wpAny (model X.prog X.w) X.A (handleBy (.ref a) X.env hs') (SP X pins D) X.xe { s1 with heap := h3 } := by
      intro hs' l' hk
      induction hk with
      | nil =>
        intro wish
        refine wpAny_handleBy_nil ?_
        obtain ⟨_, _, _, _, _, T, _, _, he, _, hd, h1, _⟩ := id fl
        have pass : wpAny (model X.prog X.w) X.A (setFlight (.ref a) X.env.frame) (fun _ s4 => wpAny (model X.prog X.w) X.A (throw (.ref a) : Sem Flow) (SP X pins D) X.xe s4) X.xe { s1 with heap := h3 } := by
          rw [frm]
          refine HandSPX.setFlight_upZ fl ?_
          intro h4 sky4 up4
          refine wpAny_throw (tk _ _ ⟨a, B, sI, pins, t1, G1, cls, d, rfl, J, nb, (up.trans up3).trans up4, .inr (.inr ?_), free, os, gens, wish⟩)
          rw [stk]
          exact sky4
        unfold PySem.passOn
        refine wpAny_bind (wpAny_field he hd h1 ?_)
        rw [if_neg (by simp : ¬ (Value.ref T == Value.none) = true)]
        first | exact wpAny_bind pass | exact wpAny_bind (wpAny_pure (wpAny_bind pass))
      | bare nm su more ih =>
        rintro ⟨b, hm, yes, no⟩
        refine wpAny_handleBy_cons (codeAny_handlers_test (look nm (PySem.W.Looks.here (PySem.W.exm_one J3.kIn cls3 hm) ?_))) (fun q => by cases q)
        cases b with
        | false => exact ih (no rfl)
        | true =>
          refine codeAny_handlers_suite (HandSPX.lands_againZ fl ?_)
          intro h4 fl4 up4
          obtain ⟨o4, _, e4, z4, d4⟩ := fl4.there
          have J4 : Inv X pins t1 G1 { s1 with heap := h4 } := J.landed nb fl4.1 ((up.trans up3).trans up4) os gens
          have S4 := J4.suite e4 d4 free awayL awayF
          refine wpAny_mono ((su a o4 cls d (X.pn ++ pins) z4 ⟨_, d4⟩).run [] _ _ G1 _ S4 (yes rfl a free)) ?_ (fun _ _ z => z.elim)
          intro f s6 z
          cases f with
          | next => exact z.elim fun _ z => z.elim fun _ z => ⟨_, _, z.1.unsuite ok, z.2⟩
          | brk => exact z.elim fun _ z => z.elim fun _ z => ⟨_, _, z.1.unsuite ok, z.2⟩
          | cont => exact z.elim fun _ z => z.elim fun _ z => ⟨_, _, z.1.unsuite ok, z.2⟩
          | ret u => exact z.elim fun _ z => z.elim fun _ z => z.elim fun _ z => ⟨_, _, _, z.1.unsuite ok, z.2.1, z.2.2⟩
      | named at_ lo nm su more ih =>
        rintro ⟨b, hm, yes, no⟩
        refine wpAny_handleBy_cons (codeAny_handlers_test (look nm (PySem.W.Looks.here (PySem.W.exm_one J3.kIn cls3 hm) ?_))) (fun q => by cases q)
        cases b with
        | false => exact ih (no rfl)
        | true =>
          refine codeAny_handlers_suite_as (HandSPX.lands_againZ fl ?_)
          intro h4 fl4 up4
          obtain ⟨o4, _, e4, z4, d4⟩ := fl4.there
          have J4 : Inv X pins t1 G1 { s1 with heap := h4 } := J.landed nb fl4.1 ((up.trans up3).trans up4) os gens
          have S4 := J4.suite e4 d4 free awayL awayF
          refine store_ok (X := X.suite a ((a, o4) :: (X.pn ++ pins))) (v := .ref a) S4 nod at_ (.inl lo) rfl ?_ (.inr lo)
          intro s5 S5
          refine wpAny_mono ((su a o4 cls d (X.pn ++ pins) z4 ⟨_, d4⟩).run [] s5 _ G1 _ S5 (yes rfl a free)) ?_ (fun _ _ z => z.elim)
          intro f s6 z
          cases f with
          | next => exact z.elim fun _ z => z.elim fun _ z => gone_ok (z.1.unsuite ok) nod at_ lo fun _ J7 => ⟨_, _, J7, z.2⟩
          | brk => exact z.elim fun _ z => z.elim fun _ z => gone_ok (z.1.unsuite ok) nod at_ lo fun _ J7 => ⟨_, _, J7, z.2⟩
          | cont => exact z.elim fun _ z => z.elim fun _ z => gone_ok (z.1.unsuite ok) nod at_ lo fun _ J7 => ⟨_, _, J7, z.2⟩
          | ret u => exact z.elim fun _ z => z.elim fun _ z => z.elim fun _ z => gone_ok (z.1.unsuite ok) nod at_ lo fun _ J7 => ⟨_, _, _, J7, z.2.1, z.2.2⟩
    exact go hc wish
  case done =>
    intro f s1 z
    cases f with
    | next =>
      obtain ⟨_, _, J, q⟩ := z
      exact wpAny_execs_nil ⟨_, _, J.ofTry ok, q⟩
    | brk =>
      obtain ⟨_, _, J, q⟩ := z
      exact ⟨_, _, J.ofTry ok, q⟩
    | cont =>
      obtain ⟨_, _, J, q⟩ := z
      exact ⟨_, _, J.ofTry ok, q⟩
    | ret u =>
      obtain ⟨_, _, _, J, r, q⟩ := z
      exact ⟨_, _, _, J.ofTry ok, r, q⟩
end
end Dg
namespace Dg
open PySem PySem.Spec PyProof.Rows L2
theorem showA : ∀ r : List Int, (∀ d ∈ r, 0 ≤ d ∧ d < 10 ^ 20) → PyData.showableAll (r.map .int) = true ∧ PyData.hasDictAll (r.map .int) = false ∧ ((PyData.shownAll (r.map .int)).map (·.length)).sum ≤ 21 * r.length ∧ (PyData.shownAll (r.map .int)).length = r.length
  | [], _ => ⟨rfl, rfl, Nat.le_refl _, rfl⟩
  | x :: xs, h => by
    obtain ⟨h1, h2, h3, h4⟩ := showA xs fun d hd => h d (List.mem_cons_of_mem _ hd)
    have hx := h x List.mem_cons_self
    have hn : x.natAbs < 10 ^ 20 := by omega
    have hlog : x.natAbs.log2 < 1920 := by
      by_cases z : x.natAbs = 0
      · rw [z]
        decide
      · rw [Nat.log2_lt z]
        exact Nat.lt_of_lt_of_le hn (Nat.le_of_lt (Nat.lt_of_lt_of_le (show 10 ^ 20 < 2 ^ 100 by decide) (Nat.pow_le_pow_right (by decide) (by decide))))
    have hlen : (PyData.shown (.int x)).length ≤ 21 := by
      rw [PyData.shown]
      show (Str.ofString (toString x)).length ≤ 21
      rw [PySem.ofString_length]
      exact int_text_length_le10 (k := 20) (by decide) hn
    rw [List.map_cons]
    refine ⟨?_, ?_, ?_, ?_⟩
    · rw [PyData.showableAll, PyData.showable, h1, decide_eq_true hlog]
      rfl
    · rw [PyData.hasDictAll, PyData.hasDict, h2]
      rfl
    · rw [PyData.shownAll, List.map_cons, List.sum_cons, List.length_cons]
      omega
    · rw [PyData.shownAll, List.length_cons, List.length_cons, h4]
theorem showT {r : List Int} (hl : r.length ≤ 1000) (h : ∀ d ∈ r, 0 ≤ d ∧ d < 10 ^ 20) : (tupD r).showable = true ∧ (tupD r).hasDict = false ∧ (tupD r).depth ≤ 60 ∧ (tupD r).shown.length ≤ sizeLine := by
  obtain ⟨h1, h2, h3, h4⟩ := showA r h
  refine ⟨?_, ?_, Nat.le_trans (okD_tup 0 r).2 (by decide), ?_⟩
  · unfold tupD
    rw [PyData.showable]
    exact h1
  · unfold tupD
    rw [PyData.hasDict]
    exact h2
  · unfold tupD
    rw [PyData.shown]
    have := tupleText_len_le (PyData.shownAll (r.map .int))
    rw [h4] at this
    have : (tupleText (PyData.shownAll (r.map .int))).length ≤ 24000 := by omega
    exact Nat.le_trans this (by decide)
end Dg
namespace Dg
open PySem PySem.Spec PyProof.Rows L2
theorem exm_other {K : PySem.W.Frag} {A C : Addr} (hC : PySem.W.subIn K (.ref C) (.type "BaseException") = some true) (iC : PySem.W.isClsIn K C = true) (tC : PySem.W.typeIn K (.ref C) = some (.type "type")) (no : PySem.W.subIn K (.ref A) (.ref C) = some false) :
    PySem.W.exmOne K (.ref A) (.ref C) = some false := by
  have e1 : (PySem.W.subIn K (.ref C) (.type "BaseException") == some true) = true := by rw [hC] <;> rfl
  have e2 : ((PySem.W.clsIn K C).isSome && PySem.W.typeIn K (.ref C) == some (.type "type")) = true := by
    rw [show (PySem.W.clsIn K C).isSome = true from iC, tC] <;> rfl
  show (if (PySem.W.subIn K (.ref C) (.type "BaseException") == some true) = true then (if ((PySem.W.clsIn K C).isSome && PySem.W.typeIn K (.ref C) == some (.type "type")) = true then PySem.W.subIn K (.ref A) (.ref C) else none) else none) = some false
  rw [if_pos e1, if_pos e2]
  exact no
end Dg
namespace Dg
open PySem PySem.Spec PyProof.Rows L2
def topS (i : Nat) : Stmt := PySem.Challenge.pw_digitsturn_k15_readings_of_versions.main.body.getD i (.Pass ⟨0, 0, 0, 0⟩)
local macro_rules | `(tactic| walk_at "rd1") => `(tactic| first | refine ⟨_, rfl, ?_⟩ | refine ⟨_, _, rfl, rfl, ?_⟩)
local macro_rules | `(tactic| walk_at "rd") => `(tactic| repeat walk_at "rd1")
section
variable {P : Program} {w : World} {K : PySem.W.Frag} {mg : Str → Option Value} {base : Heap}
abbrev s_draw : Stmt := topS 10
abbrev N_draw : List Str := ["pen", "span", "digit", "turn", "cell", "mixed"]
abbrev P_draw : List Str := ["pen", "span"]
theorem sc_draw : FnScope N_draw P_draw (defScope s_draw) := ⟨rfl, rfl, rfl, by decide +kernel, rfl, by decide +kernel, by decide +kernel⟩
theorem ok_draw {f : Addr} {fd : FuncData} (F : Fun K "_law_draw" "_law_draw" s_draw f fd) (B : Bi mg) : FnOk P w K mg base CX0 1 f fd P_draw spDraw := by
  refine F.ok sc_draw (fun vs H Q E h => ?_) (fun cdv A outer s H vs Q E hr h => ?_)
  · obtain ⟨p, c, n, b, rfl, _⟩ := h
    rfl
  · obtain ⟨p, c, n, b, rfl, ⟨ns, t, l, hp⟩, hn, hn2, hb, k⟩ := h
    have hu := hu_of hr
    refine ⟨_, (pss_cons (ps_if (pt_cmpR op_gt (pe_dget hu (pv 0) pe_str (fun _ _ => rfl)) pe_int (nomark _)) 
          (pss_cons (ps_set (i := 2) sc_draw.nd rfl (.inl rfl) (pe_op op_mod (pe_callTy call_int1 (by rfl) B.b_int (by decide +kernel) (pa_cons (pe_dget hu (pv 0) pe_str (fun _ _ => rfl)) pa_nil)) (pv 1)))
          (pss_cons (ps_dput hu (pv 0) pe_str (pe_op op_fdivW (pe_dget hu (pv 0) pe_str (fun _ _ => rfl)) (pv 1)) rfl)
          (pss_one (ps_ret (pv 2))))) pss_nil)
      (pss_cons (ps_set (i := 3) sc_draw.nd rfl (.inl rfl) (pe_dget hu (pv 0) pe_str (fun _ _ => rfl)))
      (pss_cons (ps_dput hu (pv 0) pe_str (pe_op op_add (pv 3) pe_int) rfl)
      (pss_cons (ps_set (i := 4) sc_draw.nd rfl (.inl rfl) (pe_op op_add (pe_op op_mulW pe_int (pv 3)) pe_int))
      (C8.pss_cut (ps_if (pt_cmpR (op_neD hr.units) (pe_dget hu (pv 0) pe_str (fun _ _ => rfl)) (pe_lst pa_nil) (nomark _)) 
          (pss_one (ps_set (i := 4) sc_draw.nd rfl (.inl rfl) (pe_ix ix_list (pe_dget hu (pv 0) pe_str (fun _ _ => rfl)) (pe_op op_mod (pe_callTy call_int1 (by rfl) B.b_int (by decide +kernel) (pa_cons (pv 3) pa_nil)) (pe_callB call_len_seq (by rfl) B.b_len PySem.boot_len (pa_cons (pe_dget hu (pv 0) pe_str (fun _ _ => rfl)) pa_nil))) (fun _ _ => rfl)))) pss_nil)
      (C8.pss_cut (ps_if (PW.pt (pw_and (pt_cmpR op_lt (pv 3) (pe_callB call_len_seq (by rfl) B.b_len PySem.boot_len (pa_cons (pe_dget hu (pv 0) pe_str (fun _ _ => rfl)) pa_nil)) (nomark _)) (pw_and1 (pt_cmpR op_ge (pe_callB call_abs (by rfl) B.b_abs (by decide +kernel) (pa_cons (pv 4) pa_nil)) (pe_op op_pow pe_int pe_int) (nomark _))))) 
          (pss_cons (ps_dput hu (pv 0) pe_str (pe_op op_fdivW (pe_op op_sub (pe_callB call_abs (by rfl) B.b_abs (by decide +kernel) (pa_cons (pv 4) pa_nil)) (pe_op op_pow pe_int pe_int)) (pv 1)) rfl)
          (pss_one (ps_ret (pe_op op_mod (pe_callTy call_int1 (by rfl) B.b_int (by decide +kernel) (pa_cons (pe_op op_sub (pe_callB call_abs (by rfl) B.b_abs (by decide +kernel) (pa_cons (pv 4) pa_nil)) (pe_op op_pow pe_int pe_int)) pa_nil)) (pv 1))))) pss_nil)
      (pss_cons (ps_set (i := 5) sc_draw.nd rfl (.inl rfl) (pe_op op_mulW (pe_op op_mod (pe_callTy call_int1 (by rfl) B.b_int (by decide +kernel) (pa_cons (pv 4) pa_nil)) pe_int) pe_int))
      (pss_cons (ps_set (i := 5) sc_draw.nd rfl (.inl rfl) (pe_op op_mod (pe_callTy call_int1 (by rfl) B.b_int (by decide +kernel) (pa_cons (pe_op op_add (pe_op op_add (pv 5) (pe_op op_mulW (pv 3) (pe_op op_add (pe_op op_mulW (pv 3) pe_int) pe_int))) pe_int) pa_nil)) pe_int))
      (pss_cons (ps_set (i := 5) sc_draw.nd rfl (.inl rfl) (pe_op op_mod (pe_callTy call_int1 (by rfl) B.b_int (by decide +kernel) (pa_cons (pe_op op_mulW (pv 5) (pe_op op_add (pv 5) pe_int)) pa_nil)) pe_int))
      (pss_cons (ps_set (i := 5) sc_draw.nd rfl (.inl rfl) (pe_op op_mod (pe_callTy call_int1 (by rfl) B.b_int (by decide +kernel) (pa_cons (pe_op op_add (pe_op op_add (pe_op op_mulW (pv 5) (pv 5)) (pe_op op_mulW pe_int (pv 5))) (pe_op op_mulW pe_int (pv 3))) pa_nil)) pe_int))
      (pss_one (ps_ret (pe_op op_mod (pe_callTy call_int1 (by rfl) B.b_int (by decide +kernel) (pa_cons (pe_op op_fdivW (pe_op op_mod (pe_callTy call_int1 (by rfl) B.b_int (by decide +kernel) (pa_cons (pe_op op_mulW (pv 5) (pe_op op_add (pv 5) pe_int)) pa_nil)) pe_int) pe_int) pa_nil)) (pv 1)))))))))))))), ?_⟩
    have hd : CDivW 0 n := wide_div (b := 300) hn (by omega) (by decide) (by decide)
    have hdn : ∀ i, CDivW i n := fun _ => hd
    have ht0 := hp.t0
    have htb := hp.tb
    refine ⟨_, rfl, p, _, rfl, hp.get_left, _, _, rfl, rfl, _, rfl, ?_⟩
    refine ite2 (fun hl => ?_) (fun hl => ?_)
    · -- digit = int(pen['left']) % span; pen['left'] = pen['left'] // span; return digit
      refine ⟨_, rfl, p, _, rfl, hp.get_left, .inl ⟨_, rfl, ?_⟩⟩
      walk_at "rd"
      refine ⟨hn, ?_⟩
      refine ⟨_, rfl, p, _, rfl, hp.get_left, _, rfl, _, _, rfl, rfl, hd, _, rfl, p, _, rfl, hp.put_left _, _, rfl, ?_⟩
      exact k _ _ (Int.emod_nonneg _ (by omega)) (Int.emod_lt_of_pos _ hn) ⟨ns, t, _, hp.upd hp.t0 (by omega) (Int.ediv_nonneg hp.l0 (by omega))⟩ sameB_upd
    · -- turn = pen['turn']; pen['turn'] = turn + 1
      have hp2 := hp.upd (u := t + 1) (v := l) (b' := b + 1) (by omega) (by omega) hp.l0
      have s2 : SameB p H (upd H p (.dK (penL c (t + 1) l))) := sameB_upd
      generalize hH2 : upd H p (.dK (penL c (t + 1) l)) = H2 at hp2 s2
      refine ⟨_, rfl, p, _, rfl, hp.get_turn, _, rfl, _, _, rfl, rfl, _, rfl, p, H2, rfl, by rw [← hH2]; exact hp.put_turn _, ?_⟩
      refine ⟨_, rfl, _, _, rfl, rfl, wide_mul (a := 7) (b := 61) (by decide) (by omega) (by decide) (by decide) (by decide), _, _, rfl, rfl, ?_⟩
      refine ⟨fun σ' H' => ∃ x : Int, σ' = [some (.ref p), some (.int n), none, some (.int t), some (.int x), none] ∧ SameB p H H' ∧ PenAt H' p c ns (t + 1) l (b + 1), ?_, ?_⟩
      · refine ⟨_, rfl, p, _, rfl, hp2.get_cells, Nat.zero_le _, fun e ne => ?_⟩
        have s3 : Same H2 (upd H2 e (.lst [])) := same_new ne
        have hp3 := hp2.same s3
        refine ⟨.list (ns.map .int), .list [], .lst (.inl (.inl hp3.cs)) (dp_ints _), .lst (.inl (.inl upd_same)) .nil, shaped_ints _, rfl, _, rfl, ?_⟩
        refine ite2 (fun hc => ?_) (fun hc => ?_)
        · rw [eqv_nil] at hc
          have hne : 0 < ns.length := by
            cases ns with
            | nil => exact absurd hc (by decide)
            | cons x r => exact Nat.succ_pos _
          refine ⟨_, rfl, p, _, rfl, hp3.get_cells, _, rfl, .inl ⟨_, rfl, ?_⟩⟩
          refine ⟨_, rfl, p, _, rfl, hp3.get_cells, c, _, rfl, .inl (.inl (.inl hp3.cs)), _, _, rfl, rfl, by rw [List.length_map]; omega, ?_⟩
          have hlt : (t % ((ns.length : Nat) : Int)).toNat < ns.length := by
            have h1 := Int.emod_nonneg t (b := (ns.length : Int)) (by omega)
            have h2 := Int.emod_lt_of_pos t (b := (ns.length : Int)) (by omega)
            omega
          refine ⟨c, _, _, .int (ns[(t % ((ns.length : Nat) : Int)).toNat]'hlt), rfl, rfl, .inl (.inl hp3.cs), ?_, ?_⟩
          · rw [List.length_map]
            refine at_of (j := (t % ((ns.length : Nat) : Int)).toNat) ?_ ?_
            · have h1 := Int.emod_nonneg t (b := (ns.length : Int)) (by omega)
              omega
            · rw [List.getElem?_map, List.getElem?_eq_getElem hlt]
              rfl
          · exact ⟨_, rfl, s2.trans (SameB.of s3), hp3⟩
        · exact ⟨_, rfl, s2.trans (SameB.of s3), hp3⟩
      · rintro σ' H' ⟨x, rfl, s4, hp4⟩
        clear s2 hp2 hH2
        have habs : (0 : Int) ≤ (if x < 0 then -x else x) := by split <;> omega
        generalize hax : (if x < 0 then -x else x) = ax at habs
        refine ⟨fun σ' H'' => σ' = [some (.ref p), some (.int n), none, some (.int t), some (.int x), none] ∧ H'' = H', ?_, ?_⟩
        · refine ⟨_, rfl, _, rfl, p, _, rfl, hp4.get_cells, c, _, rfl, .inl (.inl (.inl hp4.cs)), _, _, rfl, rfl, _, rfl, ?_⟩
          refine ite2 (fun hc => ?_) (fun hc => ?_)
          · refine ⟨_, rfl, _, rfl, _, _, rfl, rfl, ⟨by decide, by decide, by decide⟩, _, _, rfl, rfl, _, rfl, ?_⟩
            rw [hax]
            refine ite2 (fun h18 => ?_) (fun h18 => ?_)
            · have h18' := of_decide_eq_true h18
              refine ⟨_, rfl, _, rfl, _, _, rfl, rfl, ⟨by decide, by decide, by decide⟩, _, _, rfl, rfl, _, rfl, _, _, rfl, rfl, hdn _, _, rfl, p, _, rfl, hp4.put_left _, ?_⟩
              refine ⟨_, rfl, _, rfl, _, _, rfl, rfl, ⟨by decide, by decide, by decide⟩, _, _, rfl, rfl, .inl ⟨_, rfl, ?_⟩⟩
              refine ⟨_, rfl, _, _, rfl, rfl, hn, ?_⟩
              rw [hax]
              exact k _ _ (Int.emod_nonneg _ (by omega)) (Int.emod_lt_of_pos _ hn) ⟨ns, _, _, hp4.upd hp4.t0 hp4.tb (Int.ediv_nonneg (by omega) (by omega))⟩ (s4.trans sameB_upd)
            · exact ⟨rfl, rfl⟩
          · exact iteF ⟨rfl, rfl⟩
        · rintro σ' H'' ⟨rfl, rfl⟩
          refine ⟨_, rfl, .inl ⟨_, rfl, _, _, rfl, rfl, (by show (0 : Int) < 4294967087; decide), ?_⟩⟩
          have m1 := Int.emod_nonneg x (b := 4294967087) (by decide)
          have m2 := Int.emod_lt_of_pos x (b := 4294967087) (by decide)
          generalize x % 4294967087 = y at m1 m2
          refine ⟨_, _, rfl, rfl, wide_mul (a := 40) (b := 40) (by omega) (by decide) (by decide) (by decide) (by decide), ?_⟩
          refine ⟨_, rfl, _, rfl, _, rfl, _, _, rfl, rfl, wide_mul (a := 61) (b := 40) (by omega) (by decide) (by decide) (by decide) (by decide), ?_⟩
          have q1 : (t * 27919 + 10601).natAbs < 2 ^ 80 := by omega
          refine ⟨_, _, rfl, rfl, _, _, rfl, rfl, wide_mul (a := 61) (b := 80) (by omega) q1 (by decide) (by decide) (by decide), ?_⟩
          refine ⟨_, _, rfl, rfl, _, _, rfl, rfl, .inl ⟨_, rfl, _, _, rfl, rfl, (by show (0 : Int) < 4294967029; decide), ?_⟩⟩
          have n1 := Int.emod_nonneg (y * 48611 + t * (t * 27919 + 10601) + 41) (b := 4294967029) (by decide)
          have n2 := Int.emod_lt_of_pos (y * 48611 + t * (t * 27919 + 10601) + 41) (b := 4294967029) (by decide)
          generalize (y * 48611 + t * (t * 27919 + 10601) + 41) % 4294967029 = z at n1 n2
          refine ⟨_, rfl, _, rfl, _, _, rfl, rfl, _, _, rfl, rfl, wide_mul (a := 40) (b := 40) (by omega) (by omega) (by decide) (by decide) (by decide), .inl ⟨_, rfl, _, _, rfl, rfl, (by show (0 : Int) < 4294966997; decide), ?_⟩⟩
          have o1 := Int.emod_nonneg (z * (z + 75013)) (b := 4294966997) (by decide)
          have o2 := Int.emod_lt_of_pos (z * (z + 75013)) (b := 4294966997) (by decide)
          generalize (z * (z + 75013)) % 4294966997 = u at o1 o2
          refine ⟨_, rfl, _, rfl, _, _, rfl, rfl, wide_mul (a := 40) (b := 40) (by omega) (by omega) (by decide) (by decide) (by decide), ?_⟩
          refine ⟨_, rfl, _, _, rfl, rfl, wide_mul (a := 40) (b := 40) (by decide) (by omega) (by decide) (by decide) (by decide), _, _, rfl, rfl, ?_⟩
          refine ⟨_, rfl, _, _, rfl, rfl, wide_mul (a := 40) (b := 61) (by decide) (by omega) (by decide) (by decide) (by decide), _, _, rfl, rfl, .inl ⟨_, rfl, _, _, rfl, rfl, (by show (0 : Int) < 4294966981; decide), ?_⟩⟩
          have v1 := Int.emod_nonneg (u * u + 30427 * u + 19 * t) (b := 4294966981) (by decide)
          have v2 := Int.emod_lt_of_pos (u * u + 30427 * u + 19 * t) (b := 4294966981) (by decide)
          generalize (u * u + 30427 * u + 19 * t) % 4294966981 = w1 at v1 v2
          refine ⟨_, rfl, _, rfl, _, _, rfl, rfl, _, _, rfl, rfl, wide_mul (a := 40) (b := 40) (by omega) (by omega) (by decide) (by decide) (by decide), .inl ⟨_, rfl, _, _, rfl, rfl, (by show (0 : Int) < 4294966943; decide), ?_⟩⟩
          refine ⟨_, _, rfl, rfl, wide_div (b := 7) (by decide) (by decide) (by decide) (by decide), .inl ⟨_, rfl, _, rfl, _, _, rfl, rfl, hn, ?_⟩⟩
          exact k _ _ (Int.emod_nonneg _ (by omega)) (Int.emod_lt_of_pos _ hn) ⟨ns, _, _, hp4⟩ s4
abbrev s_begun_pen : Stmt := topS 9
abbrev N_begun_pen : List Str := ["script"]
abbrev P_begun_pen : List Str := ["script"]
theorem sc_begun_pen : FnScope N_begun_pen P_begun_pen (defScope s_begun_pen) := ⟨rfl, rfl, rfl, by decide +kernel, rfl, by decide +kernel, by decide +kernel⟩
def spBegun (K : PySem.W.Frag) : Sp := fun vs H Q _ => ∃ (a : Addr) (ns : List Int), vs = [.ref a] ∧ SqL K H a (ns.map V.int) ∧ ns.length ≤ 63 ∧ ∀ H' p, Same H H' → H p = none → ∀ c, Pen H' p c 0 → Q (.ref p) H'
theorem ok_begun {f : Addr} {fd : FuncData} (F : Fun K "_law_begun_pen" "_law_begun_pen" s_begun_pen f fd) (B : Bi mg) : FnOk P w K mg base CX0 1 f fd P_begun_pen (spBegun K) := by
  refine F.ok sc_begun_pen (fun vs H Q E h => ?_) (fun cdv A outer s H vs Q E hr h => ?_)
  · obtain ⟨a, ns, rfl, _⟩ := h
    rfl
  · obtain ⟨a, ns, rfl, ha, h63, q⟩ := h
    refine ⟨_, (pss_one (ps_ret (pe_disp (pps_cons pe_str (pe_callTy call_list_of (by rfl) B.b_list (by decide +kernel) (pa_cons (pe_slice sl_list (pv 0) po_none (po_some pe_int)) pa_nil)) (pps_cons pe_str pe_int (pps_cons pe_str pe_int pps_nil))) (by rfl) (by rfl) (fun z => by cases z) (by decide)))), ?_⟩
    intro p np
    have s1 : Same H (upd H p (.dK [])) := same_new np
    refine ⟨_, rfl, 63, rfl, a, _, rfl, s1.seq ha, fun c nc => ?_⟩
    have s2 : Same (upd H p (.dK [])) (upd (upd H p (.dK [])) c (.lst (cutV (ns.map V.int) none (some 63)))) := same_new nc
    refine ⟨c, _, rfl, .inl (sqL upd_same), fun d nd => ?_⟩
    have s3 := same_new (o := .lst (cutV (ns.map V.int) none (some 63))) nd
    have hp := s3 _ _ (s2 _ _ (upd_same (H := H) (a := p) (o := .dK [])))
    refine ⟨hp, penL d 0 0, rfl, by show 3 ≤ 15; decide, ?_⟩
    have hne : d ≠ p := fun z => by
      subst z
      rw [s2 _ _ (upd_same (H := H) (a := d) (o := .dK []))] at nd
      cases nd
    refine q _ p (fun b o hb => ?_) np d ⟨ns, 0, 0, ?_, ?_, Int.le_refl _, Int.le_refl _, Int.le_refl _, h63⟩
    · rw [upd_ne (ne_of_none hb np)]
      exact s3 _ _ (s2 _ _ (s1 _ _ hb))
    · rw [upd_same]
      rfl
    · rw [upd_ne hne, upd_same, show (63 : Int) = ((63 : Nat) : Int) from rfl, cut_to, List.take_of_length_le (by rw [List.length_map]; exact h63)]
abbrev s_BadValues___init : Stmt := inClass (topS 2) 0
abbrev N_BadValues___init : List Str := ["self", "index"]
abbrev P_BadValues___init : List Str := ["self", "index"]
theorem sc_BadValues___init : FnScope N_BadValues___init P_BadValues___init (defScope s_BadValues___init) := ⟨rfl, rfl, rfl, by decide +kernel, rfl, by decide +kernel, by decide +kernel⟩
theorem ok_init_BadValues {f C : Addr} {fd : FuncData} (F : Fun K "__init__" "BadValues.__init__" s_BadValues___init f fd) (T : OexC K C) (no : PySem.W.findIn K (.ref C) "index" = some none) : FnOk P w K mg base CX0 1 f fd ["self", "index"] (spFld C "index") := by
  refine F.ok sc_BadValues___init (fun vs H Q E h => ?_) (fun cdv A outer s H vs Q E hr h => ?_)
  · obtain ⟨a, v, rfl, _⟩ := h
    rfl
  · obtain ⟨a, v, rfl, ha, q⟩ := h
    refine ⟨_, pss_one (ps_ost (pv 0) (pv 1)), ?_⟩
    exact ⟨_, rfl, _, rfl, a, C, rfl, T, no, .inl ⟨ha, fun dx nd ne => q dx nd ne⟩⟩
abbrev s_checked_values : Stmt := topS 5
abbrev N_checked_values : List Str := ["values", "rows", "at", "value"]
abbrev P_checked_values : List Str := ["values"]
theorem sc_checked_values : FnScope N_checked_values P_checked_values (defScope s_checked_values) := ⟨rfl, rfl, rfl, by decide +kernel, rfl, by decide +kernel, by decide +kernel⟩
def spChecked (K : PySem.W.Frag) (cB : Addr) : Sp := fun vs H Q E => ∃ (a : Addr) (vals : List V) (rows : List (List Int)), vs = [.ref a] ∧ Sq K H a vals ∧ Paired (ValAt K H) vals rows ∧ rows.length ≤ 1000 ∧
  (badAt rows = none → ∀ H' p vals', Same H H' → H p = none → H' p = some (.lst vals') → Paired (RowAt K H') vals' rows → Q (.ref p) H') ∧
  (∀ i, badAt rows = some i → ∀ H' d, Same H H' → H' d = some (.xd [("index", .int (i : Nat))]) → E (.ref cB) (some d) H')
theorem ok_checked {f cB : Addr} {fd : FuncData} (F : Fun K "checked_values" "checked_values" s_checked_values f fd) (B : Bi mg) (O_BadValues : Ef P w K mg base "BadValues" "index" cB) : FnOk P w K mg base (L2.CX P w) 3 f fd P_checked_values (spChecked K cB) := by
  refine F.okX sc_checked_values (fun vs H Q E h => ?_) (fun cdv A outer s H vs Q E hr h => ?_)
  · obtain ⟨a, vals, rows, rfl, _⟩ := h
    rfl
  · obtain ⟨a, vals, rows, rfl, ha, hv, h1000, q, qe⟩ := h
    refine ⟨_, (pss_cons (ps_setLc (i := 1) (own := [("value", 3)]) (g := gName 3) (by rfl) sc_checked_values.nd rfl rfl (sw_true rfl rfl rfl (by decide +kernel)) (pi_any (pv 0)) (blkOk_by (own := [("value", 3)]) (N := N_checked_values) (sc := (defScope s_checked_values)) (by decide +kernel)) (fun _ _ _ _ _ => (pg_name (i := 3) sc_checked_values.nd rfl (.inl rfl))) (fun _ _ _ _ _ => pts_nil) (fun _ _ _ _ _ => (pe_callTy (k_call_tuple_of (K := K) rfl) (by rfl) B.b_tuple (by decide +kernel) (pa_cons (pv 3) pa_nil))))
      (C8.pss_cut (ps_if (PW.pt (pw_or (pt_not (pt_truth (pv 1) (by intro _; rfl))) (pw_or1 (pt_not (pt_truth (pe_ix ix_list (pv 1) pe_int (fun _ _ => rfl)) (by intro _; rfl)))))) 
          (pss_one (ps_raise rfl (takes_of rfl rfl rfl rfl) (pmk_fld O_BadValues (hr.mono (by decide)) (by rfl) (pa_cons pe_int pa_nil)))) pss_nil)
      (pss_cons (ps_for (passes_of rfl) rfl (pi_range2 (by rfl) B.b_range (pa_cons pe_int (pa_cons (pe_callB call_len_seq (by rfl) B.b_len PySem.boot_len (pa_cons (pv 1) pa_nil)) pa_nil))) (pg_name (i := 2) sc_checked_values.nd rfl (.inl rfl)) 
          (pss_one (ps_if (PW.pt (pw_or (pt_cmpR op_ne (pe_callB call_len_seq (by rfl) B.b_len PySem.boot_len (pa_cons (pe_ix ix_list (pv 1) (pv 2) (fun _ _ => rfl)) pa_nil)) (pe_callB call_len_seq (by rfl) B.b_len PySem.boot_len (pa_cons (pe_ix ix_list (pv 1) (pe_op op_sub (pv 2) pe_int) (fun _ _ => rfl)) pa_nil)) (nomark _)) (pw_or1 (pt_cmpR (op_ltT hr.units0) (pe_ix ix_list (pv 1) (pv 2) (fun _ _ => rfl)) (pe_ix ix_list (pv 1) (pe_op op_sub (pv 2) pe_int) (fun _ _ => rfl)) (nomark _))))) 
              (pss_one (ps_raise rfl (takes_of rfl rfl rfl rfl) (pmk_fld O_BadValues (hr.mono (by decide)) (by rfl) (pa_cons (pv 2) pa_nil)))) pss_nil)))
      (pss_one (ps_ret (pv 1)))))), ?_⟩
    have lv := pd_length hv
    refine ⟨_, rfl, a, vals, rfl, ha, fun J wj D nD => lc_it wj (fun i H' => ∃ vals', Same H H' ∧ H' D = some (.lst vals') ∧ Paired (RowAt K H') vals' (rows.take i)) ⟨[], same_new nD, upd_same, .nil⟩ (fun i H' _ hP => ?_) ?_ ?_⟩
    · obtain ⟨_, s1, _⟩ := hP
      exact ⟨ha.same s1, s1⟩
    · rintro i x H1 H2 hi ⟨vals', s1, hD, hv1⟩ ⟨rfl, hx⟩
      obtain ⟨r, hr', b, eb, hb⟩ := pd_get hv hx
      subst eb
      have lv1 : vals'.length ≤ 1000 := by
        rw [pd_length hv1, List.length_take]
        omega
      have hb1 := hb.same s1
      refine ⟨rfl, _, rfl, b, r.map V.int, rfl, ?_⟩
      have fin : ∀ (t : Addr) (H3 : Hp), Same H2 H3 → SqT K H3 t (r.map V.int) → ∃ acc, H3 D = some (.lst acc) ∧ acc.length < sizeLine ∧ ∃ vals', Same H (upd H3 D (.lst (acc ++ [.ref t]))) ∧ (upd H3 D (.lst (acc ++ [.ref t]))) D = some (.lst vals') ∧ Paired (RowAt K (upd H3 D (.lst (acc ++ [.ref t])))) vals' (rows.take (i + 1)) := by
        intro t H3 s3 ht
        refine ⟨vals', s3 _ _ hD, small1000 lv1, vals' ++ [.ref t], fun c o e => ?_, upd_same, ?_⟩
        · rw [upd_ne (ne_of_none e nD)]
          exact s3 _ _ (s1 _ _ e)
        · rw [List.take_add_one, hr']
          have up : ∀ v r, RowAt K H3 v r → RowAt K (upd H3 D (.lst (vals' ++ [.ref t]))) v r := fun v r h => row_upd (s3 _ _ hD) h
          exact pd_app (pd_mono (rows_same s3 hv1) up) (.cons (up _ _ ⟨t, rfl, ht⟩) .nil)
      rcases hb1 with hb1 | hb1
      · exact .inl ⟨hb1, fun l nl => fin l _ (same_new nl) (sqT upd_same)⟩
      · exact .inr ⟨hb1, fin b H2 (Same.refl _) hb1⟩
    · rintro H1 ⟨rvals, s1, hD, hrv⟩
      rw [lv, List.take_length] at hrv
      have lr := pd_length hrv
      refine ⟨fun σ' H' => σ' = [some (.ref a), some (.ref D), none, none] ∧ H1 = H' ∧ rows ≠ [] ∧ rows.getD 0 [] ≠ [], ?_, ?_⟩
      · have bad0 : rows = [] ∨ rows.getD 0 [] = [] → ∀ d H2, Same H1 H2 → H2 d = some (.xd [("index", .int 0)]) → E (.ref cB) (some d) H2 := fun z d H2 s2 hd => qe 0 (by unfold badAt; rw [if_pos z]) H2 d (s1.trans s2) hd
        refine ⟨_, rfl, _, truV_l (sqL hD), ?_⟩
        cases rvals with
        | nil =>
          have e0 : rows = [] := List.eq_nil_of_length_eq_zero lr.symm
          exact mkO_in fun d nd => bad0 (.inl e0) d _ (same_new nd) upd_same
        | cons x rest =>
          obtain ⟨r0, hr0, t0, et, ht0⟩ := pd_get hrv (show (x :: rest)[0]? = some x from rfl)
          subst et
          have eg : rows.getD 0 [] = r0 := by
            rw [List.getD_eq_getElem?_getD, hr0]
            rfl
          have ne : rows ≠ [] := fun z => by
            rw [z] at hr0
            cases hr0
          refine ⟨_, rfl, D, _, 0, _, rfl, rfl, sqL hD, atI_nat (j := 0) rfl, _, truV_t ht0, ?_⟩
          cases r0 with
          | nil => exact mkO_in fun d nd => bad0 (.inr eg) d _ (same_new nd) upd_same
          | cons y ys =>
            refine ⟨rfl, rfl, ne, ?_⟩
            rw [eg]
            exact fun z => nomatch z
      rintro σ' H2 ⟨rfl, rfl, ne0, ne1⟩
      have hbf : badAt rows = badFrom rows (rows.length - 1) := by
        unfold badAt
        rw [if_neg fun z => z.elim ne0 ne1]
      refine ⟨_, rfl, D, _, rfl, .inl (sqL hD), 1, _, rfl, ⟨by decide, by decide, by omega, by omega⟩, for_range (lo := 1) (n := ((rvals.length : Int) - 1).toNat) (fun i σ H' => ∃ v3, σ = [some (.ref a), some (.ref D), v3, none] ∧ H1 = H' ∧ badFrom rows i = none) ⟨none, rfl, rfl, rfl⟩ ?_ ?_⟩
      · rintro i σ H' hi ⟨v3, rfl, rfl, hb⟩
        have i1 : i + 1 < rows.length := by omega
        have i0 : i < rows.length := by omega
        obtain ⟨x1, hx1, t1, et1, ht1⟩ := pd_get' hrv (List.getElem?_eq_getElem i1)
        obtain ⟨x0, hx0, t0, et0, ht0⟩ := pd_get' hrv (List.getElem?_eq_getElem i0)
        subst et1 et0
        have g1 : rows.getD (i + 1) [] = rows[i + 1] := by
          rw [List.getD_eq_getElem?_getD, List.getElem?_eq_getElem i1]
          rfl
        have g0 : rows.getD i [] = rows[i] := by
          rw [List.getD_eq_getElem?_getD, List.getElem?_eq_getElem i0]
          rfl
        have ix1 : atI rvals (1 + (i : Int)) = some (.ref t1) := at_of (j := i + 1) (by omega) hx1
        have ix0 : atI rvals (1 + (i : Int) - 1) = some (.ref t0) := at_of (j := i) (by omega) hx0
        have raise : badNext (rows.getD i []) (rows.getD (i + 1) []) = true → ∀ d, H1 d = none → E (.ref cB) (some d) (upd H1 d (.xd [("index", .int (1 + (i : Int)))])) := fun z d nd => by
          refine qe (i + 1) ?_ _ d (s1.trans (same_new nd)) ?_
          · rw [hbf]
            exact range_some_first _ i (by omega) hb (if_pos z)
          · rw [upd_same, show ((i + 1 : Nat) : Int) = 1 + (i : Int) by omega]
        refine ⟨_, rfl, _, rfl, D, _, _, _, rfl, rfl, sqL hD, ix1, t1, _, rfl, .inr ht1, ?_⟩
        refine ⟨_, rfl, _, rfl, _, _, rfl, rfl, D, _, _, _, rfl, rfl, sqL hD, ix0, t0, _, rfl, .inr ht0, rfl, _, rfl, ?_⟩
        refine iteB (fun e => ?_) (fun e => ?_)
        · refine ⟨_, rfl, mkO_in fun d nd => raise ?_ d nd⟩
          unfold badNext
          rw [g0, g1, decide_eq_true (p := rows[i + 1].length ≠ rows[i].length) (fun z => by simp [z] at e)]
          rfl
        · have el : rows[i + 1].length = rows[i].length := by
            have e' : ((rows[i + 1].length : Nat) : Int) = (rows[i].length : Nat) := by simpa using e
            omega
          refine ⟨_, rfl, _, rfl, D, _, _, _, rfl, rfl, sqL hD, ix1, ?_⟩
          refine ⟨_, rfl, _, rfl, _, _, rfl, rfl, D, _, _, _, rfl, rfl, sqL hD, ix0, t1, t0, _, _, rfl, rfl, ht1, ht0, _, rfl, ?_⟩
          have bn : badNext (rows.getD i []) (rows.getD (i + 1) []) = HT.lexLt rows[i + 1] rows[i] := by
            unfold badNext
            rw [g0, g1, decide_eq_false (p := rows[i + 1].length ≠ rows[i].length) (fun z => z el), Bool.false_or, lex_is]
          refine iteB (fun e2 => ?_) (fun e2 => ?_)
          · exact ⟨_, rfl, mkO_in fun d nd => raise (bn.trans e2) d nd⟩
          · refine ⟨_, rfl, rfl, ?_⟩
            show badFrom rows (i + 1) = none
            unfold badFrom at hb ⊢
            rw [range_some, hb, bn, e2]
            rfl
      · rintro σ H' ⟨v3, rfl, rfl, hb⟩
        rw [show ((rvals.length : Int) - 1).toNat = rows.length - 1 by omega] at hb
        exact ⟨_, rfl, q (hbf.trans hb) H1 D rvals s1 nD hD hrv⟩
abbrev s_reading : Stmt := topS 7
abbrev N_reading : List Str := ["values", "versions", "rows", "version", "cell"]
abbrev P_reading : List Str := ["values", "versions"]
theorem sc_reading : FnScope N_reading P_reading (defScope s_reading) := ⟨rfl, rfl, rfl, by decide +kernel, rfl, by decide +kernel, by decide +kernel⟩
def spReading (K : PySem.W.Frag) (cB cV : Addr) : Sp := fun vs H Q E => ∃ (a b : Addr) (vals : List V) (rows : List (List Int)) (k : List Int), vs = [.ref a, .ref b] ∧ Sq K H a vals ∧ Paired (ValAt K H) vals rows ∧ rows.length ≤ 1000 ∧ Sq K H b (k.map V.int) ∧ k.length ≤ 1000 ∧
  (∀ i, badAt rows = some i → ∀ H' d, Same H H' → H' d = some (.xd [("index", .int (i : Nat))]) → E (.ref cB) (some d) H') ∧
  (badAt rows = none → versOk rows k → ∀ H' p, Same H H' → H p = none → H' p = some (.tup ((rowV rows k).map V.int)) → Q (.ref p) H') ∧
  (badAt rows = none → ¬ versOk rows k → ∀ H', Same H H' → E (.ref cV) none H')
theorem ok_reading {f cB cV : Addr} {fd : FuncData} (F : Fun K "reading" "reading" s_reading f fd) (B : Bi mg) (E_BadVersions : Ec K mg "BadVersions" cV) (C_checked_values : Cal P w K mg base (L2.CX P w) 3 "checked_values" P_checked_values (spChecked K cB)) : FnOk P w K mg base (L2.CX P w) 4 f fd P_reading (spReading K cB cV) := by
  refine F.okX sc_reading (fun vs H Q E h => ?_) (fun cdv A outer s H vs Q E hr h => ?_)
  · obtain ⟨a, b, vals, rows, k, rfl, _⟩ := h
    rfl
  · obtain ⟨a, b, vals, rows, k, rfl, ha, hv, h1000, hb, hk1000, qB, q, qV⟩ := h
    refine ⟨_, (pss_cons (ps_set (i := 2) sc_reading.nd rfl (.inr rfl) (pe_cal C_checked_values (hr.mono (by decide)) (by rfl) (passes_call (takes_of rfl rfl rfl rfl) (fun _ _ _ _ h => h)) (pa_cons (pv 0) pa_nil)))
      (pss_cons (ps_if (pt_cmpR op_ne (pe_callB call_len_seq (by rfl) B.b_len PySem.boot_len (pa_cons (pv 1) pa_nil)) (pe_callB call_len_seq (by rfl) B.b_len PySem.boot_len (pa_cons (pe_ix ix_list (pv 2) pe_int (fun _ _ => rfl)) pa_nil)) (nomark _)) 
          (pss_one (ps_raise rfl (takes_of rfl rfl rfl rfl) (pmk_own0 PySem.F.excBase_ValueError E_BadVersions.xC E_BadVersions.gC E_BadVersions.kC (raises_own E_BadVersions.bC E_BadVersions.tC) (by rfl)))) pss_nil)
      (pss_cons (ps_for (passes_of rfl) rfl (pi_any (pv 1)) (pg_name (i := 3) sc_reading.nd rfl (.inl rfl)) 
          (pss_one (ps_if (pt_not (pt_chain op_le op_lt pe_int (pv 3) (pe_callB call_len_seq (by rfl) B.b_len PySem.boot_len (pa_cons (pv 2) pa_nil)))) 
              (pss_one (ps_raise rfl (takes_of rfl rfl rfl rfl) (pmk_own0 PySem.F.excBase_ValueError E_BadVersions.xC E_BadVersions.gC E_BadVersions.kC (raises_own E_BadVersions.bC E_BadVersions.tC) (by rfl)))) pss_nil)))
      (pss_one (ps_ret (pe_callTy call_tuple_of (by rfl) B.b_tuple (by decide +kernel) (pa_cons (pe_lc (own := [("cell", 4), ("version", 3)]) (g := gTup K 2 (gCons (gName 4) (gCons (gName 3) gNil))) (by rfl) sc_reading.nd (pi_enumS (by rfl) B.b_enumerate (pa_cons (pv 1) pa_nil)) (blkOk_by (own := [("cell", 4), ("version", 3)]) (N := N_reading) (sc := (defScope s_reading)) (by decide +kernel)) (fun _ _ _ _ _ => (k_pg_tup (K := K) (pg_tup (by rfl) (pgs_cons (pg_name (i := 4) sc_reading.nd rfl (.inl rfl)) (pgs_cons (pg_name (i := 3) sc_reading.nd rfl (.inl rfl)) pgs_nil))) rfl)) (fun _ _ _ _ _ => pts_nil) (fun _ _ _ _ _ => (pe_ix (k_ix_tup (K := K) rfl) (pe_ix (k_ix_list (K := K) rfl) (pv 2) (pv 3) (fun _ _ => rfl)) (pv 4) (fun _ _ => rfl)))) pa_nil))))))), ?_⟩
    refine ⟨_, rfl, a, vals, rows, rfl, ha, hv, h1000, fun hbad H1 D rvals s1 nD hD hrv => ?_, qB⟩
    obtain ⟨ne0, ne1, _⟩ := bad_none hbad
    have hb1 := hb.same s1
    have lr := pd_length hrv
    have h0 : 0 < rows.length := List.length_pos_iff.mpr ne0
    obtain ⟨x0, hx0, t0, et0, ht0⟩ := pd_get' hrv (List.getElem?_eq_getElem h0)
    subst et0
    have g0 : rows.getD 0 [] = rows[0] := by
      rw [List.getD_eq_getElem?_getD, List.getElem?_eq_getElem h0]
      rfl
    have bad : ¬ versOk rows k → ∀ H', Same H1 H' → E (.ref cV) none H' := fun z H' s => qV hbad z H' (s1.trans s)
    refine ⟨_, rfl, b, _, rfl, hb1, ?_⟩
    refine ⟨_, rfl, D, _, 0, _, rfl, rfl, sqL hD, atI_nat (j := 0) hx0, t0, _, rfl, .inr ht0, rfl, _, rfl, ?_⟩
    refine iteB (fun e => ?_) (fun e => ?_)
    · refine bad (fun z => ?_) H1 (Same.refl _)
      have := z.1
      rw [g0] at this
      rw [List.length_map, List.length_map, this] at e
      simp at e
    · have el : k.length = rows[0].length := by
        have e' : ((k.length : Nat) : Int) = (rows[0].length : Nat) := by simpa using e
        omega
      refine ⟨_, rfl, b, _, rfl, hb1, fun J wj => for_it wj (fun i σ H' => ∃ v3, σ = [some (.ref a), some (.ref b), some (.ref D), v3, none] ∧ Same H1 H' ∧ ∀ x ∈ k.take i, 0 ≤ x ∧ x < (rows.length : Int)) ⟨none, rfl, Same.refl _, fun x hx => by simp at hx⟩ (fun i σ H' _ hP => ?_) ?_ ?_⟩
      · obtain ⟨_, _, s2, _⟩ := hP
        exact ⟨hb1.same s2, s2⟩
      · rintro i x σ H2 H3 hi ⟨v3, rfl, s2, hall⟩ ⟨rfl, hx⟩
        rw [List.length_map] at hi
        have ex : x = .int (k.getD i 0) := (int_at hx).2
        subst ex
        have hmem : k.getD i 0 ∈ k := by
          rw [List.getD_eq_getElem?_getD, List.getElem?_eq_getElem hi]
          exact List.getElem_mem hi
        refine ⟨_, rfl, _, _, rfl, rfl, _, rfl, ?_⟩
        refine ite2 (fun e1 => ?_) (fun e1 => ?_)
        · refine ⟨_, rfl, D, _, rfl, .inl (sqL (s2 _ _ hD)), _, _, rfl, rfl, _, rfl, ?_⟩
          refine iteB (fun e2 => ?_) (fun e2 => ?_)
          · refine bad (fun z => ?_) H3 s2
            have h1 := (z.2 _ hmem).2
            rw [← lr] at h1
            rw [decide_eq_true h1] at e2
            cases e2
          · refine ⟨_, rfl, s2, fun y hy => ?_⟩
            have h1 : k.getD i 0 < (rvals.length : Int) := by
              by_cases h : k.getD i 0 < (rvals.length : Int)
              · exact h
              · rw [decide_eq_false h] at e2
                cases e2
            rw [take_snoc k i hi] at hy
            rcases List.mem_append.mp hy with h | h
            · exact hall y h
            · have : y = k.getD i 0 := by simpa using h
              rw [this, ← lr]
              exact ⟨of_decide_eq_true e1, h1⟩
        · refine ⟨_, rfl, ?_⟩
          refine iteT ?_
          refine bad (fun z => e1 (decide_eq_true (z.2 _ hmem).1)) H3 s2
      · rintro σ H2 ⟨v3, rfl, s2, hall⟩
        rw [List.length_map, List.take_length] at hall
        have hok : versOk rows k := ⟨by rw [g0]; exact el, hall⟩
        have hin := versOk_in hok ne0
        have hb2 := hb1.same s2
        refine ⟨_, rfl, b, _, rfl, hb2, fun J wj D2 nD2 => lc_it wj (fun i H' => Same H2 H' ∧ H' D2 = some (.lst (((List.range i).map fun i => (rows.getD (k.getD i 0).toNat []).getD i 0).map V.int))) ⟨same_new nD2, upd_same⟩ (fun i H' _ hP => ⟨hb2.same hP.1, hP.1⟩) ?_ ?_⟩
        · rintro i x H3 H4 hi ⟨s3, hD2⟩ ⟨T, u, v, rfl, nT, rfl, eu, ev⟩
          rw [List.length_map] at hi
          have eu' : u = .int ((i : Nat) : Int) := (Option.some.inj eu).symm
          have ev' : v = .int (k.getD i 0) := (int_at ev).2
          subst eu' ev'
          obtain ⟨h1, h2⟩ := hin.get hi
          have hlt : (k.getD i 0).toNat < rows.length := by omega
          obtain ⟨y, hy, tr, etr, htr⟩ := pd_get' hrv (List.getElem?_eq_getElem hlt)
          subst etr
          have eg : rows.getD (k.getD i 0).toNat [] = rows[(k.getD i 0).toNat] := by
            rw [List.getD_eq_getElem?_getD, List.getElem?_eq_getElem hlt]
            rfl
          have hlen : rows[(k.getD i 0).toNat].length = rows[0].length := by
            have := bad_len' hbad (List.getElem_mem hlt)
            rw [g0] at this
            exact this
          have s4 := same_new (o := .tup [.int ((i : Nat) : Int), .int (k.getD i 0)]) nT
          have s14 := s2.trans (s3.trans s4)
          refine ⟨T, _, rfl, sqT upd_same, rfl, _, _, rfl, _, _, rfl, rfl, rfl, ?_⟩
          refine ⟨_, rfl, _, rfl, D, _, _, _, rfl, rfl, sqL (s14 _ _ hD), at_of (j := (k.getD i 0).toNat) (by omega) hy, _, rfl, tr, _, _, _, rfl, rfl, same_t s14 htr, at_int (j := i) rfl (by omega), ?_⟩
          refine ⟨_, s4 _ _ hD2, by rw [List.length_map, List.length_map, List.length_range]; exact small1000 (by omega), fun c o e => ?_, ?_⟩
          · rw [upd_ne (ne_of_none e nD2)]
            exact s4 _ _ (s3 _ _ e)
          · rw [upd_same, List.range_succ, List.map_append, List.map_append, ← eg]
            rfl
        · rintro H3 ⟨s3, hD2⟩
          rw [List.length_map] at hD2
          refine ⟨D2, _, rfl, .inl ⟨sqL hD2, fun p np => ?_⟩⟩
          have s4 := s1.trans (s2.trans s3)
          exact q hbad hok _ p (s4.trans (same_new np)) (s4.free np) upd_same
abbrev s_pick : Stmt := topS 11
abbrev N_pick : List Str := ["pen", "options"]
abbrev P_pick : List Str := ["pen", "options"]
theorem sc_pick : FnScope N_pick P_pick (defScope s_pick) := ⟨rfl, rfl, rfl, by decide +kernel, rfl, by decide +kernel, by decide +kernel⟩
def spPick : Sp := fun vs H Q _ => ∃ (p o c : Addr) (b : Int) (xs : List V), vs = [.ref p, .ref o] ∧ H o = some (.lst xs) ∧ Pen H p c b ∧ 0 < xs.length ∧ xs.length ≤ 1000 ∧ b < 2 ^ 60 ∧
  ∀ (r : Nat) x H', xs[r]? = some x → Pen H' p c (b + 1) → SameB p H H' → Q x H'
theorem ok_pick {f : Addr} {fd : FuncData} (F : Fun K "_law_pick" "_law_pick" s_pick f fd) (B : Bi mg) (C_draw : Cal P w K mg base CX0 1 "_law_draw" P_draw spDraw) : FnOk P w K mg base CX0 2 f fd P_pick spPick := by
  refine F.ok sc_pick (fun vs H Q E h => ?_) (fun cdv A outer s H vs Q E hr h => ?_)
  · obtain ⟨p, o, c, b, xs, rfl, _⟩ := h
    rfl
  · obtain ⟨p, o, c, b, xs, rfl, ho, hp, x0, x1000, hb, q⟩ := h
    refine ⟨_, (pss_one (ps_ret (pe_ix ix_list (pv 1) (pe_cal C_draw (hr.mono (by decide)) (by rfl) pass0 (pa_cons (pv 0) (pa_cons (pe_callB call_len_seq (by rfl) B.b_len PySem.boot_len (pa_cons (pv 1) pa_nil)) pa_nil))) (fun _ _ => rfl)))), ?_⟩
    refine ⟨_, rfl, _, rfl, _, rfl, o, _, rfl, .inl (sqL ho), p, c, xs.length, b, rfl, hp, by omega, by omega, by omega, fun r H1 r0 r1 p1 s1 => ?_⟩
    have hlt : r.toNat < xs.length := by omega
    refine ⟨o, xs, r, xs[r.toNat], rfl, rfl, sqL (s1.lst hp ho), at_of (j := r.toNat) (by omega) (List.getElem?_eq_getElem hlt), ?_⟩
    exact q r.toNat _ H1 (List.getElem?_eq_getElem hlt) p1 s1
end
end Dg
namespace Dg
open PySem PySem.Spec PyProof.Rows L2
local macro_rules | `(tactic| walk_at "rd1") => `(tactic| first | refine ⟨_, rfl, ?_⟩ | refine ⟨_, _, rfl, rfl, ?_⟩)
local macro_rules | `(tactic| walk_at "rd") => `(tactic| repeat walk_at "rd1")
section
variable {P : Program} {w : World} {K : PySem.W.Frag} {mg : Str → Option Value} {base : Heap}
abbrev s_new_values : Stmt := topS 12
abbrev N_new_values : List Str := ["pen", "cells", "many", "base", "row", "found", "k", "at", "rest", "i"]
abbrev P_new_values : List Str := ["pen", "cells", "many", "base"]
theorem sc_new_values : FnScope N_new_values P_new_values (defScope s_new_values) := ⟨rfl, rfl, rfl, by decide +kernel, rfl, by decide +kernel, by decide +kernel⟩
def RisOk (n : Nat) (bs : Int) (rows : List (List Int)) : Prop := (∀ r ∈ rows, r.length = n ∧ ∀ d ∈ r, 0 ≤ d ∧ d < bs) ∧ ∀ j, j + 1 < rows.length → lexL (rows.getD (j + 1) []) (rows.getD j []) = false
theorem pickB {bs : Int} {r : Nat} {x : V} (hb : 2 ≤ bs) (h : [V.int 0, .int 0, .int 0, .int (bs - 1)][r]? = some x) : ∃ v : Int, x = .int v ∧ 0 ≤ v ∧ v < bs := by
  match r, h with
  | 0, h => exact ⟨0, (Option.some.inj h).symm, by omega, by omega⟩
  | 1, h => exact ⟨0, (Option.some.inj h).symm, by omega, by omega⟩
  | 2, h => exact ⟨0, (Option.some.inj h).symm, by omega, by omega⟩
  | 3, h => exact ⟨bs - 1, (Option.some.inj h).symm, by omega, by omega⟩
  | _ + 4, h => cases h
theorem lex_bump : ∀ (row : List Int) (u : Nat) (ds : List Int), u < row.length → lexL (row.take u ++ [row.getD u 0 + 1] ++ ds) row = false
  | [], _, _, h => absurd h (Nat.not_lt_zero _)
  | x :: xs, 0, ds, _ => by
    show lexL ((x + 1) :: ds) (x :: xs) = false
    unfold lexL
    rw [if_neg (by omega)]
    exact decide_eq_false (by omega)
  | x :: xs, u + 1, ds, h => by
    show lexL (x :: (xs.take u ++ [xs.getD u 0 + 1] ++ ds)) (x :: xs) = false
    unfold lexL
    rw [if_pos rfl]
    exact lex_bump xs u ds (Nat.lt_of_succ_lt_succ h)
theorem getD_last {rows : List (List Int)} {row : List Int} : (rows ++ [row]).getD rows.length [] = row := by
  rw [List.getD_eq_getElem?_getD, List.getElem?_append_right (Nat.le_refl _), Nat.sub_self]
  rfl
theorem getD_fst {rows : List (List Int)} {row : List Int} {j : Nat} (h : j < rows.length) : (rows ++ [row]).getD j [] = rows.getD j [] := by
  rw [List.getD_eq_getElem?_getD, List.getD_eq_getElem?_getD, List.getElem?_append_left h]
theorem RisOk.snoc {n : Nat} {bs : Int} {rows : List (List Int)} {row : List Int} (h : RisOk n bs rows) (hl : row.length = n) (hd : ∀ d ∈ row, 0 ≤ d ∧ d < bs) (hx : 0 < rows.length → lexL row (rows.getD (rows.length - 1) []) = false) : RisOk n bs (rows ++ [row]) := by
  refine ⟨fun r hr => ?_, fun j hj => ?_⟩
  · rcases List.mem_append.mp hr with z | z
    · exact h.1 r z
    · have : r = row := by simpa using z
      rw [this]
      exact ⟨hl, hd⟩
  · rw [List.length_append] at hj
    have hj' : j + 1 < rows.length + 1 := hj
    by_cases e : j + 1 = rows.length
    · rw [e, getD_last, getD_fst (by omega), show j = rows.length - 1 by omega]
      exact hx (by omega)
    · rw [getD_fst (by omega), getD_fst (by omega)]
      exact h.2 j (by omega)
def spValues (K : PySem.W.Frag) : Sp := fun vs H Q _ => ∃ (p c : Addr) (b : Int) (n m : Nat) (bs : Int), vs = [.ref p, .int n, .int m, .int bs] ∧ Pen H p c b ∧ 1 ≤ n ∧ n ≤ 59 ∧ m ≤ 60 ∧ 2 ≤ bs ∧ bs ≤ 10 ^ 20 ∧ b < 2 ^ 50 ∧
  ∀ H' D vals rows, SameB p H H' → Pen H' p c (b + 5000) → H' D = some (.lst vals) → Paired (RowAt K H') vals rows → rows.length = m → RisOk n bs rows → Q (.ref D) H'
theorem ok_values {f : Addr} {fd : FuncData} (F : Fun K "_law_new_values" "_law_new_values" s_new_values f fd) (B : Bi mg) (C_draw : Cal P w K mg base CX0 1 "_law_draw" P_draw spDraw) (C_pick : Cal P w K mg base CX0 2 "_law_pick" P_pick spPick) : FnOk P w K mg base CX0 3 f fd P_new_values (spValues K) := by
  refine F.ok sc_new_values (fun vs H Q E h => ?_) (fun cdv A outer s H vs Q E hr h => ?_)
  · obtain ⟨p, c, b, n, m, bs, rfl, _⟩ := h
    rfl
  · obtain ⟨p, c, b, n, m, bs, rfl, hp, hn1, hn, hm, hb2, hb20, hb, q⟩ := h
    refine ⟨_, (pss_cons (ps_par (i := 4) (j := 5) (by rfl) sc_new_values.nd rfl rfl (by decide) rfl rfl (pa_cons (pe_lc (own := [("i", 9)]) (g := gName 9) (by rfl) sc_new_values.nd (pi_range1 (by rfl) B.b_range (pa_cons (pv 1) pa_nil)) (blkOk_by (own := [("i", 9)]) (N := N_new_values) (sc := (defScope s_new_values)) (by decide +kernel)) (fun _ _ _ _ _ => (pg_name (i := 9) sc_new_values.nd rfl (.inl rfl))) (fun _ _ _ _ _ => pts_nil) (fun _ _ _ _ _ => (pe_cal C_draw (hr.mono (by decide)) (by rfl) pass0 (pa_cons (pv 0) (pa_cons (pv 3) pa_nil))))) (pa_cons (pe_lst pa_nil) pa_nil)) (by rfl))
      (pss_cons (ps_for PassesOwn.never rfl (pi_range1 (by rfl) B.b_range (pa_cons (pv 2) pa_nil)) (pg_name (i := 6) sc_new_values.nd rfl (.inl rfl)) 
          (pss_cons (ps_expr (pe_bm PySem.F.plainAttrs_list PySem.F.slot_list_append PySem.F.type_list_append mt_append (pv 5) (pa_cons (pe_callTy call_tuple_of (by rfl) B.b_tuple (by decide +kernel) (pa_cons (pv 4) pa_nil)) pa_nil)))
          (C8.pss_cut (ps_set (i := 7) sc_new_values.nd rfl (.inl rfl) (pe_ifExp (pt_cmpR op_eq (pe_cal C_draw (hr.mono (by decide)) (by rfl) pass0 (pa_cons (pv 0) (pa_cons pe_int pa_nil))) pe_int (nomark _)) (pe_op op_sub (pe_op op_sub (pv 1) pe_int) (pe_cal C_draw (hr.mono (by decide)) (by rfl) pass0 (pa_cons (pv 0) (pa_cons (pv 1) pa_nil)))) (pe_op op_sub (pv 1) pe_int)))
          (C8.pss_cut (ps_while PassesOwn.never (PW.pt (pw_and (pt_cmpR op_ge (pv 7) pe_int (nomark _)) (pw_and1 (pt_cmpR op_ge (pe_ix ix_list (pv 4) (pv 7) (fun _ _ => rfl)) (pe_op op_sub (pv 3) pe_int) (nomark _))))) 
              (pss_one (ps_set (i := 7) sc_new_values.nd rfl (.inl rfl) (pe_op op_sub (pv 7) pe_int))))
          (pss_one (ps_if (PW.pt (pw_and (pt_cmpR op_ge (pv 7) pe_int (nomark _)) (pw_and1 (pt_cmpR op_gt (pe_cal C_draw (hr.mono (by decide)) (by rfl) pass0 (pa_cons (pv 0) (pa_cons pe_int pa_nil))) pe_int (nomark _))))) 
              (pss_cons (ps_setLc (i := 8) (own := [("i", 9)]) (g := gName 9) (by rfl) sc_new_values.nd rfl rfl (sw_true rfl rfl rfl (by decide +kernel)) (pi_range1 (by rfl) B.b_range (pa_cons (pe_op op_sub (pe_op op_sub (pv 1) (pv 7)) pe_int) pa_nil)) (blkOk_by (own := [("i", 9)]) (N := N_new_values) (sc := (defScope s_new_values)) (by decide +kernel)) (fun _ _ _ _ _ => (pg_name (i := 9) sc_new_values.nd rfl (.inl rfl))) (fun _ _ _ _ _ => pts_nil) (fun _ _ _ _ _ => (pe_cal C_pick (hr.mono (by decide)) (by rfl) pass0 (pa_cons (pv 0) (pa_cons (pe_lst (pa_cons pe_int (pa_cons pe_int (pa_cons pe_int (pa_cons (pe_op op_sub (pv 3) pe_int) pa_nil))))) pa_nil)))))
              (pss_one (ps_set (i := 4) sc_new_values.nd rfl (.inl rfl) (pe_op op_cat (pe_op op_cat (pe_slice sl_list (pv 4) po_none (po_some (pv 7))) (pe_lst (pa_cons (pe_op op_add (pe_ix ix_list (pv 4) (pv 7) (fun _ _ => rfl)) pe_int) pa_nil))) (pv 8))))) pss_nil))))))
      (pss_one (ps_ret (pv 5))))), ?_⟩
    refine ⟨_, rfl, _, rfl, by omega, by omega, fun R nR => lc_range (lo := 0) (n := n) (fun i H' => ∃ ns : List Int, SameB p H H' ∧ Pen H' p c (b + i) ∧ H' R = some (.lst (ns.map V.int)) ∧ ns.length = i ∧ ∀ d ∈ ns, 0 ≤ d ∧ d < bs) ⟨[], SameB.of (same_new nR), by simpa using hp.same (same_new nR), upd_same, rfl, fun x hx => (by cases hx)⟩ ?_ ?_⟩
    · rintro i H1 hi ⟨ns, s1, p1, hD, hl, ha⟩
      obtain ⟨nDp, nDc⟩ := hp.fresh nR
      refine ⟨rfl, _, rfl, _, rfl, p, c, bs, b + i, rfl, p1, by omega, by omega, by omega, fun r H2 r0 r1 p2 s2 => ?_⟩
      refine ⟨_, s2.lst p1 hD, by rw [List.length_map]; exact small1000 (by omega), ns ++ [r], (s1.trans s2).upd nR, ?_, ?_, by rw [List.length_append, hl]; rfl, fun d hd => ?_⟩
      · exact (p2.upd nDp nDc).mono (by omega)
      · rw [upd_same, List.map_append]
        rfl
      · rcases List.mem_append.mp hd with z | z
        · exact ha d z
        · have : d = r := by simpa using z
          omega
    rintro H1 ⟨ns, s1, p1, hR, hl, ha⟩
    refine ⟨Nat.zero_le _, fun D nD => ?_⟩
    have s2 := same_new (o := .lst []) nD
    obtain ⟨nDp, nDc⟩ := p1.fresh nD
    have hD0 : upd H1 D (.lst []) D = some (.lst []) := upd_same
    have hR2 := s2 _ _ hR
    have p2 := p1.same s2
    have sB2 : SameB p H1 (upd H1 D (.lst [])) := SameB.of s2
    generalize upd H1 D (.lst []) = H2 at s2 hD0 hR2 p2 sB2
    refine ⟨_, _, rfl, ?_⟩
    refine ⟨_, rfl, _, rfl, by omega, by omega, for_range (lo := 0) (n := m) (fun k σ H' => ∃ R row vals rows v6 v7 v8 v9, σ = [some (.ref p), some (.int n), some (.int m), some (.int bs), some (.ref R), some (.ref D), v6, v7, v8, v9] ∧ SameB p H1 H' ∧ Pen H' p c (b + n + 70 * k) ∧
      H' R = some (.lst (row.map V.int)) ∧ R ≠ D ∧ row.length = n ∧ (∀ d ∈ row, 0 ≤ d ∧ d < bs) ∧ H' D = some (.lst vals) ∧ Paired (RowAt K H') vals rows ∧ rows.length = k ∧ RisOk n bs rows ∧ (0 < k → lexL row (rows.getD (k - 1) []) = false))
      ⟨R, ns, [], [], _, _, _, _, rfl, sB2, p2.mono (by omega), hR2, ne_of_none hR nD, hl, ha, hD0, .nil, rfl, ⟨fun r hr => (by cases hr), fun j hj => (by simp at hj)⟩, fun z => absurd z (Nat.lt_irrefl _)⟩ ?_ ?_⟩
    · rintro k σ H3 hk ⟨R, row, vals, rows, v6, v7, v8, v9, rfl, s3, p3, hR3, hRD, lrow, drow, hD3, hv3, lrows, hris, hlast⟩
      have hln : vals.length = k := (pd_length hv3).trans lrows
      refine ⟨_, rfl, .inl ⟨rfl, _, sqL hD3⟩, _, rfl, R, _, rfl, .inl ⟨sqL hR3, fun T nT => ?_⟩⟩
      have sT := same_new (o := .tup (row.map V.int)) nT
      have hTD : T ≠ D := Ne.symm (ne_of_none hD3 nT)
      refine ⟨D, _, _, rfl, rfl, sT _ _ hD3, small1000 (by omega), ?_⟩
      have sB5 : SameB p H1 (upd (upd H3 T (.tup (row.map V.int))) D (.lst (vals ++ [.ref T]))) := (s3.trans (SameB.of sT)).upd nD
      have p5 : Pen (upd (upd H3 T (.tup (row.map V.int))) D (.lst (vals ++ [.ref T]))) p c (b + n + 70 * k) := (p3.same sT).upd nDp nDc
      have hR5 : upd (upd H3 T (.tup (row.map V.int))) D (.lst (vals ++ [.ref T])) R = some (.lst (row.map V.int)) := by
        rw [upd_ne hRD]
        exact sT _ _ hR3
      have hD5 : upd (upd H3 T (.tup (row.map V.int))) D (.lst (vals ++ [.ref T])) D = some (.lst (vals ++ [.ref T])) := upd_same
      have hv5 : Paired (RowAt K (upd (upd H3 T (.tup (row.map V.int))) D (.lst (vals ++ [.ref T])))) (vals ++ [.ref T]) (rows ++ [row]) :=
        pd_app (pd_mono (rows_same sT hv3) fun _ _ h => row_upd (sT _ _ hD3) h) (.cons ⟨T, rfl, sqT (by rw [upd_ne hTD]; exact upd_same)⟩ .nil)
      have hris5 : RisOk n bs (rows ++ [row]) := hris.snoc lrow drow (by rw [lrows]; exact hlast)
      generalize upd (upd H3 T (.tup (row.map V.int))) D (.lst (vals ++ [.ref T])) = H5 at sB5 p5 hR5 hD5 hv5
      refine ⟨fun σ' H' => ∃ at_ : Int, σ' = [some (.ref p), some (.int n), some (.int m), some (.int bs), some (.ref R), some (.ref D), some (.int (0 + (k : Int))), some (.int at_), v8, v9] ∧ SameB p H5 H' ∧ Pen H' p c (b + n + 70 * k + 2) ∧ 0 ≤ at_ ∧ at_ < n, ?_, ?_⟩
      · refine ⟨_, rfl, p, c, 3, b + n + 70 * k, rfl, p5, by decide, by decide, by omega, fun r H6 r0 r3 p6 s6 => ?_⟩
        refine ⟨rfl, _, rfl, ?_⟩
        refine ite2 (fun e => ?_) (fun e => ?_)
        · refine ⟨_, rfl, _, _, rfl, rfl, _, rfl, _, rfl, p, c, n, b + n + 70 * k + 1, rfl, p6, by omega, by omega, by omega, fun r2 H7 r20 r2n p7 s7 => ?_⟩
          refine ⟨_, _, rfl, rfl, ?_⟩
          exact ⟨_, rfl, s6.trans s7, p7.mono (by omega), by omega, by omega⟩
        · refine ⟨_, rfl, _, _, rfl, rfl, ?_⟩
          exact ⟨_, rfl, s6, p6.mono (by omega), by omega, by omega⟩
      rintro σ' H6 ⟨at0, rfl, s6, p6, at00, at0n⟩
      have hR6 := s6.lst p5 hR5
      refine ⟨fun σ' H' => ∃ at_ : Int, σ' = [some (.ref p), some (.int n), some (.int m), some (.int bs), some (.ref R), some (.ref D), some (.int (0 + (k : Int))), some (.int at_), v8, v9] ∧ H6 = H' ∧ -1 ≤ at_ ∧ at_ < n ∧ (0 ≤ at_ → row.getD at_.toNat 0 < bs - 1), ?_, ?_⟩
      · refine ⟨fun mm σ' H' => ∃ at_ : Int, σ' = [some (.ref p), some (.int n), some (.int m), some (.int bs), some (.ref R), some (.ref D), some (.int (0 + (k : Int))), some (.int at_), v8, v9] ∧ H6 = H' ∧ -1 ≤ at_ ∧ at_ < n ∧ mm = (at_ + 1).toNat, ⟨_, at0, rfl, rfl, by omega, by omega, rfl⟩, ?_⟩
        rintro mm σ' H' ⟨at_, rfl, rfl, a1, a2, rfl⟩
        refine ⟨_, rfl, _, _, rfl, rfl, _, rfl, ?_⟩
        refine ite2 (fun e => ?_) (fun e => ?_)
        · have e' : 0 ≤ at_ := of_decide_eq_true e
          have hlt : at_.toNat < row.length := by omega
          refine ⟨_, rfl, _, rfl, R, _, _, _, rfl, rfl, sqL hR6, at_int (ns := row) (j := at_.toNat) (by omega) hlt, _, rfl, _, _, rfl, rfl, _, _, rfl, rfl, _, rfl, ?_⟩
          refine ite2 (fun e2 => ?_) (fun e2 => ?_)
          · refine ⟨fun σ' H' => ∃ at_' : Int, σ' = [some (.ref p), some (.int n), some (.int m), some (.int bs), some (.ref R), some (.ref D), some (.int (0 + (k : Int))), some (.int at_'), v8, v9] ∧ H6 = H' ∧ -1 ≤ at_' ∧ at_' < at_, ?_, ?_⟩
            · rintro σ' H' ⟨x, rfl, rfl, x1, x2⟩
              exact ⟨_, by omega, x, rfl, rfl, x1, by omega, rfl⟩
            · refine ⟨_, rfl, _, _, rfl, rfl, ?_⟩
              exact ⟨_, rfl, rfl, by omega, by omega⟩
          · refine ⟨at_, rfl, rfl, a1, a2, fun _ => ?_⟩
            have : ¬ bs - 1 ≤ row.getD at_.toNat 0 := fun z => e2 (decide_eq_true z)
            omega
        · exact ⟨at_, rfl, rfl, a1, a2, fun z => absurd (decide_eq_true z) e⟩
      rintro σ' H7 ⟨at_, rfl, rfl, a1, a2, hlow⟩
      have next : ∀ {H'}, SameB p H6 H' → Pen H' p c (b + n + 70 * k + 70) → ∀ w8 w9 : Option V, ∃ R' row' vals' rows' v6 v7 v8 v9, [some (V.ref p), some (.int n), some (.int m), some (.int bs), some (.ref R), some (.ref D), some (.int (0 + (k : Int))), some (.int at_), w8, w9] = [some (.ref p), some (.int n), some (.int m), some (.int bs), some (.ref R'), some (.ref D), v6, v7, v8, v9] ∧ SameB p H1 H' ∧ Pen H' p c (b + n + 70 * (k + 1 : Nat)) ∧
          H' R' = some (.lst (row'.map V.int)) ∧ R' ≠ D ∧ row'.length = n ∧ (∀ d ∈ row', 0 ≤ d ∧ d < bs) ∧ H' D = some (.lst vals') ∧ Paired (RowAt K H') vals' rows' ∧ rows'.length = k + 1 ∧ RisOk n bs rows' ∧ (0 < k + 1 → lexL row' (rows'.getD (k + 1 - 1) []) = false) := by
        intro H' sx px w8 w9
        have s56 := s6.trans sx
        refine ⟨R, row, vals ++ [.ref T], rows ++ [row], _, _, _, _, rfl, sB5.trans s56, px.mono (by omega), s56.lst p5 hR5, hRD, lrow, drow, s56.lst p5 hD5, pd_mono hv5 fun _ _ h => h.sb s56 p5, by rw [List.length_append, lrows]; rfl, hris5, fun _ => ?_⟩
        rw [show k + 1 - 1 = rows.length by omega, getD_last, lex_self]
      have p7 := p6
      refine ⟨_, rfl, _, _, rfl, rfl, _, rfl, ?_⟩
      refine ite2 (fun e => ?_) (fun e => next (SameB.of (Same.refl _)) (p7.mono (by omega)) _ _)
      have e' : 0 ≤ at_ := of_decide_eq_true e
      refine ⟨_, rfl, p, c, 8, b + n + 70 * k + 2, rfl, p7, by decide, by decide, by omega, fun r H8 r0 r8 p8 s8 => ?_⟩
      refine ⟨_, _, rfl, rfl, _, rfl, ?_⟩
      refine ite2 (fun e2 => ?_) (fun e2 => next s8 (p8.mono (by omega)) _ _)
      obtain ⟨u, rfl⟩ := Int.eq_ofNat_of_zero_le e'
      have hu : u < row.length := by omega
      rw [Int.toNat_natCast] at hlow
      have hlow' := hlow e'
      have hu0 := drow _ (getD_in (k := row) hu)
      refine ⟨_, rfl, _, rfl, _, _, rfl, rfl, _, _, rfl, rfl, _, rfl, by omega, by omega, fun S nS => lc_range (lo := 0) (n := ((n : Int) - (u : Int) - 1).toNat) (fun i H' => ∃ ds : List Int, SameB p H8 H' ∧ Pen H' p c (b + n + 70 * k + 3 + i) ∧ H' S = some (.lst (ds.map V.int)) ∧ ds.length = i ∧ ∀ d ∈ ds, 0 ≤ d ∧ d < bs) ⟨[], SameB.of (same_new nS), (p8.same (same_new nS)).mono (by omega), upd_same, rfl, fun x hx => (by cases hx)⟩ ?_ ?_⟩
      · rintro i H9 hi ⟨ds, s9, p9, hS, lds, hds⟩
        obtain ⟨nSp, nSc⟩ := p8.fresh nS
        refine ⟨rfl, _, rfl, _, rfl, _, _, rfl, rfl, by show 4 ≤ sizeLine; decide, fun o no => ?_⟩
        have so := same_new (o := .lst [.int 0, .int 0, .int 0, .int (bs - 1)]) no
        refine ⟨p, o, c, b + n + 70 * k + 3 + i, _, rfl, upd_same, p9.same so, Nat.zero_lt_succ _, by show 4 ≤ 1000; decide, by omega, fun r x H10 hx p10 s10 => ?_⟩
        obtain ⟨v, rfl, v0, v1⟩ := pickB hb2 hx
        have s910 : SameB p H9 H10 := (SameB.of so).trans s10
        refine ⟨_, s910.lst p9 hS, by rw [List.length_map]; exact small1000 (by omega), ds ++ [v], (s9.trans s910).upd nS, (p10.upd nSp nSc).mono (by omega), ?_, by rw [List.length_append, lds]; rfl, fun d hd => ?_⟩
        · rw [upd_same, List.map_append]
          rfl
        · rcases List.mem_append.mp hd with z | z
          · exact hds d z
          · have : d = v := by simpa using z
            omega
      rintro H9 ⟨ds, s9, p9, hS, lds, hds⟩
      have s69 : SameB p H6 H9 := s8.trans s9
      have hR9 := s69.lst p6 hR6
      refine ⟨_, rfl, _, rfl, _, rfl, R, _, rfl, sqL hR9, fun S1 n1 => ?_⟩
      have t1 := same_new (o := .lst (cutV (row.map V.int) none (some (u : Int)))) n1
      refine ⟨_, rfl, _, rfl, R, _, _, _, rfl, rfl, sqL (t1 _ _ hR9), at_int (ns := row) (j := u) rfl hu, _, _, rfl, rfl, by show 1 ≤ sizeLine; decide, fun S2 n2 => ?_⟩
      have t2 := same_new (o := .lst [.int (row.getD u 0 + 1)]) n2
      have h1 : _ = some (HO.lst _) := t2 _ _ (upd_same (H := H9) (a := S1) (o := .lst (cutV (row.map V.int) none (some (u : Int)))))
      refine ⟨S1, S2, _, _, rfl, rfl, h1, upd_same, ?_, fun S3 n3 => ?_⟩
      · rw [cut_to, List.length_take, List.length_map]
        exact Nat.le_of_lt (small1000 (by show min u row.length + 1 ≤ 1000; omega))
      have t3 := same_new (o := .lst (cutV (row.map V.int) none (some (u : Int)) ++ [.int (row.getD u 0 + 1)])) n3
      have t13 := t1.trans (t2.trans t3)
      refine ⟨_, rfl, S3, S, _, _, rfl, rfl, upd_same, t13 _ _ hS, ?_, fun S4 n4 => ?_⟩
      · rw [cut_to, List.length_append, List.length_take, List.length_map, List.length_map]
        exact Nat.le_of_lt (small1000 (by show min u row.length + 1 + ds.length ≤ 1000; omega))
      have t4 := same_new (o := .lst (cutV (row.map V.int) none (some (u : Int)) ++ [.int (row.getD u 0 + 1)] ++ ds.map V.int)) n4
      have t14 := t13.trans t4
      have s6e : SameB p H5 (upd (upd (upd (upd H9 S1 (.lst (cutV (row.map V.int) none (some (u : Int))))) S2 (.lst [.int (row.getD u 0 + 1)])) S3 (.lst (cutV (row.map V.int) none (some (u : Int)) ++ [.int (row.getD u 0 + 1)]))) S4 (.lst (cutV (row.map V.int) none (some (u : Int)) ++ [.int (row.getD u 0 + 1)] ++ ds.map V.int))) := s6.trans (s69.trans (SameB.of t14))
      have hDe := s6e.lst p5 hD5
      refine ⟨S4, row.take u ++ [row.getD u 0 + 1] ++ ds, vals ++ [.ref T], rows ++ [row], _, _, _, _, rfl, sB5.trans s6e, (p9.same t14).mono (by omega), ?_, fun z => ?_, ?_, fun d hd => ?_, hDe, pd_mono hv5 fun _ _ h => h.sb s6e p5, by rw [List.length_append, lrows]; rfl, hris5, fun _ => ?_⟩
      · rw [upd_same, cut_to, List.map_append, List.map_append, List.map_take]
        rfl
      · exact ne_of_none ((SameB.of t13).lst p9 ((s6.trans s69).lst p5 hD5)) n4 z.symm
      · rw [List.length_append, List.length_append, List.length_take, lds]
        show min u row.length + 1 + ((n : Int) - (u : Int) - 1).toNat = n
        omega
      · rcases List.mem_append.mp hd with z | z
        · rcases List.mem_append.mp z with z | z
          · exact drow d (List.mem_of_mem_take z)
          · have : d = row.getD u 0 + 1 := by simpa using z
            omega
        · exact hds d z
      · rw [show k + 1 - 1 = rows.length by omega, getD_last]
        exact lex_bump row u ds hu
    · rintro σ H3 ⟨R, row, vals, rows, v6, v7, v8, v9, rfl, s3, p3, hR3, hRD, lrow, drow, hD3, hv3, lrows, hris, hlast⟩
      exact ⟨_, rfl, q H3 D vals rows (s1.trans s3) (p3.mono (by omega)) hD3 hv3 lrows hris⟩
end
end Dg
namespace Dg
open PySem PySem.Spec PyProof.Rows L2
local macro_rules | `(tactic| walk_at "rd1") => `(tactic| first | refine ⟨_, rfl, ?_⟩ | refine ⟨_, _, rfl, rfl, ?_⟩)
local macro_rules | `(tactic| walk_at "rd") => `(tactic| repeat walk_at "rd1")
section
variable {P : Program} {w : World} {K : PySem.W.Frag} {mg : Str → Option Value} {base : Heap}
abbrev s_refused : Stmt := topS 13
abbrev N_refused : List Str := ["values", "versions", "e"]
abbrev P_refused : List Str := ["values", "versions"]
theorem sc_refused : FnScope N_refused P_refused (defScope s_refused) := ⟨rfl, rfl, rfl, by decide +kernel, rfl, by decide +kernel, by decide +kernel⟩
def spRefused (K : PySem.W.Frag) : Sp := fun vs H Q _ => ∃ (a b : Addr) (vals : List V) (rows : List (List Int)) (k : List Int), vs = [.ref a, .ref b] ∧ Sq K H a vals ∧ Paired (ValAt K H) vals rows ∧ rows.length ≤ 1000 ∧ Sq K H b (k.map V.int) ∧ k.length ≤ 1000 ∧
  (∀ i, badAt rows = some i → ∀ H' t, Same H H' → H' t = some (.tup [.str "values", .int (i : Nat)]) → Q (.ref t) H') ∧ (badAt rows = none → ¬ versOk rows k ∧ ∀ H', Same H H' → Q (.str "versions") H')
theorem ok_refused {f cB cV cT : Addr} {fd : FuncData} (F : Fun K "_law_refused" "_law_refused" s_refused f fd) (B : Bi mg) (E_BadVersions : Ec K mg "BadVersions" cV) (X_BadVersions : Ei K mg cV cT) (O_BadValues : Ef P w K mg base "BadValues" "index" cB) (N_BV : PySem.W.exmOne K (.ref cB) (.ref cV) = some false)
    (C_reading : Cal P w K mg base (L2.CX P w) 4 "reading" P_reading (spReading K cB cV)) : FnOk P w K mg base CX0 5 f fd P_refused (spRefused K) := by
  refine F.ok sc_refused (fun vs H Q E h => ?_) (fun cdv A outer s H vs Q E hr h => ?_)
  · obtain ⟨a, b, vals, rows, k, rfl, _⟩ := h
    rfl
  · obtain ⟨a, b, vals, rows, k, rfl, ha, hv, h1000, hb, hk1000, qB, qV⟩ := h
    refine ⟨_, (pss_cons (ps_tryC rfl rfl sc_refused.nd takes0 (fun W pn xe tk po => 
          (pss_one (ps_expr (pe_calS C_reading (hr.mono (by decide)) (by rfl) (fun σ => passAt tk σ) (pa_cons (pv 0) (pa_cons (pv 1) pa_nil)))))) (.named (i := 2) rfl rfl ⟨rfl, by decide, .inl E_BadVersions.gC⟩ (fun a oe cls d pn hz hf => 
          (pss_one (ps_ret (pe_ifExp (PW.pt (pw_and (pt_val (pe_callB (call_isE2 X_BadVersions.ex hz hf) (by rfl) B.b_isinstance (by decide +kernel) (pa_cons (pv 2) (pa_cons (pe_glob (by rfl) X_BadVersions.g_TurnError (rel_ref _)) pa_nil)))) (pw_and1 (pt_val (pe_callB (call_isE2 X_BadVersions.ex hz hf) (by rfl) B.b_isinstance (by decide +kernel) (pa_cons (pv 2) (pa_cons (pe_bltn (by rfl) B.b_ValueError boot_VE (rel_ty _)) pa_nil))))))) pe_str pe_str)))) (.named (i := 2) rfl rfl ⟨rfl, by decide, .inl O_BadValues.gC⟩ (fun a oe cls d pn hz hf => 
          (pss_one (ps_ret (pe_tup (pa_cons pe_str (pa_cons (pe_xf O_BadValues.xf O_BadValues.no hz hf (pv 2)) pa_nil)))))) .nil)))
      (pss_one (ps_ret pe_non))), ?_⟩
    refine ⟨_, rfl, _, rfl, a, b, vals, rows, k, rfl, ha, hv, h1000, hb, hk1000, fun i hbad H1 d s1 hd => ?_, fun hbad hok => absurd hok (qV hbad).1, fun hbad _ H1 s1 => ?_⟩
    · refine ⟨false, N_BV, fun z => (by cases z), fun _ => ⟨true, O_BadValues.te, fun _ a0 n0 => ?_, fun z => (by cases z)⟩⟩
      refine ⟨_, rfl, rfl, rfl, d, _, _, rfl, hd, rfl, by show 2 ≤ sizeLine; decide, fun t nt => ?_⟩
      exact qB i hbad _ t (s1.trans (same_new nt)) upd_same
    · refine ⟨true, E_BadVersions.te, fun _ a0 n0 => ?_, fun z => (by cases z)⟩
      refine ⟨_, rfl, rfl, rfl, _, _, _, rfl, (fun u r => r), X_BadVersions.kT, _, rfl, iteT ?_⟩
      refine ⟨_, rfl, rfl, rfl, _, _, _, rfl, (fun u r => r), X_BadVersions.kV, _, rfl, iteT ?_⟩
      exact (qV hbad).2 _ s1
end
end Dg
namespace Dg
open PySem PySem.Spec PyProof.Rows L2
local macro_rules | `(tactic| walk_at "rd1") => `(tactic| first | refine ⟨_, rfl, ?_⟩ | refine ⟨_, _, rfl, rfl, ?_⟩)
local macro_rules | `(tactic| walk_at "rd") => `(tactic| repeat walk_at "rd1")
section
variable {P : Program} {w : World} {K : PySem.W.Frag} {mg : Str → Option Value} {base : Heap}
abbrev s_law : Stmt := topS 14
abbrev N_law : List Str := ["script", "pen", "turn", "cells", "most", "values", "versions", "kept", "due", "row", "at", "odd", "spoilt", "k"]
abbrev P_law : List Str := ["script"]
theorem sc_law : FnScope N_law P_law (defScope s_law) := ⟨rfl, rfl, rfl, by decide +kernel, rfl, by decide +kernel, by decide +kernel⟩
def spLaw (K : PySem.W.Frag) : Sp := fun vs H Q _ => ∃ (a : Addr) (ns : List Int), vs = [.ref a] ∧ SqL K H a (ns.map V.int) ∧ ns.length ≤ 63 ∧ ∀ H', Q (.bl true) H'
theorem pick5 {r : Nat} {x : V} (h : [V.int 1, .int 2, .int 3, .int 9, .int 59][r]? = some x) : ∃ n : Nat, x = .int n ∧ 1 ≤ n ∧ n ≤ 59 := by
  match r, h with
  | 0, h => exact ⟨1, (Option.some.inj h).symm, by decide, by decide⟩
  | 1, h => exact ⟨2, (Option.some.inj h).symm, by decide, by decide⟩
  | 2, h => exact ⟨3, (Option.some.inj h).symm, by decide, by decide⟩
  | 3, h => exact ⟨9, (Option.some.inj h).symm, by decide, by decide⟩
  | 4, h => exact ⟨59, (Option.some.inj h).symm, by decide, by decide⟩
  | _ + 5, h => cases h
theorem pick4 {r : Nat} {x : V} (h : [V.int 1, .int 2, .int 5, .int 60][r]? = some x) : ∃ n : Nat, x = .int n ∧ 1 ≤ n ∧ n ≤ 60 := by
  match r, h with
  | 0, h => exact ⟨1, (Option.some.inj h).symm, by decide, by decide⟩
  | 1, h => exact ⟨2, (Option.some.inj h).symm, by decide, by decide⟩
  | 2, h => exact ⟨5, (Option.some.inj h).symm, by decide, by decide⟩
  | 3, h => exact ⟨60, (Option.some.inj h).symm, by decide, by decide⟩
  | _ + 4, h => cases h
theorem pick3 {r : Nat} {x : V} (h : [V.int 2, .int 10, .int (10 ^ 20)][r]? = some x) : ∃ n : Int, x = .int n ∧ 2 ≤ n ∧ n ≤ 10 ^ 20 := by
  match r, h with
  | 0, h => exact ⟨2, (Option.some.inj h).symm, by decide, by decide⟩
  | 1, h => exact ⟨10, (Option.some.inj h).symm, by decide, by decide⟩
  | 2, h => exact ⟨10 ^ 20, (Option.some.inj h).symm, by decide, by decide⟩
  | _ + 3, h => cases h
theorem ris_len0 {n : Nat} {bs : Int} {rows : List (List Int)} (h : RisOk n bs rows) (ne : rows ≠ []) : (rows.getD 0 []).length = n := by
  have h0 : 0 < rows.length := List.length_pos_iff.mpr ne
  rw [List.getD_eq_getElem?_getD, List.getElem?_eq_getElem h0]
  exact (h.1 _ (List.getElem_mem h0)).1
theorem ris_get {n : Nat} {bs : Int} {rows : List (List Int)} (h : RisOk n bs rows) {j : Nat} (hj : j < rows.length) : (rows.getD j []).length = n := by
  rw [List.getD_eq_getElem?_getD, List.getElem?_eq_getElem hj]
  exact (h.1 _ (List.getElem_mem hj)).1
theorem ris_bad {n : Nat} {bs : Int} {rows : List (List Int)} (h : RisOk n bs rows) (h0 : 0 < rows.length) (hn : 0 < n) : badAt rows = none := by
  have ne : rows ≠ [] := List.length_pos_iff.mp h0
  refine bad_of ne (fun z => ?_) fun j hj => ?_
  · have := ris_len0 h ne
    rw [z] at this
    have : 0 = n := this
    omega
  · unfold badNext
    rw [h.2 j hj, decide_eq_false (fun z => z ((ris_get h hj).trans (ris_get h (by omega)).symm))]
    rfl
theorem ris_last {n : Nat} {bs : Int} {rows : List (List Int)} (h : RisOk n bs rows) (ne : rows ≠ []) : (rows.getD (rows.length - 1) []).length = n := ris_get h (by have := List.length_pos_iff.mpr ne; omega)
theorem ris_at {rows : List (List Int)} (ne : rows ≠ []) : rows[rows.length - 1]? = some (rows.getD (rows.length - 1) []) := by
  have h0 : rows.length - 1 < rows.length := by
    have := List.length_pos_iff.mpr ne
    omega
  rw [List.getD_eq_getElem?_getD, List.getElem?_eq_getElem h0]
  rfl
theorem bad_spoilt {n : Nat} {bs : Int} {rows : List (List Int)} (h : RisOk n bs rows) (ne : rows ≠ []) (hn : 0 < n) : badAt (rows ++ [rows.getD (rows.length - 1) [] ++ [0]]) = some rows.length := by
  have h0 : 0 < rows.length := List.length_pos_iff.mpr ne
  have hf : badFrom rows (rows.length - 1) = none := (bad_none (ris_bad h h0 hn)).2.2
  have hf2 : badFrom (rows ++ [rows.getD (rows.length - 1) [] ++ [0]]) (rows.length - 1) = none := by
    unfold badFrom at hf ⊢
    rw [List.findSome?_eq_none_iff] at hf ⊢
    intro j hj
    have hj' := List.mem_range.mp hj
    rw [getD_fst (by omega), getD_fst (by omega)]
    exact hf j hj
  unfold badAt
  rw [if_neg]
  · rw [List.length_append, show rows.length + [rows.getD (rows.length - 1) [] ++ [0]].length - 1 = (rows.length - 1) + 1 by show rows.length + 1 - 1 = _; omega]
    unfold badFrom at hf2 ⊢
    rw [range_some, hf2, show rows.length - 1 + 1 = rows.length by omega, getD_last, getD_fst (by omega)]
    have e : badNext (rows.getD (rows.length - 1) []) (rows.getD (rows.length - 1) [] ++ [0]) = true := by
      unfold badNext
      rw [decide_eq_true (by rw [List.length_append]; show _ + 1 ≠ _; omega)]
      rfl
    rw [if_pos e]
    rfl
  · rintro (z | z)
    · simp at z
    · rw [getD_fst h0] at z
      have := ris_len0 h ne
      rw [z] at this
      have : 0 = n := this
      omega
theorem ris_row {n : Nat} {bs : Int} {rows : List (List Int)} {ks : List Int} (h : RisOk n bs rows) (hk : ks.length ≤ 1000) (hb : bs ≤ 10 ^ 20) (hb2 : 2 ≤ bs) : (rowV rows ks).length ≤ 1000 ∧ ∀ d ∈ rowV rows ks, 0 ≤ d ∧ d < 10 ^ 20 := by
  unfold rowV
  refine ⟨by rw [List.length_map, List.length_range]; exact hk, fun d hd => ?_⟩
  obtain ⟨i, _, rfl⟩ := List.mem_map.mp hd
  have dig : ∀ r : List Int, (∀ d ∈ r, 0 ≤ d ∧ d < bs) → 0 ≤ r.getD i 0 ∧ r.getD i 0 < 10 ^ 20 := by
    intro r hr
    rw [List.getD_eq_getElem?_getD]
    cases e : r[i]? with
    | none => exact ⟨Int.le_refl _, by decide⟩
    | some d =>
      have := hr d (List.mem_of_getElem? e)
      exact ⟨this.1, by show d < 10 ^ 20; omega⟩
  refine dig _ ?_
  generalize (ks.getD i 0).toNat = v
  rw [List.getD_eq_getElem?_getD]
  cases e : rows[v]? with
  | none => exact fun d hd => (by cases hd)
  | some r => exact (h.1 r (List.mem_of_getElem? e)).2
theorem ok_law {f cB cV : Addr} {fd : FuncData} (F : Fun K "law" "law" s_law f fd) (B : Bi mg) (C_begun_pen : Cal P w K mg base CX0 1 "_law_begun_pen" P_begun_pen (spBegun K)) (C_draw : Cal P w K mg base CX0 1 "_law_draw" P_draw spDraw) (C_pick : Cal P w K mg base CX0 2 "_law_pick" P_pick spPick)
    (C_new_values : Cal P w K mg base CX0 3 "_law_new_values" P_new_values (spValues K)) (C_reading : Cal P w K mg base (L2.CX P w) 4 "reading" P_reading (spReading K cB cV)) (C_refused : Cal P w K mg base CX0 5 "_law_refused" P_refused (spRefused K)) :
    FnG P w K mg base CX0 6 f fd P_law (spLaw K) := by
  refine fnG_ok F sc_law (fun vs H Q E h => ?_) (fun cdv A outer s H vs Q E hg hr h => ?_)
  · obtain ⟨a, ns, rfl, _⟩ := h
    rfl
  · obtain ⟨a, ns, rfl, ha, h63, q⟩ := h
    refine ⟨_, (pss_cons (ps_set (i := 1) sc_law.nd rfl (.inr rfl) (pe_cal C_begun_pen (hr.mono (by decide)) (by rfl) pass0 (pa_cons (pv 0) pa_nil)))
      (pss_cons (ps_for PassesOwn.never rfl (pi_range1 (by rfl) B.b_range (pa_cons pe_int pa_nil)) (pg_name (i := 2) sc_law.nd rfl (.inl rfl)) 
          (pss_cons (ps_asg (pe_tup (pa_cons (pe_cal C_pick (hr.mono (by decide)) (by rfl) pass0 (pa_cons (pv 1) (pa_cons (pe_lst (pa_cons pe_int (pa_cons pe_int (pa_cons pe_int (pa_cons pe_int (pa_cons pe_int pa_nil)))))) pa_nil))) (pa_cons (pe_cal C_pick (hr.mono (by decide)) (by rfl) pass0 (pa_cons (pv 1) (pa_cons (pe_lst (pa_cons pe_int (pa_cons pe_int (pa_cons pe_int (pa_cons pe_int pa_nil))))) pa_nil))) pa_nil))) (pg_tup (by rfl) (pgs_cons (pg_name (i := 3) sc_law.nd rfl (.inl rfl)) (pgs_cons (pg_name (i := 4) sc_law.nd rfl (.inr rfl)) pgs_nil))))
          (pss_cons (ps_set (i := 5) sc_law.nd rfl (.inr rfl) (pe_cal C_new_values (hr.mono (by decide)) (by rfl) pass0 (pa_cons (pv 1) (pa_cons (pv 3) (pa_cons (pv 4) (pa_cons (pe_cal C_pick (hr.mono (by decide)) (by rfl) pass0 (pa_cons (pv 1) (pa_cons (pe_lst (pa_cons pe_int (pa_cons pe_int (pa_cons (pe_op op_pow pe_int pe_int) pa_nil)))) pa_nil))) pa_nil))))))
          (pss_cons (ps_set (i := 6) sc_law.nd rfl (.inr rfl) (pe_lc (own := [("k", 13)]) (g := gName 13) (by rfl) sc_law.nd (pi_range1 (by rfl) B.b_range (pa_cons (pv 3) pa_nil)) (blkOk_by (own := [("k", 13)]) (N := N_law) (sc := (defScope s_law)) (by decide +kernel)) (fun _ _ _ _ _ => (pg_name (i := 13) sc_law.nd rfl (.inl rfl))) (fun _ _ _ _ _ => pts_nil) (fun _ _ _ _ _ => (pe_cal C_draw (hr.mono (by decide)) (by rfl) pass0 (pa_cons (pv 1) (pa_cons (pv 4) pa_nil))))))
          (pss_cons (ps_set (i := 7) sc_law.nd rfl (.inl rfl) (pe_lst (pa_cons (pe_callTy call_list_of (by rfl) B.b_list (by decide +kernel) (pa_cons (pv 5) pa_nil)) (pa_cons (pe_callTy call_list_of (by rfl) B.b_list (by decide +kernel) (pa_cons (pv 6) pa_nil)) pa_nil))))
          (pss_cons (ps_set (i := 8) sc_law.nd rfl (.inl rfl) (pe_callTy call_tuple_of (by rfl) B.b_tuple (by decide +kernel) (pa_cons (pe_lc (own := [("k", 13)]) (g := gName 13) (by rfl) sc_law.nd (pi_range1 (by rfl) B.b_range (pa_cons (pv 3) pa_nil)) (blkOk_by (own := [("k", 13)]) (N := N_law) (sc := (defScope s_law)) (by decide +kernel)) (fun _ _ _ _ _ => (pg_name (i := 13) sc_law.nd rfl (.inl rfl))) (fun _ _ _ _ _ => pts_nil) (fun _ _ _ _ _ => (pe_ix (k_ix_tup (K := K) rfl) (pe_ix (k_ix_list (K := K) rfl) (pv 5) (pe_ix (k_ix_list (K := K) rfl) (pv 6) (pv 13) (fun _ _ => rfl)) (fun _ _ => rfl)) (pv 13) (fun _ _ => rfl)))) pa_nil)))
          (pss_cons (ps_if (PW.pt (pw_or (pt_cmpR op_ne (pe_callB (cr_repr hg hr.units) (by rfl) B.b_repr (by decide +kernel) (pa_cons (pe_cal C_reading (hr.mono (by decide)) (by rfl) passL (pa_cons (pv 5) (pa_cons (pv 6) pa_nil))) pa_nil)) (pe_callB (cr_repr hg hr.units) (by rfl) B.b_repr (by decide +kernel) (pa_cons (pv 8) pa_nil)) (nomark _)) (pw_or1 (pt_cmpR (op_neD hr.units) (pe_lst (pa_cons (pv 5) (pa_cons (pv 6) pa_nil))) (pv 7) (nomark _))))) 
              (pss_one (ps_ret pe_bl)) pss_nil)
          (pss_cons (ps_if (pt_cmpR (op_neD hr.units) (pe_cal C_reading (hr.mono (by decide)) (by rfl) passL (pa_cons (pe_lc (own := [("row", 9)]) (g := gName 9) (by rfl) sc_law.nd (pi_list (pv 5)) (blkOk_by (own := [("row", 9)]) (N := N_law) (sc := (defScope s_law)) (by decide +kernel)) (fun _ _ _ _ _ => (pg_name (i := 9) sc_law.nd rfl (.inl rfl))) (fun _ _ _ _ _ => pts_nil) (fun _ _ _ _ _ => (pe_callTy (k_call_list_of (K := K) rfl) (by rfl) B.b_list (by decide +kernel) (pa_cons (pv 9) pa_nil)))) (pa_cons (pe_callTy call_tuple_of (by rfl) B.b_tuple (by decide +kernel) (pa_cons (pv 6) pa_nil)) pa_nil))) (pv 8) (nomark _)) 
              (pss_one (ps_ret pe_bl)) pss_nil)
          (pss_cons (ps_set (i := 10) sc_law.nd rfl (.inl rfl) (pe_cal C_draw (hr.mono (by decide)) (by rfl) pass0 (pa_cons (pv 1) (pa_cons (pv 3) pa_nil))))
          (pss_cons (ps_for PassesOwn.never rfl (pi_tup (pe_tup (pa_cons (pe_un un_neg pe_int) (pa_cons (pv 4) (pa_cons (pe_un un_neg (pv 4)) pa_nil))))) (pg_name (i := 11) sc_law.nd rfl (.inl rfl)) 
              (pss_cons (ps_set (i := 9) sc_law.nd rfl (.inl rfl) (pe_op op_cat (pe_op op_cat (pe_slice sl_list (pv 6) po_none (po_some (pv 10))) (pe_lst (pa_cons (pv 11) pa_nil))) (pe_slice sl_list (pv 6) (po_some (pe_op op_add (pv 10) pe_int)) po_none)))
              (pss_one (ps_if (pt_cmpR op_ne (pe_cal C_refused (hr.mono (by decide)) (by rfl) pass0 (pa_cons (pv 5) (pa_cons (pv 9) pa_nil))) pe_str (nomark _)) 
                  (pss_one (ps_ret pe_bl)) pss_nil))))
          (pss_cons (ps_for PassesOwn.never rfl (pi_tup (pe_tup (pa_cons (pe_op op_cat (pv 6) (pe_lst (pa_cons pe_int pa_nil))) (pa_cons (pe_slice sl_list (pv 6) (po_some pe_int) po_none) (pa_cons (pe_lst pa_nil) pa_nil))))) (pg_name (i := 11) sc_law.nd rfl (.inl rfl)) 
              (pss_one (ps_if (pt_cmpR op_ne (pe_cal C_refused (hr.mono (by decide)) (by rfl) pass0 (pa_cons (pv 5) (pa_cons (pv 11) pa_nil))) pe_str (nomark _)) 
                  (pss_one (ps_ret pe_bl)) pss_nil)))
          (pss_cons (ps_if (PW.pt (pw_or (pt_cmpR (op_neD hr.units) (pe_cal C_refused (hr.mono (by decide)) (by rfl) pass0 (pa_cons (pe_lst pa_nil) (pa_cons (pv 6) pa_nil))) (pe_tup (pa_cons pe_str (pa_cons pe_int pa_nil))) (nomark _)) (pw_or1 (pt_cmpR (op_neD hr.units) (pe_cal C_refused (hr.mono (by decide)) (by rfl) pass0 (pa_cons (pe_lst (pa_cons (pe_tup pa_nil) pa_nil)) (pa_cons (pe_lst pa_nil) pa_nil))) (pe_tup (pa_cons pe_str (pa_cons pe_int pa_nil))) (nomark _))))) 
              (pss_one (ps_ret pe_bl)) pss_nil)
          (pss_cons (ps_set (i := 12) sc_law.nd rfl (.inl rfl) (pe_op op_cat (pv 5) (pe_lst (pa_cons (pe_op op_catA (pe_ix ix_list (pv 5) (pe_un un_neg pe_int) (fun _ _ => rfl)) (pe_tup (pa_cons pe_int pa_nil))) pa_nil))))
          (pss_one (ps_if (pt_cmpR (op_neD hr.units) (pe_cal C_refused (hr.mono (by decide)) (by rfl) pass0 (pa_cons (pv 12) (pa_cons (pe_slice sl_list (pv 6) (po_some pe_int) po_none) pa_nil))) (pe_tup (pa_cons pe_str (pa_cons (pv 4) pa_nil))) (nomark _)) 
              (pss_one (ps_ret pe_bl)) pss_nil)))))))))))))))
      (pss_one (ps_ret pe_bl)))), ?_⟩
    refine ⟨_, rfl, a, ns, rfl, ha, h63, fun H1 p s1 np c hp => ?_⟩
    refine ⟨6, rfl, by decide, by decide, for_range (lo := 0) (n := 6) (fun i σ H' => ∃ v2 v3 v4 v5 v6 v7 v8 v9 v10 v11 v12 v13, σ = [some (.ref a), some (.ref p), v2, v3, v4, v5, v6, v7, v8, v9, v10, v11, v12, v13] ∧ Pen H' p c (6000 * i))
      ⟨none, none, none, none, none, none, none, none, none, none, none, none, rfl, hp.mono (by omega)⟩ ?_ ?_⟩
    · rintro i σ H2 hi ⟨v2, v3, v4, v5, v6, v7, v8, v9, v10, v11, v12, v13, rfl, hp2⟩
      refine ⟨_, rfl, by show 5 ≤ sizeLine; decide, fun o1 no1 => ?_⟩
      have s3 := same_new (o := .lst [.int 1, .int 2, .int 3, .int 9, .int 59]) no1
      refine ⟨p, o1, c, 6000 * i, _, rfl, upd_same, hp2.same s3, by decide, by decide, by omega, fun r1 x1 H4 hx1 hp4 _ => ?_⟩
      obtain ⟨n, rfl, hn1, hn⟩ := pick5 hx1
      refine ⟨_, rfl, by show 4 ≤ sizeLine; decide, fun o2 no2 => ?_⟩
      have s5 := same_new (o := .lst [.int 1, .int 2, .int 5, .int 60]) no2
      refine ⟨p, o2, c, 6000 * i + 1, _, rfl, upd_same, hp4.same s5, by decide, by decide, by omega, fun r2 x2 H6 hx2 hp6 _ => ?_⟩
      obtain ⟨m, rfl, hm1, hm⟩ := pick4 hx2
      refine ⟨by show 2 ≤ sizeLine; decide, fun t nt => ?_⟩
      have st := same_new (o := .tup [.int n, .int m]) nt
      have hp7 := hp6.same st
      have ht : upd H6 t (.tup [.int n, .int m]) t = some (.tup [.int n, .int m]) := upd_same
      generalize upd H6 t (.tup [.int n, .int m]) = H7 at hp7 ht
      refine ⟨t, _, rfl, sqT ht, rfl, _, _, rfl, _, _, rfl, rfl, ?_⟩
      refine ⟨_, rfl, _, rfl, _, rfl, _, rfl, _, _, rfl, rfl, ⟨by decide, by decide, by decide⟩, by show 3 ≤ sizeLine; decide, fun o3 no3 => ?_⟩
      have s8 := same_new (o := .lst [.int 2, .int 10, .int (10 ^ 20)]) no3
      refine ⟨p, o3, c, 6000 * i + 2, _, rfl, upd_same, (hp7.same s8).mono (by omega), Nat.zero_lt_succ _, by show 3 ≤ 1000; decide, by omega, fun r3 x3 H9 hx3 hp9 _ => ?_⟩
      obtain ⟨bs, rfl, hb2, hb20⟩ := pick3 hx3
      refine ⟨p, c, 6000 * i + 2 + 1, n, m, bs, rfl, hp9, hn1, hn, hm, hb2, hb20, by omega, fun H10 D vals rows _ hp10 hD hv lr hris => ?_⟩
      have ge1 : rows ≠ [] := fun z => by
        rw [z] at lr
        have : 0 = m := lr
        omega
      have hbad : badAt rows = none := ris_bad hris (by omega) (by omega)
      have hlast := ris_last hris ge1
      have lv : vals.length = m := (pd_length hv).trans lr
      refine ⟨_, rfl, _, rfl, by omega, by omega, fun vA nV => lc_range (lo := 0) (n := n) (fun u H' => ∃ ks : List Int, SameB p H10 H' ∧ Pen H' p c (6000 * i + 5003 + u) ∧ H' vA = some (.lst (ks.map V.int)) ∧ ks.length = u ∧ ∀ x ∈ ks, 0 ≤ x ∧ x < (m : Int)) ⟨[], SameB.of (same_new nV), (hp10.same (same_new nV)).mono (by omega), upd_same, rfl, fun x hx => (by cases hx)⟩ ?_ ?_⟩
      · rintro u H11 hu ⟨ks, s11, p11, hV, lk, hks⟩
        obtain ⟨nVp, nVc⟩ := hp10.fresh nV
        refine ⟨rfl, _, rfl, _, rfl, p, c, m, 6000 * i + 5003 + u, rfl, p11, by omega, by omega, by omega, fun r H12 r0 r1 p12 s12 => ?_⟩
        refine ⟨_, s12.lst p11 hV, by rw [List.length_map]; exact small1000 (by omega), ks ++ [r], (s11.trans s12).upd nV, (p12.upd nVp nVc).mono (by omega), ?_, by rw [List.length_append, lk]; rfl, fun d hd => ?_⟩
        · rw [upd_same, List.map_append]
          rfl
        · rcases List.mem_append.mp hd with z | z
          · exact hks d z
          · have : d = r := by simpa using z
            omega
      rintro H11 ⟨ks, s11, p11, hV, lk, hks⟩
      have hD11 := s11.lst hp10 hD
      have hv11 : Paired (RowAt K H11) vals rows := pd_mono hv fun _ _ h => h.sb s11 hp10
      have hok : versOk rows ks := ⟨lk.trans (ris_len0 hris ge1).symm, fun x hx => by rw [lr]; exact hks x hx⟩
      refine ⟨_, rfl, D, _, rfl, .inl (sqL hD11), fun e1 ne1 => ?_⟩
      have t1 := same_new (o := .lst vals) ne1
      refine ⟨_, rfl, vA, _, rfl, .inl (sqL (t1 _ _ hV)), fun e2 ne2 => ?_⟩
      have t2 := same_new (o := .lst (ks.map V.int)) ne2
      refine ⟨by show 2 ≤ sizeLine; decide, fun e3 ne3 => ?_⟩
      have t3 := same_new (o := .lst [.ref e1, .ref e2]) ne3
      have t13 := t1.trans (t2.trans t3)
      have k3 : _ = some (HO.lst _) := upd_same (H := upd (upd H11 e1 (.lst vals)) e2 (.lst (ks.map V.int))) (a := e3) (o := .lst [.ref e1, .ref e2])
      have k1 : _ = some (HO.lst _) := t3 _ _ (t2 _ _ (upd_same (H := H11) (a := e1) (o := .lst vals)))
      have k2 : _ = some (HO.lst _) := t3 _ _ (upd_same (H := upd H11 e1 (.lst vals)) (a := e2) (o := .lst (ks.map V.int)))
      generalize upd (upd (upd H11 e1 (.lst vals)) e2 (.lst (ks.map V.int))) e3 (.lst [.ref e1, .ref e2]) = H12 at t13 k1 k2 k3
      have hD12 := t13 _ _ hD11
      have hV12 := t13 _ _ hV
      have hv12 := rows_same t13 hv11
      have p12 := p11.same t13
      have hin := versOk_in hok ge1
      refine ⟨_, rfl, _, rfl, by omega, by omega, fun L nL => lc_range (lo := 0) (n := n) (fun u H' => Same H12 H' ∧ H' L = some (.lst (((List.range u).map fun u => (rows.getD (ks.getD u 0).toNat []).getD u 0).map V.int))) ⟨same_new nL, upd_same⟩ ?_ ?_⟩
      · rintro u H13 hu ⟨s13, hL⟩
        have hlt : (ks.getD u 0).toNat < rows.length := by
          have := hin.get (j := u) (by omega)
          omega
        obtain ⟨y, hy, tr, etr, htr⟩ := pd_get' hv12 (List.getElem?_eq_getElem hlt)
        subst etr
        have eg : rows.getD (ks.getD u 0).toNat [] = rows[(ks.getD u 0).toNat] := by
          rw [List.getD_eq_getElem?_getD, List.getElem?_eq_getElem hlt]
          rfl
        have hlen : rows[(ks.getD u 0).toNat].length = n := (hris.1 _ (List.getElem_mem hlt)).1
        refine ⟨rfl, _, rfl, _, rfl, _, rfl, vA, _, _, _, rfl, rfl, sqL (s13 _ _ hV12), at_int (ns := ks) (j := u) (by omega) (by omega), D, _, _, _, rfl, rfl, sqL (s13 _ _ hD12), at_of (j := (ks.getD u 0).toNat) (by have := hin.get (j := u) (by omega); omega) hy, _, rfl, tr, _, _, _, rfl, rfl, same_t s13 htr, at_int (j := u) (by omega) (by omega), ?_⟩
        refine ⟨_, hL, by rw [List.length_map, List.length_map, List.length_range]; exact small1000 (by omega), fun c o e => ?_, ?_⟩
        · rw [upd_ne (ne_of_none e nL)]
          exact s13 _ _ e
        · rw [upd_same, List.range_succ, List.map_append, List.map_append, ← eg]
          rfl
      rintro H13 ⟨s13, hL⟩
      have hL' : H13 L = some (.lst ((rowV rows ks).map V.int)) := by
        unfold rowV
        rw [lk]
        exact hL
      refine ⟨L, _, rfl, .inl ⟨sqL hL', fun T nT => ?_⟩⟩
      have s14 := same_new (o := .tup ((rowV rows ks).map V.int)) nT
      have hT : upd H13 T (.tup ((rowV rows ks).map V.int)) T = some (.tup ((rowV rows ks).map V.int)) := upd_same
      generalize upd H13 T (.tup ((rowV rows ks).map V.int)) = H14 at s14 hT
      have s124 := s13.trans s14
      have hrow : (rowV rows ks).length ≤ 1000 ∧ ∀ d ∈ rowV rows ks, 0 ≤ d ∧ d < 10 ^ 20 := ris_row hris (by omega) hb20 hb2
      obtain ⟨w1, w2, w3, w4⟩ := showT hrow.1 hrow.2
      have hD14 := s124 _ _ hD12
      have hV14 := s124 _ _ hV12
      have hv14 := rows_same s124 hv12
      have p14 := p12.same s124
      have hva : ∀ {H' : Hp}, Same H14 H' → Paired (ValAt K H') vals rows := fun sx => pd_mono (rows_same sx hv14) fun _ _ ⟨a', ea', h'⟩ => ⟨a', ea', .inr h'⟩
      refine ⟨_, rfl, _, rfl, D, vA, vals, rows, ks, rfl, .inl (sqL hD14), hva (Same.refl _), by omega, .inl (sqL hV14), by omega, fun j z => absurd (hbad.symm.trans z) (fun z => by cases z), fun _ _ H15 pr1 s15 _ hpr1 => ?_, fun _ z => absurd hok z⟩
      refine ⟨pr1, tupD (rowV rows ks), rfl, dp_row ⟨pr1, rfl, sqT hpr1⟩, w1, w2, w3, w4, ?_⟩
      refine ⟨_, rfl, T, tupD (rowV rows ks), rfl, dp_row ⟨T, rfl, sqT (s15 _ _ hT)⟩, w1, w2, w3, w4, rfl, _, rfl, ?_⟩
      rw [decide_eq_true rfl]
      refine iteF ?_
      refine ⟨_, rfl, _, rfl, by show 2 ≤ sizeLine; decide, fun e4 ne4 => ?_⟩
      have s16 := same_new (o := .lst [.ref D, .ref vA]) ne4
      have s146 := s15.trans s16
      have s126 := s124.trans s146
      have okK : okD 3 (.list [lstD rows, .list (ks.map .int)]) := okD_list fun d hd => by
        rcases List.mem_cons.mp hd with z | z
        · rw [z]
          exact okD_list (okD_tups 0 rows)
        · rcases List.mem_cons.mp z with z | z
          · rw [z]
            exact okD_list (okD_ints 1 ks)
          · cases z
      have hvv := dp_rows (rows_same s126 hv12)
      refine ⟨_, rfl, .list [lstD rows, .list (ks.map .int)], .list [lstD rows, .list (ks.map .int)], .lst (sqL upd_same) (.cons (.lst (sqL (s126 _ _ hD12)) hvv) (.cons (.lst (sqL (s126 _ _ hV12)) (dp_ints ks)) .nil)), .lst (sqL (s126 _ _ k3)) (.cons (.lst (sqL (s126 _ _ k1)) hvv) (.cons (.lst (sqL (s126 _ _ k2)) (dp_ints ks)) .nil)), okD_shaped okK (by decide), okD_shaped okK (by decide), _, rfl, ?_⟩
      rw [SeqAt.eqv_refl _ okK.1]
      refine iteF ?_
      generalize upd H15 e4 (.lst [.ref D, .ref vA]) = H16 at s16 s146 s126
      have hD16 := s146 _ _ hD14
      have hV16 := s146 _ _ hV14
      have hv16 := rows_same s146 hv14
      have hT16 := s146 _ _ hT
      have p16 := p14.same s146
      refine ⟨_, rfl, D, rfl, ⟨_, sqL hD16⟩, fun L2 nL2 => lc_list (K := K) (a := D) (xs := vals) (fun u H' => ∃ vals2, Same H16 H' ∧ H' L2 = some (.lst vals2) ∧ Paired (ValAt K (hid L2 H')) vals2 (rows.take u)) ⟨[], same_new nL2, upd_same, .nil⟩ (fun u H' _ hP => ?_) ?_ ?_⟩
      · obtain ⟨_, z, _⟩ := hP
        exact sqL (z _ _ hD16)
      · rintro u x H17 hx ⟨vals2, s17, hL2, hv2⟩
        obtain ⟨r, hr', ar, ex, har⟩ := pd_get hv16 hx
        subst ex
        have lv2 : vals2.length ≤ 1000 := by
          rw [pd_length hv2, List.length_take]
          omega
        refine ⟨rfl, _, rfl, ar, _, rfl, .inr (same_t s17 har), fun l nl => ?_⟩
        have s18 := same_new (o := .lst (r.map V.int)) nl
        refine ⟨_, s18 _ _ hL2, small1000 lv2, vals2 ++ [.ref l], fun b o e => ?_, upd_same, ?_⟩
        · rw [upd_ne (ne_of_none e nL2)]
          exact (s17.trans s18) b o e
        · rw [hid_upd, List.take_add_one, hr']
          exact pd_app (vals_same (hid_mono s18) hv2) (.cons ⟨l, rfl, .inl (sqL (hid_at upd_same (Ne.symm (ne_of_none hL2 nl))))⟩ .nil)
      rintro H17 ⟨vals2, s17, hL2, hv2⟩
      rw [lv, ← lr, List.take_length] at hv2
      have hv2' := vals_same hid_same hv2
      refine ⟨_, rfl, vA, _, rfl, .inl ⟨sqL (s17 _ _ hV16), fun f1 nf1 => ?_⟩⟩
      have s18 := same_new (o := .tup (ks.map V.int)) nf1
      refine ⟨L2, f1, vals2, rows, ks, rfl, .inl (sqL (s18 _ _ hL2)), vals_same s18 hv2', by omega, .inr (sqT upd_same), by omega, fun j z => absurd (hbad.symm.trans z) (fun z => by cases z), fun _ _ H19 pr2 s19 _ hpr2 => ?_, fun _ z => absurd hok z⟩
      have s169 := s17.trans (s18.trans s19)
      refine ⟨_, rfl, tupD (rowV rows ks), tupD (rowV rows ks), dp_row ⟨pr2, rfl, sqT hpr2⟩, dp_row ⟨T, rfl, sqT (s169 _ _ hT16)⟩, okD_shaped (okD_tup 0 _) (by decide), okD_shaped (okD_tup 0 _) (by decide), _, rfl, ?_⟩
      rw [SeqAt.eqv_refl (tupD _) (okD_tup 0 _).1]
      refine iteF ?_
      have p19 := p16.same s169
      have hD19 := s169 _ _ hD16
      have hV19 := s169 _ _ hV16
      have hv19 := rows_same s169 hv16
      refine ⟨_, rfl, _, rfl, p, c, n, 6000 * i + 5003 + n, rfl, p19, by omega, by omega, by omega, fun at_ H20 at0 atn p20 s20 => ?_⟩
      have hD20 := s20.lst p19 hD19
      have hV20 := s20.lst p19 hV19
      have hv20 : Paired (RowAt K H20) vals rows := pd_mono hv19 fun _ _ h => h.sb s20 p19
      obtain ⟨u, rfl⟩ := Int.eq_ofNat_of_zero_le at0
      have hva : ∀ {H' : Hp}, Same H20 H' → Paired (ValAt K H') vals rows := fun sx => pd_mono (rows_same sx hv20) fun _ _ ⟨a', ea', h'⟩ => ⟨a', ea', .inr h'⟩
      refine ⟨_, rfl, _, rfl, _, rfl, _, rfl, by show 3 ≤ sizeLine; decide, fun f2 nf2 => ?_⟩
      have s21 := same_new (o := .tup [.int (-1), .int m, .int (-m)]) nf2
      have hf2 : upd H20 f2 (.tup [.int (-1), .int m, .int (-m)]) f2 = some (.tup [.int (-1), .int m, .int (-m)]) := upd_same
      refine ⟨f2, rfl, ⟨_, sqT upd_same⟩, for_tup (K := K) (a := f2) (xs := [.int (-1), .int m, .int (-m)]) (fun _ σ H' => ∃ w9 w11, σ = [some (.ref a), some (.ref p), some (.int (0 + (i : Int))), some (.int n), some (.int m), some (.ref D), some (.ref vA), some (.ref e3), some (.ref T), w9, some (.int (u : Int)), w11, v12, v13] ∧ Same (upd H20 f2 (.tup [.int (-1), .int m, .int (-m)])) H') ⟨_, _, rfl, Same.refl _⟩ (fun _ σ H' _ hP => ?_) ?_ ?_⟩
      · obtain ⟨_, _, _, z⟩ := hP
        exact same_t z (sqT hf2)
      · rintro j x σ H22 hx ⟨w9, w11, rfl, s22⟩
        have hxx : ∃ odd : Int, x = .int odd ∧ ¬ (0 ≤ odd ∧ odd < m) := by
          match j, hx with
          | 0, h => exact ⟨-1, (Option.some.inj h).symm, by omega⟩
          | 1, h => exact ⟨m, (Option.some.inj h).symm, by omega⟩
          | 2, h => exact ⟨-m, (Option.some.inj h).symm, by omega⟩
          | _ + 3, h => cases h
        obtain ⟨odd, rfl, hodd⟩ := hxx
        have s2022 := s21.trans s22
        have hV22 := s2022 _ _ hV20
        refine ⟨_, rfl, _, rfl, _, rfl, vA, _, rfl, sqL hV22, fun S1 n1 => ?_⟩
        have t1 := same_new (o := .lst (cutV (ks.map V.int) none (some (u : Int)))) n1
        refine ⟨_, rfl, by show 1 ≤ sizeLine; decide, fun S2 n2 => ?_⟩
        have t2 := same_new (o := .lst [.int odd]) n2
        have h1 : _ = some (HO.lst _) := t2 _ _ (upd_same (H := H22) (a := S1) (o := .lst (cutV (ks.map V.int) none (some (u : Int)))))
        refine ⟨S1, S2, _, _, rfl, rfl, h1, upd_same, ?_, fun S3 n3 => ?_⟩
        · rw [cut_to, List.length_take, List.length_map]
          exact Nat.le_of_lt (small1000 (by show min u ks.length + 1 ≤ 1000; omega))
        have t3 := same_new (o := .lst (cutV (ks.map V.int) none (some (u : Int)) ++ [.int odd])) n3
        have t13' := t1.trans (t2.trans t3)
        refine ⟨_, rfl, _, rfl, _, _, rfl, rfl, _, rfl, vA, _, rfl, sqL (t13' _ _ hV22), fun S4 n4 => ?_⟩
        have t4 := same_new (o := .lst (cutV (ks.map V.int) (some ((u : Int) + 1)) none)) n4
        refine ⟨S3, S4, _, _, rfl, rfl, t4 _ _ upd_same, upd_same, ?_, fun S5 n5 => ?_⟩
        · rw [cut_to, show ((u : Int) + 1) = ((u + 1 : Nat) : Int) by omega, cut_from, List.length_append, List.length_take, List.length_drop, List.length_map]
          exact Nat.le_of_lt (small1000 (by show min u ks.length + 1 + (ks.length - (u + 1)) ≤ 1000; omega))
        have t5 := same_new (o := .lst (cutV (ks.map V.int) none (some (u : Int)) ++ [.int odd] ++ cutV (ks.map V.int) (some ((u : Int) + 1)) none)) n5
        have t15 := t13'.trans (t4.trans t5)
        have hS5 : ∀ G : Hp, upd G S5 (.lst (cutV (ks.map V.int) none (some (u : Int)) ++ [.int odd] ++ cutV (ks.map V.int) (some ((u : Int) + 1)) none)) S5 = some (HO.lst ((ks.take u ++ [odd] ++ ks.drop (u + 1)).map V.int)) := by
          intro G
          rw [upd_same, cut_to, show ((u : Int) + 1) = ((u + 1 : Nat) : Int) by omega, cut_from, List.map_append, List.map_append, List.map_take, List.map_drop]
          rfl
        refine ⟨_, rfl, _, rfl, D, S5, vals, rows, ks.take u ++ [odd] ++ ks.drop (u + 1), rfl, .inl (sqL ((s2022.trans t15) _ _ hD20)), hva (s2022.trans t15), by omega, .inl (sqL (hS5 _)), ?_, fun j z => absurd (hbad.symm.trans z) (fun z => by cases z), fun _ => ⟨fun z => hodd ?_, fun H23 s23 => ?_⟩⟩
        · rw [List.length_append, List.length_append, List.length_take, List.length_drop]
          show min u ks.length + 1 + (ks.length - (u + 1)) ≤ 1000
          omega
        · have := z.2 odd (by simp)
          rw [lr] at this
          exact this
        · refine ⟨rfl, _, rfl, ?_⟩
          rw [decide_eq_true rfl]
          refine iteF ?_
          exact ⟨_, _, rfl, s22.trans (t15.trans s23)⟩
      rintro σ H22 ⟨w9, w11, rfl, s22⟩
      have s2022 := s21.trans s22
      have hD22 := s2022 _ _ hD20
      have hV22 := s2022 _ _ hV20
      have p22 := p20.same s2022
      refine ⟨_, rfl, by show 1 ≤ sizeLine; decide, fun z1 nz1 => ?_⟩
      have y1 := same_new (o := .lst [.int 0]) nz1
      refine ⟨vA, z1, _, _, rfl, rfl, y1 _ _ hV22, upd_same, Nat.le_of_lt (small1000 (by rw [List.length_map]; show ks.length + 1 ≤ 1000; omega)), fun A1 nA1 => ?_⟩
      have y2 := same_new (o := .lst (ks.map V.int ++ [.int 0])) nA1
      refine ⟨_, rfl, 1, rfl, vA, _, rfl, sqL ((y1.trans y2) _ _ hV22), fun A2 nA2 => ?_⟩
      have y3 := same_new (o := .lst (cutV (ks.map V.int) (some 1) none)) nA2
      refine ⟨Nat.zero_le _, fun A3 nA3 => ?_⟩
      have y4 := same_new (o := .lst []) nA3
      refine ⟨by show 3 ≤ sizeLine; decide, fun f3 nf3 => ?_⟩
      have y5 := same_new (o := .tup [.ref A1, .ref A2, .ref A3]) nf3
      have y15 := y1.trans (y2.trans (y3.trans (y4.trans y5)))
      have q1 : _ = some (HO.lst _) := y5 _ _ (y4 _ _ (y3 _ _ (upd_same (H := upd H22 z1 (.lst [.int 0])) (a := A1) (o := .lst (ks.map V.int ++ [.int 0])))))
      have q2 : _ = some (HO.lst _) := y5 _ _ (y4 _ _ (upd_same (H := upd (upd H22 z1 (.lst [.int 0])) A1 (.lst (ks.map V.int ++ [.int 0]))) (a := A2) (o := .lst (cutV (ks.map V.int) (some 1) none))))
      have q3 : _ = some (HO.lst _) := y5 _ _ (upd_same (H := upd (upd (upd H22 z1 (.lst [.int 0])) A1 (.lst (ks.map V.int ++ [.int 0]))) A2 (.lst (cutV (ks.map V.int) (some 1) none))) (a := A3) (o := .lst []))
      have q5 : _ = some (HO.tup _) := upd_same (H := upd (upd (upd (upd H22 z1 (.lst [.int 0])) A1 (.lst (ks.map V.int ++ [.int 0]))) A2 (.lst (cutV (ks.map V.int) (some 1) none))) A3 (.lst [])) (a := f3) (o := .tup [.ref A1, .ref A2, .ref A3])
      generalize upd (upd (upd (upd (upd H22 z1 (.lst [.int 0])) A1 (.lst (ks.map V.int ++ [.int 0]))) A2 (.lst (cutV (ks.map V.int) (some 1) none))) A3 (.lst [])) f3 (.tup [.ref A1, .ref A2, .ref A3]) = H23 at y15 q1 q2 q3 q5
      rw [show (1 : Int) = ((1 : Nat) : Int) from rfl, cut_from, ← List.map_drop] at q2
      have s2023 := s2022.trans y15
      refine ⟨f3, rfl, ⟨_, sqT q5⟩, for_tup (K := K) (a := f3) (xs := [.ref A1, .ref A2, .ref A3]) (fun _ σ H' => ∃ w11, σ = [some (.ref a), some (.ref p), some (.int (0 + (i : Int))), some (.int n), some (.int m), some (.ref D), some (.ref vA), some (.ref e3), some (.ref T), w9, some (.int (u : Int)), w11, v12, v13] ∧ Same H23 H') ⟨_, rfl, Same.refl _⟩ (fun _ σ H' _ hP => ?_) ?_ ?_⟩
      · obtain ⟨_, _, z⟩ := hP
        exact same_t z (sqT q5)
      · rintro j x σ H24 hx ⟨w11', rfl, s24⟩
        have hxx : ∃ (A0 : Addr) (k0 : List Int), x = .ref A0 ∧ H23 A0 = some (.lst (k0.map V.int)) ∧ k0.length ≠ n ∧ k0.length ≤ 1000 := by
          match j, hx with
          | 0, h => exact ⟨A1, ks ++ [0], (Option.some.inj h).symm, by rw [q1, List.map_append]; rfl, by rw [List.length_append]; show ks.length + 1 ≠ n; omega, by rw [List.length_append]; show ks.length + 1 ≤ 1000; omega⟩
          | 1, h => exact ⟨A2, ks.drop 1, (Option.some.inj h).symm, q2, by rw [List.length_drop]; omega, by rw [List.length_drop]; omega⟩
          | 2, h => exact ⟨A3, [], (Option.some.inj h).symm, q3, by show 0 ≠ n; omega, by show 0 ≤ 1000; omega⟩
          | _ + 3, h => cases h
        obtain ⟨A0, k0, rfl, hA0, hne, hk0⟩ := hxx
        have s2024 := s2023.trans s24
        refine ⟨_, rfl, _, rfl, D, A0, vals, rows, k0, rfl, .inl (sqL (s2024 _ _ hD20)), hva s2024, by omega, .inl (sqL (s24 _ _ hA0)), hk0, fun j z => absurd (hbad.symm.trans z) (fun z => by cases z), fun _ => ⟨fun z => hne ?_, fun H25 s25 => ?_⟩⟩
        · exact z.1.trans (ris_len0 hris ge1)
        · refine ⟨rfl, _, rfl, ?_⟩
          rw [decide_eq_true rfl]
          refine iteF ?_
          exact ⟨_, rfl, s24.trans s25⟩
      rintro σ H24 ⟨w11', rfl, s24⟩
      have s2024 := s2023.trans s24
      have hV24 := s2024 _ _ hV20
      have tup0 : ∀ {H' : Hp} {t0 : Addr} {z0 : Int}, H' t0 = some (.tup [.str "values", .int z0]) → Dp K H' (.ref t0) (.tuple [.str "values", .int z0]) := fun h => .tup (sqT h) (.cons (.str _) (.cons (.int _) .nil))
      have ok0 : ∀ z0 : Int, okD 1 (.tuple [.str "values", .int z0]) := fun z0 => okD_tuple fun d hd => by
        rcases List.mem_cons.mp hd with z | z
        · rw [z]
          exact okD_str (by decide +kernel)
        · rcases List.mem_cons.mp z with z | z
          · rw [z]
            exact okD_int 0 z0
          · cases z
      refine ⟨Nat.zero_le _, fun g1 ng1 => ?_⟩
      have s25 := same_new (o := .lst []) ng1
      refine ⟨_, rfl, g1, vA, [], [], ks, rfl, .inl (sqL upd_same), .nil, by decide, .inl (sqL (s25 _ _ hV24)), by omega, fun j z H26 g2 s26 hg2 => ?_, fun z => absurd ((show badAt [] = some 0 from rfl).symm.trans z) (fun z => by cases z)⟩
      cases (show badAt [] = some 0 from rfl).symm.trans z
      refine ⟨by show 2 ≤ sizeLine; decide, fun g3 ng3 => ?_⟩
      have s27 := same_new (o := .tup [.str "values", .int 0]) ng3
      refine ⟨.tuple [.str "values", .int 0], .tuple [.str "values", .int 0], tup0 (s27 _ _ hg2), tup0 upd_same, okD_shaped (ok0 0) (by decide), okD_shaped (ok0 0) (by decide), _, rfl, ?_⟩
      rw [SeqAt.eqv_refl _ (ok0 0).1]
      refine iteF ?_
      have s2427 := s25.trans (s26.trans s27)
      generalize upd H26 g3 (.tup [.str "values", .int 0]) = H27 at s2427
      refine ⟨Nat.zero_le _, fun g4 ng4 => ?_⟩
      have s28 := same_new (o := .tup []) ng4
      refine ⟨by show 1 ≤ sizeLine; decide, fun g5 ng5 => ?_⟩
      have s29 := same_new (o := .lst [.ref g4]) ng5
      refine ⟨Nat.zero_le _, fun g6 ng6 => ?_⟩
      have s30 := same_new (o := .lst []) ng6
      refine ⟨g5, g6, [.ref g4], [[]], [], rfl, .inl (sqL (s30 _ _ upd_same)), .cons ⟨g4, rfl, .inr (sqT (s30 _ _ (s29 _ _ upd_same)))⟩ .nil, by decide, .inl (sqL upd_same), by decide, fun j z H31 g7 s31 hg7 => ?_, fun z => absurd ((show badAt [[]] = some 0 from rfl).symm.trans z) (fun z => by cases z)⟩
      cases (show badAt [[]] = some 0 from rfl).symm.trans z
      refine ⟨by show 2 ≤ sizeLine; decide, fun g8 ng8 => ?_⟩
      have s32 := same_new (o := .tup [.str "values", .int 0]) ng8
      refine ⟨.tuple [.str "values", .int 0], .tuple [.str "values", .int 0], tup0 (s32 _ _ hg7), tup0 upd_same, okD_shaped (ok0 0) (by decide), okD_shaped (ok0 0) (by decide), _, rfl, ?_⟩
      rw [SeqAt.eqv_refl _ (ok0 0).1]
      refine iteF ?_
      have s2432 := s2427.trans (s28.trans (s29.trans (s30.trans (s31.trans s32))))
      generalize upd H31 g8 (.tup [.str "values", .int 0]) = H32 at s2432
      have s2032 := s2024.trans s2432
      have hD32 := s2032 _ _ hD20
      have hV32 := s2032 _ _ hV20
      have hv32 := rows_same s2032 hv20
      obtain ⟨lastv, hlv, al, eal, hal⟩ := pd_get' hv32 (show rows[rows.length - 1]? = some (rows.getD (rows.length - 1) []) from ris_at ge1)
      subst eal
      refine ⟨_, rfl, _, rfl, _, rfl, D, _, -1, _, rfl, rfl, sqL hD32, at_last' (by rw [lv, ← lr]; exact hlv), by show 1 ≤ sizeLine; decide, fun h1 nh1 => ?_⟩
      have s33 := same_new (o := .tup [.int 0]) nh1
      refine ⟨al, h1, _, _, rfl, rfl, same_t s33 hal, sqT upd_same, Nat.le_of_lt (small1000 (by rw [List.length_map, hlast]; show n + 1 ≤ 1000; omega)), fun z => ?_, fun _ z => (by cases z), fun _ _ h2 nh2 => ?_⟩
      · have z1 := List.map_eq_nil_iff.mp z
        rw [z1] at hlast
        have : 0 = n := hlast
        omega
      have s34 := same_new (o := .tup ((rows.getD (rows.length - 1) []).map V.int ++ [.int 0])) nh2
      refine ⟨by show 1 ≤ sizeLine; decide, fun h3 nh3 => ?_⟩
      have s35 := same_new (o := .lst [.ref h2]) nh3
      have s3235 := s33.trans (s34.trans s35)
      refine ⟨D, h3, _, _, rfl, rfl, s3235 _ _ hD32, upd_same, Nat.le_of_lt (small1000 (by rw [lv]; show m + 1 ≤ 1000; omega)), fun h4 nh4 => ?_⟩
      have s36 := same_new (o := .lst (vals ++ [.ref h2])) nh4
      have s3236 := s3235.trans s36
      have hh2 : _ = some (HO.tup _) := s36 _ _ (s35 _ _ (upd_same (a := h2) (o := .tup ((rows.getD (rows.length - 1) []).map V.int ++ [.int 0]))))
      refine ⟨_, rfl, _, rfl, 1, rfl, vA, _, rfl, sqL (s3236 _ _ hV32), fun h5 nh5 => ?_⟩
      have s37 := same_new (o := .lst (cutV (ks.map V.int) (some 1) none)) nh5
      have hh5 : ∀ G : Hp, upd G h5 (.lst (cutV (ks.map V.int) (some 1) none)) h5 = some (HO.lst ((ks.drop 1).map V.int)) := by
        intro G
        rw [upd_same, show (1 : Int) = ((1 : Nat) : Int) from rfl, cut_from, ← List.map_drop]
      have hsp : badAt (rows ++ [rows.getD (rows.length - 1) [] ++ [0]]) = some m := by
        rw [← lr]
        exact bad_spoilt hris ge1 (by omega)
      refine ⟨h4, h5, vals ++ [.ref h2], rows ++ [rows.getD (rows.length - 1) [] ++ [0]], ks.drop 1, rfl, .inl (sqL (s37 _ _ upd_same)), ?_, ?_, .inl (sqL (hh5 _)), by rw [List.length_drop]; omega, fun j z H38 h6 s38 hh6 => ?_, fun z => absurd (hsp.symm.trans z) (fun z => by cases z)⟩
      · refine pd_app (vals_same (s3236.trans s37) (hva s2032)) (.cons ⟨h2, rfl, .inr (sqT (s37 _ _ ?_))⟩ .nil)
        rw [hh2, List.map_append]
        rfl
      · rw [List.length_append]
        show rows.length + 1 ≤ 1000
        omega
      cases hsp.symm.trans z
      refine ⟨_, rfl, by show 2 ≤ sizeLine; decide, fun h7 nh7 => ?_⟩
      have s39 := same_new (o := .tup [.str "values", .int m]) nh7
      refine ⟨.tuple [.str "values", .int m], .tuple [.str "values", .int m], tup0 (s39 _ _ hh6), tup0 upd_same, okD_shaped (ok0 m) (by decide), okD_shaped (ok0 m) (by decide), _, rfl, ?_⟩
      rw [SeqAt.eqv_refl _ (ok0 m).1]
      refine iteF ?_
      exact ⟨_, _, _, _, _, _, _, _, _, _, _, _, rfl, (p20.same (s2032.trans (s3236.trans (s37.trans (s38.trans s39))))).mono (by omega)⟩
    · rintro σ H2 ⟨v2, v3, v4, v5, v6, v7, v8, v9, v10, v11, v12, v13, rfl, hp2⟩
      exact q H2
end
end Dg
namespace Dg
open PySem PySem.Spec PyProof.Rows L2
theorem all_mk {P : Program} {w : World} {K : PySem.W.Frag} {h : Heap} {mg : Str → Option Value} {fa : Addr} (X : K.In h) (G : h.Ns mainGlobals mg) (hfa : mg "law" = some (.ref fa))
    {od0 an0 : Option Addr} {sl0 : Array (Option Value)} {oc0 kV0 dc0 pm0 cd0 ct0 : Value} {f0 : Addr}
    {od1 an1 : Option Addr} {sl1 : Array (Option Value)} {oc1 kV1 dc1 pm1 cd1 ct1 : Value} {f1 : Addr}
    {od2 an2 : Option Addr} {sl2 : Array (Option Value)} {oc2 kV2 dc2 pm2 cd2 ct2 : Value} {f2 : Addr}
    {od3 an3 : Option Addr} {sl3 : Array (Option Value)} {oc3 kV3 dc3 pm3 cd3 ct3 : Value} {f3 : Addr}
    {od4 an4 : Option Addr} {sl4 : Array (Option Value)} {oc4 kV4 dc4 pm4 cd4 ct4 : Value} {f4 : Addr}
    {od5 an5 : Option Addr} {sl5 : Array (Option Value)} {oc5 kV5 dc5 pm5 cd5 ct5 : Value} {f5 : Addr}
    {od6 an6 : Option Addr} {sl6 : Array (Option Value)} {oc6 kV6 dc6 pm6 cd6 ct6 : Value} {f6 : Addr}
    {od7 an7 : Option Addr} {sl7 : Array (Option Value)} {oc7 kV7 dc7 pm7 cd7 ct7 : Value} {f7 : Addr}
    {cE_BadVersions : Addr}
    {cT : Addr}
    {cE_BadValues fI_BadValues N_BadValues : Addr} {nm_BadValues q_BadValues : Str} {bs_BadValues bm_BadValues sub_BadValues : List Value} {sn_BadValues : List Str} {ab_BadValues : Bool} {col_BadValues : Option Bool} {dd_BadValues odI_BadValues anI_BadValues : Option Addr} {m0_BadValues m1_BadValues m2_BadValues m3_BadValues m5_BadValues : Option Value} {slI_BadValues : Array (Option Value)} {ocI_BadValues kVI_BadValues dcI_BadValues pmI_BadValues cdI_BadValues ctI_BadValues : Value}
    (a0 : PySem.W.nsIn K mainGlobals "_law_draw" = some (some (.ref f0)))
    (l0 : K.lookup f0 = some ⟨oc0, od0, .func (PySem.W.fnOf "_law_draw" "_law_draw" (defArgs s_draw) (defBody s_draw) (defScope s_draw) .none kV0 dc0 pm0 an0 cd0 ct0), sl0⟩)
    (c0 : PySem.W.codeIn K cd0 "_law_draw" = true)
    (k0 : PySem.W.keepIn K (.ref f0) = true)
    (a1 : PySem.W.nsIn K mainGlobals "_law_begun_pen" = some (some (.ref f1)))
    (l1 : K.lookup f1 = some ⟨oc1, od1, .func (PySem.W.fnOf "_law_begun_pen" "_law_begun_pen" (defArgs s_begun_pen) (defBody s_begun_pen) (defScope s_begun_pen) .none kV1 dc1 pm1 an1 cd1 ct1), sl1⟩)
    (c1 : PySem.W.codeIn K cd1 "_law_begun_pen" = true)
    (k1 : PySem.W.keepIn K (.ref f1) = true)
    (a2 : PySem.W.nsIn K mainGlobals "checked_values" = some (some (.ref f2)))
    (l2 : K.lookup f2 = some ⟨oc2, od2, .func (PySem.W.fnOf "checked_values" "checked_values" (defArgs s_checked_values) (defBody s_checked_values) (defScope s_checked_values) .none kV2 dc2 pm2 an2 cd2 ct2), sl2⟩)
    (c2 : PySem.W.codeIn K cd2 "checked_values" = true)
    (k2 : PySem.W.keepIn K (.ref f2) = true)
    (a3 : PySem.W.nsIn K mainGlobals "reading" = some (some (.ref f3)))
    (l3 : K.lookup f3 = some ⟨oc3, od3, .func (PySem.W.fnOf "reading" "reading" (defArgs s_reading) (defBody s_reading) (defScope s_reading) .none kV3 dc3 pm3 an3 cd3 ct3), sl3⟩)
    (c3 : PySem.W.codeIn K cd3 "reading" = true)
    (k3 : PySem.W.keepIn K (.ref f3) = true)
    (a4 : PySem.W.nsIn K mainGlobals "_law_pick" = some (some (.ref f4)))
    (l4 : K.lookup f4 = some ⟨oc4, od4, .func (PySem.W.fnOf "_law_pick" "_law_pick" (defArgs s_pick) (defBody s_pick) (defScope s_pick) .none kV4 dc4 pm4 an4 cd4 ct4), sl4⟩)
    (c4 : PySem.W.codeIn K cd4 "_law_pick" = true)
    (k4 : PySem.W.keepIn K (.ref f4) = true)
    (a5 : PySem.W.nsIn K mainGlobals "_law_new_values" = some (some (.ref f5)))
    (l5 : K.lookup f5 = some ⟨oc5, od5, .func (PySem.W.fnOf "_law_new_values" "_law_new_values" (defArgs s_new_values) (defBody s_new_values) (defScope s_new_values) .none kV5 dc5 pm5 an5 cd5 ct5), sl5⟩)
    (c5 : PySem.W.codeIn K cd5 "_law_new_values" = true)
    (k5 : PySem.W.keepIn K (.ref f5) = true)
    (a6 : PySem.W.nsIn K mainGlobals "_law_refused" = some (some (.ref f6)))
    (l6 : K.lookup f6 = some ⟨oc6, od6, .func (PySem.W.fnOf "_law_refused" "_law_refused" (defArgs s_refused) (defBody s_refused) (defScope s_refused) .none kV6 dc6 pm6 an6 cd6 ct6), sl6⟩)
    (c6 : PySem.W.codeIn K cd6 "_law_refused" = true)
    (k6 : PySem.W.keepIn K (.ref f6) = true)
    (a7 : PySem.W.nsIn K mainGlobals "law" = some (some (.ref f7)))
    (l7 : K.lookup f7 = some ⟨oc7, od7, .func (PySem.W.fnOf "law" "law" (defArgs s_law) (defBody s_law) (defScope s_law) .none kV7 dc7 pm7 an7 cd7 ct7), sl7⟩)
    (c7 : PySem.W.codeIn K cd7 "law" = true)
    (k7 : PySem.W.keepIn K (.ref f7) = true)
    (aE_BadVersions : PySem.W.nsIn K mainGlobals "BadVersions" = some (some (.ref cE_BadVersions)))
    (xE_BadVersions : PySem.W.excIn K cE_BadVersions [.type "ValueError", .type "Exception", .type "BaseException", .type "object"] "ValueError.__new__" = true)
    (kE_BadVersions : PySem.W.keepIn K (.ref cE_BadVersions) = true)
    (bE_BadVersions : PySem.W.subIn K (.ref cE_BadVersions) (.type "BaseException") = some true)
    (tE_BadVersions : PySem.W.typeIn K (.ref cE_BadVersions) = some (.type "type"))
    (iE_BadVersions : PySem.W.isClsIn K cE_BadVersions = true)
    (sE_BadVersions : PySem.W.subIn K (.ref cE_BadVersions) (.ref cE_BadVersions) = some true)
    (aT : PySem.W.nsIn K mainGlobals "TurnError" = some (some (.ref cT)))
    (g1_BadVersions : PySem.W.findIn K (.ref cE_BadVersions) "__getattribute__" = some (some (.builtin "BaseException.__getattribute__")))
    (g2_BadVersions : PySem.W.findIn K (.ref cE_BadVersions) "__getattr__" = some none)
    (g3_BadVersions : PySem.W.hasDictIn K cE_BadVersions = true)
    (g4_BadVersions : PySem.W.findIn K (.ref cE_BadVersions) "__class__" = some (some (.builtin "object.__class__")))
    (g5_BadVersions : PySem.W.specialIn K (.builtin "object.__class__") "__get__" = some (some (.builtin "getset_descriptor.__get__")))
    (g6_BadVersions : PySem.W.takesIn K (.builtin "object.__class__") = some true)
    (g7_BadVersions : PySem.W.mroIn K cE_BadVersions (.type "object") = some true)
    (kT_BadVersions : PySem.W.kitOne K (.ref cE_BadVersions) (.ref cT) = some true)
    (kV_BadVersions : PySem.W.kitOne K (.ref cE_BadVersions) (.type "ValueError") = some true)
    (aE_BadValues : PySem.W.nsIn K mainGlobals "BadValues" = some (some (.ref cE_BadValues)))
    (xL_BadValues : K.lookup cE_BadValues = some (excClassObj nm_BadValues q_BadValues cE_BadValues N_BadValues bs_BadValues bm_BadValues true sn_BadValues sub_BadValues ab_BadValues col_BadValues dd_BadValues m0_BadValues m1_BadValues m2_BadValues m3_BadValues m5_BadValues "ValueError.__new__"))
    (rv_BadValues : PySem.HandSPX.refsVE bm_BadValues = true)
    (sa_BadValues : PySem.W.findIn K (.ref cE_BadValues) "__setattr__" = some (some (.builtin "object.__setattr__")))
    (bE_BadValues : PySem.W.subIn K (.ref cE_BadValues) (.type "BaseException") = some true)
    (tE_BadValues : PySem.W.typeIn K (.ref cE_BadValues) = some (.type "type"))
    (kE_BadValues : PySem.W.keepIn K (.ref cE_BadValues) = true)
    (no_BadValues : PySem.W.findIn K (.ref cE_BadValues) "index" = some none)
    (in_BadValues : PySem.W.findIn K (.ref cE_BadValues) "__init__" = some (some (.ref fI_BadValues)))
    (ti_BadValues : PySem.W.typeIn K (.ref fI_BadValues) = some (.type "function"))
    (lI_BadValues : K.lookup fI_BadValues = some ⟨ocI_BadValues, odI_BadValues, .func (PySem.W.fnOf "__init__" "BadValues.__init__" (defArgs s_BadValues___init) (defBody s_BadValues___init) (defScope s_BadValues___init) .none kVI_BadValues dcI_BadValues pmI_BadValues anI_BadValues cdI_BadValues ctI_BadValues), slI_BadValues⟩)
    (cI_BadValues : PySem.W.codeIn K cdI_BadValues "BadValues.__init__" = true)
    (kI_BadValues : PySem.W.keepIn K (.ref fI_BadValues) = true)
    (ga_BadValues : PySem.W.findIn K (.ref cE_BadValues) "__getattribute__" = some (some (.builtin "BaseException.__getattribute__")))
    (gg_BadValues : PySem.W.findIn K (.ref cE_BadValues) "__getattr__" = some none)
    (hd_BadValues : PySem.W.hasDictIn K cE_BadValues = true)
    (iE_BadValues : PySem.W.isClsIn K cE_BadValues = true)
    (sE_BadValues : PySem.W.subIn K (.ref cE_BadValues) (.ref cE_BadValues) = some true)
    (nb_BadValues_BadVersions : PySem.W.subIn K (.ref cE_BadValues) (.ref cE_BadVersions) = some false)
    (z_abs : PySem.W.nsIn K mainGlobals "abs" = some none)
    (z_all : PySem.W.nsIn K mainGlobals "all" = some none)
    (z_dict : PySem.W.nsIn K mainGlobals "dict" = some none)
    (z_enumerate : PySem.W.nsIn K mainGlobals "enumerate" = some none)
    (z_int : PySem.W.nsIn K mainGlobals "int" = some none)
    (z_isinstance : PySem.W.nsIn K mainGlobals "isinstance" = some none)
    (z_len : PySem.W.nsIn K mainGlobals "len" = some none)
    (z_list : PySem.W.nsIn K mainGlobals "list" = some none)
    (z_max : PySem.W.nsIn K mainGlobals "max" = some none)
    (z_min : PySem.W.nsIn K mainGlobals "min" = some none)
    (z_range : PySem.W.nsIn K mainGlobals "range" = some none)
    (z_repr : PySem.W.nsIn K mainGlobals "repr" = some none)
    (z_sorted : PySem.W.nsIn K mainGlobals "sorted" = some none)
    (z_str : PySem.W.nsIn K mainGlobals "str" = some none)
    (z_sum : PySem.W.nsIn K mainGlobals "sum" = some none)
    (z_tuple : PySem.W.nsIn K mainGlobals "tuple" = some none)
    (z_zip : PySem.W.nsIn K mainGlobals "zip" = some none)
    (z_ValueError : PySem.W.nsIn K mainGlobals "ValueError" = some none) :
    ∃ fd : FuncData, (∀ (s : Shared) (v : Value), BindsTo s fd ⟨[v], []⟩ [("script", v)]) ∧ ∀ base : Heap, K.In base → base.Ns mainGlobals mg → FnG P w K mg base CX0 6 fa fd ["script"] (spLaw K) := by
  have e := hfa.symm.trans (PySem.W.mg_of X G a7)
  cases e
  have F0 := fun_mk (st := s_draw) l0 c0 k0
  have b0 := F0.binds (ps := P_draw) fun _ _ _ _ _ _ us hl => match us, hl with | [_, _], _ => rfl
  have F1 := fun_mk (st := s_begun_pen) l1 c1 k1
  have b1 := F1.binds (ps := P_begun_pen) fun _ _ _ _ _ _ us hl => match us, hl with | [_], _ => rfl
  have F2 := fun_mk (st := s_checked_values) l2 c2 k2
  have b2 := F2.binds (ps := P_checked_values) fun _ _ _ _ _ _ us hl => match us, hl with | [_], _ => rfl
  have F3 := fun_mk (st := s_reading) l3 c3 k3
  have b3 := F3.binds (ps := P_reading) fun _ _ _ _ _ _ us hl => match us, hl with | [_, _], _ => rfl
  have F4 := fun_mk (st := s_pick) l4 c4 k4
  have b4 := F4.binds (ps := P_pick) fun _ _ _ _ _ _ us hl => match us, hl with | [_, _], _ => rfl
  have F5 := fun_mk (st := s_new_values) l5 c5 k5
  have b5 := F5.binds (ps := P_new_values) fun _ _ _ _ _ _ us hl => match us, hl with | [_, _, _, _], _ => rfl
  have F6 := fun_mk (st := s_refused) l6 c6 k6
  have b6 := F6.binds (ps := P_refused) fun _ _ _ _ _ _ us hl => match us, hl with | [_, _], _ => rfl
  have F7 := fun_mk (st := s_law) l7 c7 k7
  have E_BadVersions : Ec K mg "BadVersions" cE_BadVersions := ⟨PySem.W.mg_of X G aE_BadVersions, xE_BadVersions, kE_BadVersions, bE_BadVersions, tE_BadVersions, iE_BadVersions, sE_BadVersions⟩
  have FI_BadValues := fun_mk (st := s_BadValues___init) lI_BadValues cI_BadValues kI_BadValues
  have bI_BadValues := FI_BadValues.binds (ps := ["self", "index"]) fun _ _ _ _ _ _ us hl => match us, hl with | [_, _], _ => rfl
  have T_BadValues : OexC K cE_BadValues := ⟨⟨_, _, _, _, _, _, _, _, _, _, _, _, _, _, _, xL_BadValues, rv_BadValues⟩, sa_BadValues, bE_BadValues, tE_BadValues, kE_BadValues⟩
  have gC_BadValues : mg "BadValues" = some (.ref cE_BadValues) := PySem.W.mg_of X G aE_BadValues
  have N_BadValues_BadVersions : PySem.W.exmOne K (.ref cE_BadValues) (.ref cE_BadVersions) = some false := exm_other bE_BadVersions iE_BadVersions tE_BadVersions nb_BadValues_BadVersions
  have B : Bi mg := ⟨PySem.W.mg_none_of X G z_abs, PySem.W.mg_none_of X G z_all, PySem.W.mg_none_of X G z_dict, PySem.W.mg_none_of X G z_enumerate, PySem.W.mg_none_of X G z_int, PySem.W.mg_none_of X G z_isinstance, PySem.W.mg_none_of X G z_len, PySem.W.mg_none_of X G z_list, PySem.W.mg_none_of X G z_max, PySem.W.mg_none_of X G z_min, PySem.W.mg_none_of X G z_range, PySem.W.mg_none_of X G z_repr, PySem.W.mg_none_of X G z_sorted, PySem.W.mg_none_of X G z_str, PySem.W.mg_none_of X G z_sum, PySem.W.mg_none_of X G z_tuple, PySem.W.mg_none_of X G z_zip, PySem.W.mg_none_of X G z_ValueError⟩
  have X_BadVersions : Ei K mg cE_BadVersions cT := ⟨⟨g1_BadVersions, g2_BadVersions, bE_BadVersions, g3_BadVersions, g4_BadVersions, g5_BadVersions, g6_BadVersions, g7_BadVersions⟩, PySem.W.mg_of X G aT, kT_BadVersions, kV_BadVersions⟩
  refine ⟨PySem.W.fnOf "law" "law" (defArgs s_law) (defBody s_law) (defScope s_law) .none kV7 dc7 pm7 an7 cd7 ct7, fun s v => .of_eq rfl, fun base _ _ => ?_⟩
  have O_BadValues : Ef P w K mg base "BadValues" "index" cE_BadValues := ⟨T_BadValues, gC_BadValues, no_BadValues, ⟨fI_BadValues, _, in_BadValues, ti_BadValues, ok_init_BadValues FI_BadValues T_BadValues no_BadValues, bI_BadValues⟩, ⟨ga_BadValues, gg_BadValues, bE_BadValues, hd_BadValues⟩, iE_BadValues, sE_BadValues⟩
  have C_draw : Cal P w K mg base CX0 1 "_law_draw" P_draw spDraw := ⟨f0, _, ok_draw F0 B, PySem.W.mg_of X G a0, k0, b0⟩
  have C_begun_pen : Cal P w K mg base CX0 1 "_law_begun_pen" P_begun_pen (spBegun K) := ⟨f1, _, ok_begun F1 B, PySem.W.mg_of X G a1, k1, b1⟩
  have C_checked_values : Cal P w K mg base (L2.CX P w) 3 "checked_values" P_checked_values (spChecked K cE_BadValues) := ⟨f2, _, ok_checked F2 B O_BadValues, PySem.W.mg_of X G a2, k2, b2⟩
  have C_reading : Cal P w K mg base (L2.CX P w) 4 "reading" P_reading (spReading K cE_BadValues cE_BadVersions) := ⟨f3, _, ok_reading F3 B E_BadVersions C_checked_values, PySem.W.mg_of X G a3, k3, b3⟩
  have C_pick : Cal P w K mg base CX0 2 "_law_pick" P_pick spPick := ⟨f4, _, ok_pick F4 B C_draw, PySem.W.mg_of X G a4, k4, b4⟩
  have C_new_values : Cal P w K mg base CX0 3 "_law_new_values" P_new_values (spValues K) := ⟨f5, _, ok_values F5 B C_draw C_pick, PySem.W.mg_of X G a5, k5, b5⟩
  have C_refused : Cal P w K mg base CX0 5 "_law_refused" P_refused (spRefused K) := ⟨f6, _, ok_refused F6 B E_BadVersions X_BadVersions O_BadValues N_BadValues_BadVersions C_reading, PySem.W.mg_of X G a6, k6, b6⟩
  exact ok_law F7 B C_begun_pen C_draw C_pick C_new_values C_reading C_refused
end Dg
open PySem PySem.W PyProof.Rows
set_option maxRecDepth 100000 in
set_option maxHeartbeats 0 in
theorem PySem.Challenge.cw_digitsturn_k15_readings_of_versions_holds : PySem.Challenge.rw_digitsturn_k15_readings_of_versions.Holds := by
  w_on; o_law; k_head; (case hw => w_witness2)
  k_fill
  refine Dg.walk_ofG (l := PySem.Challenge.rw_digitsturn_k15_readings_of_versions) (n := 63) (k := 6) (x := "script") (sp := fun w => Dg.spLaw _) rfl (by decide) rfl ⟨rfl, by decide, by decide⟩ (fun w h Y => PySem.W.kIn_of Y) ?F (fun _ _ a ns hl _ hS => ⟨a, ns, rfl, hS, hl, fun _ => rfl⟩)
  case F =>
    intro w mg fa h KX G hmg
    refine' Dg.all_mk KX G hmg ?a0 ?l0 ?c0 ?k0 ?a1 ?l1 ?c1 ?k1 ?a2 ?l2 ?c2 ?k2 ?a3 ?l3 ?c3 ?k3 ?a4 ?l4 ?c4 ?k4 ?a5 ?l5 ?c5 ?k5 ?a6 ?l6 ?c6 ?k6 ?a7 ?l7 ?c7 ?k7 ?aE_BadVersions ?xE_BadVersions ?kE_BadVersions ?bE_BadVersions ?tE_BadVersions ?iE_BadVersions ?sE_BadVersions ?aT ?g1_BadVersions ?g2_BadVersions ?g3_BadVersions ?g4_BadVersions ?g5_BadVersions ?g6_BadVersions ?g7_BadVersions ?kT_BadVersions ?kV_BadVersions ?aE_BadValues ?xL_BadValues ?rv_BadValues ?sa_BadValues ?bE_BadValues ?tE_BadValues ?kE_BadValues ?no_BadValues ?in_BadValues ?ti_BadValues ?lI_BadValues ?cI_BadValues ?kI_BadValues ?ga_BadValues ?gg_BadValues ?hd_BadValues ?iE_BadValues ?sE_BadValues ?nb_BadValues_BadVersions ?z_abs ?z_all ?z_dict ?z_enumerate ?z_int ?z_isinstance ?z_len ?z_list ?z_max ?z_min ?z_range ?z_repr ?z_sorted ?z_str ?z_sum ?z_tuple ?z_zip ?z_ValueError
    (case a0 => k_is)
    (case l0 => k_is)
    (case c0 => k_is)
    (case k0 => k_is)
    (case a1 => k_is)
    (case l1 => k_is)
    (case c1 => k_is)
    (case k1 => k_is)
    (case a2 => k_is)
    (case l2 => k_is)
    (case c2 => k_is)
    (case k2 => k_is)
    (case a3 => k_is)
    (case l3 => k_is)
    (case c3 => k_is)
    (case k3 => k_is)
    (case a4 => k_is)
    (case l4 => k_is)
    (case c4 => k_is)
    (case k4 => k_is)
    (case a5 => k_is)
    (case l5 => k_is)
    (case c5 => k_is)
    (case k5 => k_is)
    (case a6 => k_is)
    (case l6 => k_is)
    (case c6 => k_is)
    (case k6 => k_is)
    (case a7 => k_is)
    (case l7 => k_is)
    (case c7 => k_is)
    (case k7 => k_is)
    (case aE_BadVersions => k_is)
    (case xE_BadVersions => first | k_exc | k_is)
    (case kE_BadVersions => k_is)
    (case bE_BadVersions => k_is)
    (case tE_BadVersions => k_is)
    (case iE_BadVersions => k_is)
    (case sE_BadVersions => first | rfl | k_is)
    (case aE_BadValues => k_is)
    (case xL_BadValues => k_is)
    (case rv_BadValues => rfl)
    (case sa_BadValues => k_is)
    (case bE_BadValues => k_is)
    (case tE_BadValues => k_is)
    (case kE_BadValues => k_is)
    (case no_BadValues => k_is)
    (case in_BadValues => k_is)
    (case ti_BadValues => k_is)
    (case lI_BadValues => k_is)
    (case cI_BadValues => k_is)
    (case kI_BadValues => k_is)
    (case ga_BadValues => k_is)
    (case gg_BadValues => k_is)
    (case hd_BadValues => k_is)
    (case iE_BadValues => k_is)
    (case sE_BadValues => first | rfl | k_is)
    (case z_abs => k_is)
    (case z_all => k_is)
    (case z_dict => k_is)
    (case z_enumerate => k_is)
    (case z_int => k_is)
    (case z_isinstance => k_is)
    (case z_len => k_is)
    (case z_list => k_is)
    (case z_max => k_is)
    (case z_min => k_is)
    (case z_range => k_is)
    (case z_repr => k_is)
    (case z_sorted => k_is)
    (case z_str => k_is)
    (case z_sum => k_is)
    (case z_tuple => k_is)
    (case z_zip => k_is)
    (case z_ValueError => k_is)
    (case aT => k_is)
    (case g1_BadVersions => k_is)
    (case g2_BadVersions => k_is)
    (case g3_BadVersions => k_is)
    (case g4_BadVersions => k_is)
    (case g5_BadVersions => k_is)
    (case g6_BadVersions => k_is)
    (case g7_BadVersions => k_is)
    (case kT_BadVersions => first | kit_is | k_is)
    (case kV_BadVersions => first | kit_is | k_is)
    (case nb_BadValues_BadVersions => first | rfl | k_is)

import PyProof.Rows.All
import Wide.All
import OpenK.AllK
import Wide.FinOn
import HandS.ForMost
import HandS.Wide
import HandS.TupAny
import HandS.TupMul
import HandS.Style
import HandS.Conv
import HandS.Codes
import HandS.Exc
import HandS.TryOnly
import HandS.ExcOwn
import HandS.WordsExc
import HandS.Deep
import HandS.ExcIs
import KE.GoesEnum
import KE.GoesEnumKw
import HandS.Walk
import HandS.SortKw
import HandS.ExcInit
import HandS.ExcField
import HandS.IsInst
import HandS.Zip
import PySem.Challenge.RW_digitsturn_k14_whole_shown
set_option Elab.async false
set_option linter.all false
set_option maxRecDepth 100000
namespace Dg
open PySem PySem.Spec PyProof.Rows L2

local macro_rules | `(tactic| walk_at "rd1") => `(tactic| first | refine ⟨_, rfl, ?_⟩ | refine ⟨_, _, rfl, rfl, ?_⟩)
local macro_rules | `(tactic| walk_at "rd") => `(tactic| repeat walk_at "rd1")
structure Cal (P : Program) (w : World) (K : PySem.W.Frag) (mg : Str → Option Value) (base : Heap) (CX : CXT) (k : Nat) (x : Str) (ps : List Str) (sp : Sp) : Prop where
  ex : ∃ (f : Addr) (fd : FuncData), FnOk P w K mg base CX k f fd ps sp ∧ mg x = some (.ref f) ∧ PySem.W.keepIn K (.ref f) = true ∧ Binds K fd ps []
section
variable {X : Cx} {CX : CXT} {k : Nat} {x : Str} {ps : List Str} {sp : Sp} {E : XK} {e : Expr} {es : List Expr} {t : TA} {p pos : Pos}
theorem pe_cal (C : Cal X.prog X.w X.K X.mg X.base CX k x ps sp) (hr : Room k X.A) (hg : Gl X x) (hx : Passes CX X E)
    (ha : PA X (e :: es) t) (hdb : (x == ("__debug__" : Str)) = false := by decide) (he : starEach (e :: es) X.env = (false, eval e X.env) :: starEach es X.env := by rfl) (hpl : (backTo pos (starEach es X.env)).any (·.1) = false := by rfl) :
    PE X (.Call (.Name x p) (e :: es) [] pos) (tCall sp [] E t) := by
  obtain ⟨f, fd, F, hm, hk, hb⟩ := C.ex
  exact pe_call F hr hg hm hk hb .nil hx ha hdb he hpl
theorem pe_cal0 (C : Cal X.prog X.w X.K X.mg X.base CX k x ps sp) (hr : Room k X.A) (hg : Gl X x) (hx : Passes CX X E) (hdb : (x == ("__debug__" : Str)) = false := by decide) :
    PE X (.Call (.Name x p) [] [] pos) (tCall sp [] E tNil) := by
  obtain ⟨f, fd, F, hm, hk, hb⟩ := C.ex
  exact pe_call0 F hr hg hm hk hb .nil hx hdb
end

structure Bi (mg : Str → Option Value) : Prop where
  b_abs : mg "abs" = none
  b_all : mg "all" = none
  b_dict : mg "dict" = none
  b_enumerate : mg "enumerate" = none
  b_int : mg "int" = none
  b_isinstance : mg "isinstance" = none
  b_len : mg "len" = none
  b_list : mg "list" = none
  b_max : mg "max" = none
  b_min : mg "min" = none
  b_range : mg "range" = none
  b_repr : mg "repr" = none
  b_sorted : mg "sorted" = none
  b_str : mg "str" = none
  b_sum : mg "sum" = none
  b_tuple : mg "tuple" = none
  b_zip : mg "zip" = none
  b_ValueError : mg "ValueError" = none

def SameB (p : Addr) (H H' : Hp) : Prop := ∀ b o, H b = some o → b ≠ p → H' b = some o
theorem SameB.refl (p : Addr) (H : Hp) : SameB p H H := fun _ _ h _ => h
theorem SameB.trans {p : Addr} {H H1 H2 : Hp} (a : SameB p H H1) (b : SameB p H1 H2) : SameB p H H2 := fun c o h n => b c o (a c o h n) n
theorem SameB.of {p : Addr} {H H' : Hp} (e : Same H H') : SameB p H H' := fun b o h _ => e b o h
theorem same_new {H : Hp} {p : Addr} {o : HO} (h : H p = none) : Same H (upd H p o) := fun b u e => by
  rw [upd_ne (ne_of_none e h)]
  exact e

theorem dp_ints {K : PySem.W.Frag} {H : Hp} : ∀ ns : List Int, DpAll K H (ns.map V.int) (ns.map .int)
  | [] => .nil
  | n :: r => .cons (.int n) (dp_ints r)
def okD (n : Nat) (d : PyData) : Prop := d.canLay0 = true ∧ d.depth ≤ n
theorem okD_shaped {n : Nat} {d : PyData} (h : okD n d) (hn : n ≤ 64) : SeqAt.shaped d = true := by
  unfold SeqAt.shaped
  rw [h.1, decide_eq_true (Nat.le_trans h.2 hn)]
  rfl
theorem okD_int (n : Nat) (i : Int) : okD n (.int i) := ⟨rfl, by simp [PyData.depth]⟩
theorem okD_none (n : Nat) : okD n .none := ⟨rfl, by simp [PyData.depth]⟩
theorem okD_str {n : Nat} {x : Str} (h : x.cps.all (· < 0x110000) = true) : okD n (.str x) := ⟨by
  simp only [PyData.canLay0, PyData.strOk]
  exact h, by simp [PyData.depth]⟩
theorem okD_all {n : Nat} : ∀ {ds : List PyData}, (∀ d ∈ ds, okD n d) → PyData.canLayAll0 ds = true ∧ PyData.depthAll ds ≤ n
  | [], _ => ⟨rfl, by simp [PyData.depthAll]⟩
  | d :: r, h => by
    obtain ⟨h1, h2⟩ := h d List.mem_cons_self
    obtain ⟨r1, r2⟩ := okD_all (ds := r) fun e he => h e (List.mem_cons_of_mem _ he)
    exact ⟨by simp only [PyData.canLayAll0, h1, r1]; rfl, by simp only [PyData.depthAll]; omega⟩
theorem okD_list {n : Nat} {ds : List PyData} (h : ∀ d ∈ ds, okD n d) : okD (n + 1) (.list ds) := by
  obtain ⟨h1, h2⟩ := okD_all h
  exact ⟨by simp only [PyData.canLay0]; exact h1, by simp only [PyData.depth]; omega⟩
theorem okD_tuple {n : Nat} {ds : List PyData} (h : ∀ d ∈ ds, okD n d) : okD (n + 1) (.tuple ds) := by
  obtain ⟨h1, h2⟩ := okD_all h
  exact ⟨by simp only [PyData.canLay0]; exact h1, by simp only [PyData.depth]; omega⟩
theorem okD_ints (n : Nat) (ns : List Int) : ∀ d ∈ ns.map PyData.int, okD n d := fun d hd => by
  obtain ⟨i, _, rfl⟩ := List.mem_map.mp hd
  exact okD_int n i
theorem shaped_ints (ns : List Int) : SeqAt.shaped (.list (ns.map .int)) = true := okD_shaped (okD_list (okD_ints 0 ns)) (by decide)
theorem shaped_tints (ns : List Int) : SeqAt.shaped (.tuple (ns.map .int)) = true := okD_shaped (okD_tuple (okD_ints 0 ns)) (by decide)
theorem eqv_nil {ds : List PyData} : PyData.eqv (.list ds) (.list []) = ds.isEmpty := by
  cases ds with
  | nil => simp only [PyData.eqv, PyData.eqvAll]; rfl
  | cons d r => simp only [PyData.eqv, PyData.eqvAll]; rfl
def penL (c : Addr) (t l : Int) : List (Key × V) := [(.inr "cells", .ref c), (.inr "turn", .int t), (.inr "left", .int l)]
theorem kct : ¬ (Sum.inr ("cells" : Str) : Key) = Sum.inr ("turn" : Str) := by decide +kernel
theorem kcl : ¬ (Sum.inr ("cells" : Str) : Key) = Sum.inr ("left" : Str) := by decide +kernel
theorem ktl : ¬ (Sum.inr ("turn" : Str) : Key) = Sum.inr ("left" : Str) := by decide +kernel
theorem klt : ¬ (Sum.inr ("left" : Str) : Key) = Sum.inr ("turn" : Str) := by decide +kernel
theorem sct : ¬ ("cells" : Str) = ("turn" : Str) := by decide +kernel
theorem scl : ¬ ("cells" : Str) = ("left" : Str) := by decide +kernel
theorem stl : ¬ ("turn" : Str) = ("left" : Str) := by decide +kernel
theorem slt : ¬ ("left" : Str) = ("turn" : Str) := by decide +kernel
theorem pen_cells (c : Addr) (t l : Int) : valV (penL c t l) (Sum.inr ("cells" : Str) : Key) = some (.ref c) := by
  unfold penL
  rw [valV_pos rfl]
theorem pen_turn (c : Addr) (t l : Int) : valV (penL c t l) (Sum.inr ("turn" : Str) : Key) = some (.int t) := by
  unfold penL
  rw [valV_neg kct, valV_pos rfl]
theorem pen_left (c : Addr) (t l : Int) : valV (penL c t l) (Sum.inr ("left" : Str) : Key) = some (.int l) := by
  unfold penL
  rw [valV_neg kcl, valV_neg ktl, valV_pos rfl]
theorem pen_put_turn (c : Addr) (t l u : Int) : putK (penL c t l) (Sum.inr ("turn" : Str) : Key) (.int u) = penL c u l := by
  unfold penL putK
  simp [sct, slt]
theorem pen_put_left (c : Addr) (t l u : Int) : putK (penL c t l) (Sum.inr ("left" : Str) : Key) (.int u) = penL c t u := by
  unfold penL putK
  simp [scl, stl]
structure PenAt (H : Hp) (p c : Addr) (ns : List Int) (t l : Int) (b : Int) : Prop where
  ob : H p = some (.dK (penL c t l))
  cs : H c = some (.lst (ns.map V.int))
  t0 : 0 ≤ t
  tb : t ≤ b
  l0 : 0 ≤ l
  n63 : ns.length ≤ 63
def Pen (H : Hp) (p c : Addr) (b : Int) : Prop := ∃ ns t l, PenAt H p c ns t l b
theorem PenAt.get_cells {H : Hp} {p c : Addr} {ns : List Int} {t l b : Int} (h : PenAt H p c ns t l b) : DGet H p (.str "cells") (some (.ref c)) := by
  have e := DGet.k (k := Sum.inr ("cells" : Str)) h.ob
  rw [pen_cells] at e
  exact e
theorem PenAt.get_turn {H : Hp} {p c : Addr} {ns : List Int} {t l b : Int} (h : PenAt H p c ns t l b) : DGet H p (.str "turn") (some (.int t)) := by
  have e := DGet.k (k := Sum.inr ("turn" : Str)) h.ob
  rw [pen_turn] at e
  exact e
theorem PenAt.get_left {H : Hp} {p c : Addr} {ns : List Int} {t l b : Int} (h : PenAt H p c ns t l b) : DGet H p (.str "left") (some (.int l)) := by
  have e := DGet.k (k := Sum.inr ("left" : Str)) h.ob
  rw [pen_left] at e
  exact e
theorem PenAt.put_turn {H : Hp} {p c : Addr} {ns : List Int} {t l b : Int} (h : PenAt H p c ns t l b) (u : Int) : DPut H p (.str "turn") (.int u) (upd H p (.dK (penL c u l))) := by
  have e := DPut.k (k := Sum.inr ("turn" : Str)) (v := .int u) h.ob (by show 3 < sizeLine; decide)
  rw [pen_put_turn] at e
  exact e
theorem PenAt.put_left {H : Hp} {p c : Addr} {ns : List Int} {t l b : Int} (h : PenAt H p c ns t l b) (u : Int) : DPut H p (.str "left") (.int u) (upd H p (.dK (penL c t u))) := by
  have e := DPut.k (k := Sum.inr ("left" : Str)) (v := .int u) h.ob (by show 3 < sizeLine; decide)
  rw [pen_put_left] at e
  exact e
theorem PenAt.ne {H : Hp} {p c : Addr} {ns : List Int} {t l b : Int} (h : PenAt H p c ns t l b) : c ≠ p := ne_of h.cs h.ob (by intro z; cases z)
theorem PenAt.upd {H : Hp} {p c : Addr} {ns : List Int} {t l b u v b' : Int} (h : PenAt H p c ns t l b) (hu : 0 ≤ u) (hb : u ≤ b') (hv : 0 ≤ v) : PenAt (upd H p (.dK (penL c u v))) p c ns u v b' :=
  ⟨upd_same, by rw [upd_ne h.ne]; exact h.cs, hu, hb, hv, h.n63⟩
theorem PenAt.same {H H' : Hp} {p c : Addr} {ns : List Int} {t l b : Int} (h : PenAt H p c ns t l b) (e : Same H H') : PenAt H' p c ns t l b :=
  ⟨e _ _ h.ob, e _ _ h.cs, h.t0, h.tb, h.l0, h.n63⟩
theorem Pen.same {H H' : Hp} {p c : Addr} {b : Int} (h : Pen H p c b) (e : Same H H') : Pen H' p c b := by
  obtain ⟨ns, t, l, h⟩ := h
  exact ⟨ns, t, l, h.same e⟩
theorem Pen.mono {H : Hp} {p c : Addr} {b b' : Int} (h : Pen H p c b) (e : b ≤ b') : Pen H p c b' := by
  obtain ⟨ns, t, l, h⟩ := h
  exact ⟨ns, t, l, h.ob, h.cs, h.t0, Int.le_trans h.tb e, h.l0, h.n63⟩
theorem sameB_upd {H : Hp} {p : Addr} {o : HO} : SameB p H (L2.upd H p o) := fun b u h n => by
  rw [upd_ne n]
  exact h
def spDraw : Sp := fun vs H Q _ => ∃ (p c : Addr) (n b : Int), vs = [.ref p, .int n] ∧ Pen H p c b ∧ 0 < n ∧ n < 2 ^ 300 ∧ b < 2 ^ 60 ∧
  ∀ (r : Int) (H' : Hp), 0 ≤ r → r < n → Pen H' p c (b + 1) → SameB p H H' → Q (.int r) H'
end Dg
namespace Dg
open PySem PySem.Spec PyProof.Rows L2
def Sq (K : PySem.W.Frag) (H : Hp) (a : Addr) (xs : List V) : Prop := SqL K H a xs ∨ SqT K H a xs
theorem sqL {K : PySem.W.Frag} {H : Hp} {a : Addr} {xs : List V} (h : H a = some (.lst xs)) : SqL K H a xs := .inl (.inl h)
theorem sqT {K : PySem.W.Frag} {H : Hp} {a : Addr} {xs : List V} (h : H a = some (.tup xs)) : SqT K H a xs := .inl (.inl h)
theorem same_t {K : PySem.W.Frag} {H H' : Hp} {a : Addr} {xs : List V} (e : Same H H') (h : SqT K H a xs) : SqT K H' a xs := by
  rcases h with (h | ⟨o, h⟩) | h
  · exact .inl (.inl (e _ _ h))
  · exact .inl (.inr ⟨o, e _ _ h⟩)
  · exact .inr h
theorem Sq.same {K : PySem.W.Frag} {H H' : Hp} {a : Addr} {xs : List V} (h : Sq K H a xs) (e : Same H H') : Sq K H' a xs := by
  rcases h with h | h
  · exact .inl (e.seq h)
  · exact .inr (same_t e h)
def rIxA (K : PySem.W.Frag) : R2 := fun x y H Q => ∃ p xs i v, x = .ref p ∧ y = .int i ∧ Sq K H p xs ∧ atI xs i = some v ∧ Q v H
theorem ix_any {X : Cx} : IxR X (rIxA X.K) := by
  intro value slice pins s σ H x y v u Q I rx ry q hs
  obtain ⟨p, xs, i, w, h1, h2, h3, h4, h5⟩ := q
  refine ix_seq value slice pins s σ H x y v u Q I rx ry ?_ hs
  rcases h3 with h3 | h3
  · exact .inl ⟨p, xs, i, w, h1, h2, h3, h4, h5⟩
  · exact .inr (.inl ⟨p, xs, i, w, h1, h2, h3, h4, h5⟩)
theorem at_int {ns : List Int} {i : Int} {j : Nat} (e : i = (j : Int)) (h : j < ns.length) : atI (ns.map V.int) i = some (.int (ns.getD j 0)) := by
  refine at_of e ?_
  rw [List.getElem?_map, List.getElem?_eq_getElem h, List.getD_eq_getElem?_getD, List.getElem?_eq_getElem h]
  rfl
theorem pmk_own0 {X : Cx} {C : Addr} {bmB : List Value} {B newId initId : String} {x : Str} {p pos : Pos} (F : ExcBaseFacts B newId initId bmB) (q : PySem.W.excIn X.K C bmB newId = true) (gC : X.mg x = some (.ref C))
    (kC : PySem.W.keepIn X.K (.ref C) = true) (r : Raises X (.ref C)) (hg : Gl X x) (hdb : (x == ("__debug__" : Str)) = false := by decide) :
    PMk X (.Call (.Name x p) [] [] pos) (fun _ H Q => Q (.ref C) none H) := by
  intro pins s σ H Q I h
  refine wpAny_Call_Name_kw (ld_glob I hg gC ?_ hdb)
  refine PySem.W.callWith_K0 I.kIn kC ?_
  show wpAny _ _ (call (.ref C) []) _ _ _
  obtain ⟨bm, N, nm, qn, bs, hdct, sn, sub, ab, col, dd, k0, k1, k2, k3, k5, mN, hC, hN, hni, T⟩ := exc_obj I.kIn q
  refine wpAny_call_exc_subT F T hC hN hni (fun h' e hm => ?_) (by decide)
  exact mk_of I hm r h (I.hok.gone hm.new)
structure Ec (K : PySem.W.Frag) (mg : Str → Option Value) (x : Str) (C : Addr) : Prop where
  gC : mg x = some (.ref C)
  xC : PySem.W.excIn K C [.type "ValueError", .type "Exception", .type "BaseException", .type "object"] "ValueError.__new__" = true
  kC : PySem.W.keepIn K (.ref C) = true
  bC : PySem.W.subIn K (.ref C) (.type "BaseException") = some true
  tC : PySem.W.typeIn K (.ref C) = some (.type "type")
  iC : PySem.W.isClsIn K C = true
  sC : PySem.W.subIn K (.ref C) (.ref C) = some true
theorem exm_self {K : PySem.W.Frag} {S : Addr} (h1 : PySem.W.subIn K (.ref S) (.type "BaseException") = some true) (h2 : PySem.W.isClsIn K S = true) (h3 : PySem.W.typeIn K (.ref S) = some (.type "type")) (h4 : PySem.W.subIn K (.ref S) (.ref S) = some true) :
    PySem.W.exmOne K (.ref S) (.ref S) = some true := by
  have e1 : (PySem.W.subIn K (.ref S) (.type "BaseException") == some true) = true := by rw [h1] <;> rfl
  have e2 : ((PySem.W.clsIn K S).isSome && PySem.W.typeIn K (.ref S) == some (.type "type")) = true := by
    have h2' : (PySem.W.clsIn K S).isSome = true := h2
    rw [h2', h3] <;> rfl
  show (if (PySem.W.subIn K (.ref S) (.type "BaseException") == some true) = true then (if ((PySem.W.clsIn K S).isSome && PySem.W.typeIn K (.ref S) == some (.type "type")) = true then PySem.W.subIn K (.ref S) (.ref S) else none) else none) = some true
  rw [if_pos e1, if_pos e2]
  exact h4
theorem Ec.te {K : PySem.W.Frag} {mg : Str → Option Value} {x : Str} {C : Addr} (c : Ec K mg x C) : PySem.W.exmOne K (.ref C) (.ref C) = some true := exm_self c.bC c.iC c.tC c.sC
end Dg
namespace Dg
open PySem PySem.Spec PyProof.Rows L2
section
variable {X : Cx} {CX : CXT} {k : Nat} {x : Str} {ps : List Str} {sp : Sp} {E : L2.St → XK} {e : Expr} {es : List Expr} {t : TA} {p pos : Pos}
theorem pe_calS (C : Cal X.prog X.w X.K X.mg X.base CX k x ps sp) (hr : Room k X.A) (hg : Gl X x) (hx : ∀ σ, PassesAt CX X σ (E σ))
    (ha : PA X (e :: es) t) (hdb : (x == ("__debug__" : Str)) = false := by decide) (he : starEach (e :: es) X.env = (false, eval e X.env) :: starEach es X.env := by rfl) (hpl : (backTo pos (starEach es X.env)).any (·.1) = false := by rfl) :
    PE X (.Call (.Name x p) (e :: es) [] pos) (tCallS sp E t) := by
  obtain ⟨f, fd, F, hm, hk, hb⟩ := C.ex
  exact pe_callS F hr hg hm hk hb hx ha hdb he hpl
end
theorem iteB {c : Bool} {A B : Prop} (h1 : c = true → A) (h2 : c = false → B) : if c = true then A else B := by
  cases c with
  | true => rw [if_pos rfl]; exact h1 rfl
  | false => rw [if_neg Bool.false_ne_true]; exact h2 rfl
end Dg
namespace Dg
open PySem PySem.Spec PyProof.Rows L2
theorem pd_length {α β : Type} {F : α → β → Prop} : ∀ {xs : List α} {ys : List β}, Paired F xs ys → xs.length = ys.length
  | _, _, .nil => rfl
  | _, _, .cons _ t => congrArg (· + 1) (pd_length t)
theorem pd_mono {α β : Type} {F G : α → β → Prop} : ∀ {xs : List α} {ys : List β}, Paired F xs ys → (∀ a b, F a b → G a b) → Paired G xs ys
  | _, _, .nil, _ => .nil
  | _, _, .cons r t, f => .cons (f _ _ r) (pd_mono t f)
theorem pd_app {α β : Type} {F : α → β → Prop} : ∀ {xs xs' : List α} {ys ys' : List β}, Paired F xs ys → Paired F xs' ys' → Paired F (xs ++ xs') (ys ++ ys')
  | _, _, _, _, .nil, h => h
  | _, _, _, _, .cons r t, h => .cons r (pd_app t h)
theorem pd_get {α β : Type} {F : α → β → Prop} : ∀ {xs : List α} {ys : List β} {i : Nat} {x : α}, Paired F xs ys → xs[i]? = some x → ∃ y, ys[i]? = some y ∧ F x y
  | _, _, _, _, .nil, e => by simp at e
  | _, _, 0, _, .cons r _, e => by
    simp at e
    subst e
    exact ⟨_, rfl, r⟩
  | _, _, i + 1, x, .cons _ t, e => by
    obtain ⟨y, h1, h2⟩ := pd_get (i := i) (x := x) t (by simpa using e)
    exact ⟨y, by simpa using h1, h2⟩
theorem pd_get' {α β : Type} {F : α → β → Prop} : ∀ {xs : List α} {ys : List β} {i : Nat} {y : β}, Paired F xs ys → ys[i]? = some y → ∃ x, xs[i]? = some x ∧ F x y
  | _, _, _, _, .nil, e => by simp at e
  | _, _, 0, _, .cons r _, e => by
    simp at e
    subst e
    exact ⟨_, rfl, r⟩
  | _, _, i + 1, y, .cons _ t, e => by
    obtain ⟨x, h1, h2⟩ := pd_get' (i := i) (y := y) t (by simpa using e)
    exact ⟨x, by simpa using h1, h2⟩
theorem pd_drop {α β : Type} {F : α → β → Prop} : ∀ {xs : List α} {ys : List β} (n : Nat), Paired F xs ys → Paired F (xs.drop n) (ys.drop n)
  | _, _, 0, r => r
  | _, _, _ + 1, .nil => .nil
  | _, _, n + 1, .cons _ t => pd_drop n t
theorem pd_take {α β : Type} {F : α → β → Prop} : ∀ {xs : List α} {ys : List β} (n : Nat), Paired F xs ys → Paired F (xs.take n) (ys.take n)
  | _, _, 0, _ => .nil
  | _, _, _ + 1, .nil => .nil
  | _, _, n + 1, .cons r t => .cons r (pd_take n t)
def RowAt (K : PySem.W.Frag) (H : Hp) (v : V) (r : List Int) : Prop := ∃ a, v = .ref a ∧ SqT K H a (r.map V.int)
def LAt (K : PySem.W.Frag) (H : Hp) (v : V) (rs : List (List Int)) : Prop := ∃ a vals, v = .ref a ∧ H a = some (.lst vals) ∧ Paired (RowAt K H) vals rs
theorem RowAt.same {K : PySem.W.Frag} {H H' : Hp} (e : Same H H') {v : V} {r : List Int} (h : RowAt K H v r) : RowAt K H' v r := by
  obtain ⟨a, h1, h2⟩ := h
  exact ⟨a, h1, same_t e h2⟩
theorem LAt.same {K : PySem.W.Frag} {H H' : Hp} (e : Same H H') {v : V} {r : List (List Int)} (h : LAt K H v r) : LAt K H' v r := by
  obtain ⟨a, vals, h1, h2, h3⟩ := h
  exact ⟨a, vals, h1, e _ _ h2, pd_mono h3 fun _ _ => RowAt.same e⟩
theorem rows_same {K : PySem.W.Frag} {H H' : Hp} (e : Same H H') {vs : List V} {rs : List (List Int)} (h : Paired (RowAt K H) vs rs) : Paired (RowAt K H') vs rs := pd_mono h fun _ _ => RowAt.same e
theorem lats_same {K : PySem.W.Frag} {H H' : Hp} (e : Same H H') {vs : List V} {rs : List (List (List Int))} (h : Paired (LAt K H) vs rs) : Paired (LAt K H') vs rs := pd_mono h fun _ _ => LAt.same e
def hid (D : Addr) (H : Hp) : Hp := fun b => if b = D then none else H b
theorem hid_same {D : Addr} {H : Hp} : Same (hid D H) H := fun b o h => by
  unfold hid at h
  split at h
  · cases h
  · exact h
theorem hid_at {D b : Addr} {H : Hp} {o : HO} (h : H b = some o) (n : b ≠ D) : hid D H b = some o := by
  unfold hid
  rw [if_neg n]
  exact h
theorem hid_upd {D : Addr} {H : Hp} {o : HO} : hid D (upd H D o) = hid D H := by
  funext b
  unfold hid
  by_cases e : b = D
  · rw [if_pos e, if_pos e]
  · rw [if_neg e, if_neg e, upd_ne e]
theorem hid_mono {D : Addr} {H H' : Hp} (e : Same H H') : Same (hid D H) (hid D H') := fun b o h => by
  unfold hid at h
  split at h
  · cases h
  · rename_i n
    exact hid_at (e b o h) n
theorem hid_none {D : Addr} {H : Hp} (n : H D = none) : Same H (hid D H) := fun b o h => hid_at h (ne_of_none h n)
theorem sb_rd {p a : Addr} {H H' : Hp} {o u : HO} (e : SameB p H H') (hp : H p = some o) (d : ∀ o', o ≠ .frz o' u) (du : o ≠ u) (h : Rd H a u) : Rd H' a u := by
  rcases h with h | ⟨o', h⟩
  · exact .inl (e a _ h fun z => by
      subst z
      rw [hp] at h
      exact du (Option.some.inj h))
  · exact .inr ⟨o', e a _ h fun z => by
      subst z
      rw [hp] at h
      exact d o' (Option.some.inj h)⟩
theorem sb_l {K : PySem.W.Frag} {p a : Addr} {H H' : Hp} {kvs : List (Key × V)} {xs : List V} (e : SameB p H H') (hp : H p = some (.dK kvs)) (h : SqL K H a xs) : SqL K H' a xs := by
  rcases h with h | h
  · exact .inl (sb_rd e hp (fun _ z => by cases z) (fun z => by cases z) h)
  · exact .inr h
theorem sb_t {K : PySem.W.Frag} {p a : Addr} {H H' : Hp} {kvs : List (Key × V)} {xs : List V} (e : SameB p H H') (hp : H p = some (.dK kvs)) (h : SqT K H a xs) : SqT K H' a xs := by
  rcases h with h | h
  · exact .inl (sb_rd e hp (fun _ z => by cases z) (fun z => by cases z) h)
  · exact .inr h
theorem sb_sq {K : PySem.W.Frag} {p a : Addr} {H H' : Hp} {kvs : List (Key × V)} {xs : List V} (e : SameB p H H') (hp : H p = some (.dK kvs)) (h : Sq K H a xs) : Sq K H' a xs := by
  rcases h with h | h
  · exact .inl (sb_l e hp h)
  · exact .inr (sb_t e hp h)
theorem Pen.dk {H : Hp} {p c : Addr} {b : Int} (h : Pen H p c b) : ∃ kvs, H p = some (.dK kvs) := by
  obtain ⟨ns, t, l, h⟩ := h
  exact ⟨_, h.ob⟩
theorem SameB.l {K : PySem.W.Frag} {p a : Addr} {H H' : Hp} {b : Int} {c : Addr} {xs : List V} (e : SameB p H H') (hp : Pen H p c b) (h : SqL K H a xs) : SqL K H' a xs := by
  obtain ⟨_, q⟩ := hp.dk
  exact sb_l e q h
theorem SameB.t {K : PySem.W.Frag} {p a : Addr} {H H' : Hp} {b : Int} {c : Addr} {xs : List V} (e : SameB p H H') (hp : Pen H p c b) (h : SqT K H a xs) : SqT K H' a xs := by
  obtain ⟨_, q⟩ := hp.dk
  exact sb_t e q h
theorem SameB.lst {p a : Addr} {H H' : Hp} {b : Int} {c : Addr} {xs : List V} (e : SameB p H H') (hp : Pen H p c b) (h : H a = some (.lst xs)) : H' a = some (.lst xs) := by
  obtain ⟨_, q⟩ := hp.dk
  exact e _ _ h (ne_of h q (by intro z; cases z))
theorem SameB.tup {p a : Addr} {H H' : Hp} {b : Int} {c : Addr} {xs : List V} (e : SameB p H H') (hp : Pen H p c b) (h : H a = some (.tup xs)) : H' a = some (.tup xs) := by
  obtain ⟨_, q⟩ := hp.dk
  exact e _ _ h (ne_of h q (by intro z; cases z))
theorem RowAt.sb {K : PySem.W.Frag} {H H' : Hp} {p c : Addr} {b : Int} (e : SameB p H H') (hp : Pen H p c b) {v : V} {r : List Int} (h : RowAt K H v r) : RowAt K H' v r := by
  obtain ⟨a, h1, h2⟩ := h
  exact ⟨a, h1, e.t hp h2⟩
theorem LAt.sb {K : PySem.W.Frag} {H H' : Hp} {p c : Addr} {b : Int} (e : SameB p H H') (hp : Pen H p c b) {v : V} {r : List (List Int)} (h : LAt K H v r) : LAt K H' v r := by
  obtain ⟨a, vals, h1, h2, h3⟩ := h
  exact ⟨a, vals, h1, e.lst hp h2, pd_mono h3 fun _ _ => RowAt.sb e hp⟩
theorem sb_free {p a : Addr} {H H' : Hp} (e : SameB p H H') (h : H' a = none) (n : a ≠ p) : H a = none := by
  cases q : H a with
  | none => rfl
  | some o =>
    rw [e a o q n] at h
    cases h
theorem OpR.imp {X : Cx} {f : Value → Value → Sem Value} {r r' : R2} (h : OpR X f r) (i : ∀ x y H Q, r' x y H Q → r x y H Q) : OpR X f r' :=
  fun pins s σ H x y v u Q I rx ry q => h pins s σ H x y v u Q I rx ry (i x y H Q q)
def rCatS (K : PySem.W.Frag) : R2 := fun x y H Q => ∃ a b xs ys, x = .ref a ∧ y = .ref b ∧ SqT K H a xs ∧ SqT K H b ys ∧ xs.length + ys.length ≤ sizeLine ∧ ∀ p H', Same H H' → SqT K H' p (xs ++ ys) → Q (.ref p) H'
theorem op_catS {X : Cx} : OpR X (binaryOp .Add) (rCatS X.K) := by
  refine OpR.imp op_catA fun x y H Q h => ?_
  obtain ⟨a, b, xs, ys, h1, h2, h3, h4, h5, q⟩ := h
  refine ⟨a, b, xs, ys, h1, h2, h3, h4, h5, fun e => ?_, fun e e2 => ?_, fun e e2 p np => ?_⟩
  · refine q b H (Same.refl H) ?_
    rw [e]
    exact h4
  · refine q a H (Same.refl H) ?_
    rw [e2, List.append_nil]
    exact h3
  · exact q p _ (same_new np) (sqT upd_same)
theorem eqv_ints : ∀ (ns ms : List Int), PyData.eqvAll (ns.map .int) (ms.map .int) = decide (ns = ms)
  | [], [] => by simp [PyData.eqvAll]
  | [], _ :: _ => by simp [PyData.eqvAll]
  | _ :: _, [] => by simp [PyData.eqvAll]
  | a :: r, b :: t => by
    simp only [List.map_cons, PyData.eqvAll, eqv_ints r t, PyData.eqv]
    by_cases h : a = b <;> by_cases h' : r = t <;> simp [h, h']
theorem eqv_tints (ns ms : List Int) : PyData.eqv (.tuple (ns.map .int)) (.tuple (ms.map .int)) = decide (ns = ms) := by
  simp only [PyData.eqv]
  exact eqv_ints ns ms
theorem eqv_lints (ns ms : List Int) : PyData.eqv (.list (ns.map .int)) (.list (ms.map .int)) = decide (ns = ms) := by
  simp only [PyData.eqv]
  exact eqv_ints ns ms
def tupD (r : List Int) : PyData := .tuple (r.map .int)
theorem dp_row {K : PySem.W.Frag} {H : Hp} {v : V} {r : List Int} (h : RowAt K H v r) : Dp K H v (tupD r) := by
  obtain ⟨a, e, h⟩ := h
  subst e
  exact .tup h (dp_ints r)
theorem dp_rows {K : PySem.W.Frag} {H : Hp} : ∀ {vs : List V} {rs : List (List Int)}, Paired (RowAt K H) vs rs → DpAll K H vs (rs.map tupD)
  | _, _, .nil => .nil
  | _, _, .cons h t => .cons (dp_row h) (dp_rows t)
theorem okD_tup (n : Nat) (r : List Int) : okD (n + 1) (tupD r) := okD_tuple (okD_ints n r)
theorem okD_tups (n : Nat) (rs : List (List Int)) : ∀ d ∈ rs.map tupD, okD (n + 1) d := fun d hd => by
  obtain ⟨r, _, rfl⟩ := List.mem_map.mp hd
  exact okD_tup n r
theorem eqv_rows : ∀ (rs ss : List (List Int)), PyData.eqvAll (rs.map tupD) (ss.map tupD) = decide (rs = ss)
  | [], [] => by simp [PyData.eqvAll]
  | [], _ :: _ => by simp [PyData.eqvAll]
  | _ :: _, [] => by simp [PyData.eqvAll]
  | a :: r, b :: t => by
    have e : PyData.eqv (tupD a) (tupD b) = decide (a = b) := eqv_tints a b
    simp only [List.map_cons, PyData.eqvAll, eqv_rows r t, e]
    by_cases h : a = b <;> by_cases h' : r = t <;> simp [h, h']
theorem cut_all (xs : List V) : cutV xs none none = xs := by
  unfold cutV
  rw [HT.sIx_none, HT.sIx_none]
  simp
theorem cut_from (xs : List V) (k : Nat) : cutV xs (some (k : Int)) none = xs.drop k := by
  unfold cutV
  rw [HT.sIx_nat, HT.sIx_none]
  by_cases h : k ≤ xs.length
  · rw [Nat.min_eq_left h, List.take_of_length_le (by rw [List.length_drop]; exact Nat.le_refl _)]
  · rw [Nat.min_eq_right (by omega), List.drop_eq_nil_of_le (Nat.le_refl _), List.drop_eq_nil_of_le (by omega)]
    simp
theorem cut_to (xs : List V) (k : Nat) : cutV xs none (some (k : Int)) = xs.take k := by
  unfold cutV
  rw [HT.sIx_nat, HT.sIx_none]
  show (xs.take (min k xs.length)) = xs.take k
  by_cases h : k ≤ xs.length
  · rw [Nat.min_eq_left h]
  · rw [Nat.min_eq_right (by omega), List.take_of_length_le (Nat.le_refl _), List.take_of_length_le (by omega)]
end Dg
namespace Dg
open PySem PySem.Spec PyProof.Rows L2
section
variable {X : Cx} {K : PySem.W.Frag} (h : X.K = K)
include h
theorem k_ix_list : IxR X (rIxL K) := h ▸ ix_list
theorem k_ix_tup : IxR X (rIxT K) := h ▸ ix_tup
theorem k_ix_any : IxR X (rIxA K) := h ▸ ix_any
theorem k_op_catS : OpR X (binaryOp .Add) (rCatS K) := h ▸ op_catS
theorem k_op_in_seq : OpR X (compareOp .In) (rIn K false) := h ▸ op_in_seq
theorem k_op_notIn_seq : OpR X (compareOp .NotIn) (rIn K true) := h ▸ op_notIn_seq
theorem k_op_eqD (hu : X.A.units + 64 < cLine) : OpR X (compareOp .Eq) (rEqD K) := h ▸ op_eqD hu
theorem k_op_neD (hu : X.A.units + 64 < cLine) : OpR X (compareOp .NotEq) (rNeD K) := h ▸ op_neD hu
theorem k_call_len_seq : CallR X (.builtin "len") (fun xs H Q => ∃ p ys, xs = [.ref p] ∧ (SqL K H p ys ∨ SqT K H p ys) ∧ Q (.int ys.length) H) := h ▸ call_len_seq
theorem k_call_list_of : CallR X (.type "list") (fun xs H Q => ∃ p ys, xs = [.ref p] ∧ (SqL K H p ys ∨ SqT K H p ys) ∧ ∀ l, H l = none → Q (.ref l) (upd H l (.lst ys))) := h ▸ call_list_of
theorem k_call_tuple_of : CallR X (.type "tuple") (fun xs H Q => ∃ p ys, xs = [.ref p] ∧ ((SqL K H p ys ∧ ∀ l, H l = none → Q (.ref l) (upd H l (.tup ys))) ∨ (SqT K H p ys ∧ Q (.ref p) H))) := h ▸ call_tuple_of
theorem k_sl_list : SlR X (rSlL K) := h ▸ sl_list
theorem k_sl_tupA : SlR X (rSlA K) := h ▸ sl_tupA
end
end Dg
namespace Dg
open PySem PySem.Spec PyProof.Rows L2
theorem at_last' {α : Type} {xs : List α} {v : α} (h : xs[xs.length - 1]? = some v) : atI xs (-1) = some v := by
  have h1 : xs.getLast? = some v := by
    rw [List.getLast?_eq_getElem?]
    exact h
  rcases List.eq_nil_or_concat xs with e | ⟨s, d, e⟩
  · rw [e] at h1
    cases h1
  · rw [List.concat_eq_append] at e
    subst e
    have : d = v := by simpa using h1
    rw [this]
    exact atI_last _ _
end Dg
namespace Dg
open PySem PySem.Spec PyProof.Rows L2
theorem SameB.upd {p q : Addr} {H H' : Hp} {o : HO} (e : SameB p H H') (h : H q = none) : SameB p H (upd H' q o) := fun b u hb n => by
  rw [upd_ne (ne_of_none hb h)]
  exact e b u hb n
theorem SameB.new {p q : Addr} {H H' : Hp} {o : HO} (e : SameB p H H') (h : H' q = none) : SameB p H (L2.upd H' q o) := e.trans (SameB.of (same_new h))
theorem Pen.upd {H : Hp} {p c q : Addr} {b : Int} {o : HO} (h : Pen H p c b) (hp : q ≠ p) (hc : q ≠ c) : Pen (L2.upd H q o) p c b := by
  obtain ⟨ns, t, l, h⟩ := h
  refine ⟨ns, t, l, ?_, ?_, h.t0, h.tb, h.l0, h.n63⟩
  · rw [upd_ne hp.symm]
    exact h.ob
  · rw [upd_ne hc.symm]
    exact h.cs
theorem Pen.fresh {H : Hp} {p c q : Addr} {b : Int} (h : Pen H p c b) (hq : H q = none) : q ≠ p ∧ q ≠ c := by
  obtain ⟨ns, t, l, h⟩ := h
  exact ⟨(ne_of_none h.ob hq).symm, (ne_of_none h.cs hq).symm⟩
end Dg
namespace Dg
open PySem PySem.Spec PyProof.Rows L2
theorem call_isE2 {X : Cx} {a D : Addr} {oe : Obj} {pn : List (Addr × Obj)} {cls : Value} {d : Option Addr} (C : ExcC X.K D) (hz : Zc cls d oe) (hf : ∃ vs, oe.data = .fields vs) :
    CallR (X.suite a ((a, oe) :: pn)) (.builtin "isinstance") (fun xs H Q => cls = .ref D ∧ d = none ∧ rIsE X.K D a xs H Q) := by
  intro pins s σ H xs us Q I r h
  obtain ⟨h1, h2, h⟩ := h
  subst h1 h2
  exact call_isE C hz hf pins s σ H xs us Q I r h
structure Ei (K : PySem.W.Frag) (mg : Str → Option Value) (C T : Addr) : Prop where
  ex : ExcC K C
  g_TurnError : mg "TurnError" = some (.ref T)
  kT : PySem.W.kitOne K (.ref C) (.ref T) = some true
  kV : PySem.W.kitOne K (.ref C) (.type "ValueError") = some true
end Dg
namespace Dg
open PySem PySem.Spec PyProof.Rows L2
theorem rel_ref (a : Addr) : RelV (.ref a) (.ref a) := rfl
theorem rel_ty (n : String) : RelV (.ty n) (.type n) := rfl
theorem boot_VE : bootBuiltins "ValueError" = some (.type "ValueError") := by decide +kernel
end Dg
namespace Dg
open PySem PySem.Spec PyProof.Rows L2
def lstD (rs : List (List Int)) : PyData := .list (rs.map tupD)
theorem dp_lats {K : PySem.W.Frag} {H : Hp} : ∀ {vs : List V} {ls : List (List (List Int))}, Paired (LAt K H) vs ls → DpAll K H vs (ls.map lstD)
  | _, _, .nil => .nil
  | _, _, .cons h t => .cons (by
      obtain ⟨a, vals, e, h1, h2⟩ := h
      subst e
      exact .lst (sqL h1) (dp_rows h2)) (dp_lats t)
theorem okD_lsts (n : Nat) (ls : List (List (List Int))) : ∀ d ∈ ls.map lstD, okD (n + 2) d := fun d hd => by
  obtain ⟨r, _, rfl⟩ := List.mem_map.mp hd
  exact okD_list (okD_tups n r)
end Dg
namespace Dg
open PySem PySem.Spec PyProof.Rows L2
theorem k_pg_tup {X : Cx} {K : PySem.W.Frag} {es : List Expr} {k n : Nat} {pos : Pos} {t : List V → L2.St → Hp → (L2.St → Hp → Prop) → Prop} (h : PG X (.Tuple es k pos) (gTup X.K n t)) (e : X.K = K) : PG X (.Tuple es k pos) (gTup K n t) := e ▸ h
end Dg
namespace Dg
open PySem PySem.Spec PyProof.Rows L2
def IteG (G : List V → Hp → Prop) (k : Int) : It where
  go i H := ∃ (xs : List V) (x : V), G xs H ∧ xs[i]? = some x
  yld i H v H' := ∃ T x, v = .ref T ∧ H T = none ∧ H' = upd H T (.tup [.int (k + (i : Nat)), x]) ∧ ∀ xs, G xs H → xs[i]? = some x
  stop i H := ∃ xs : List V, G xs H ∧ xs.length ≤ i
structure Drawn (P : Program) (w : World) (K : PySem.W.Frag) (a : Addr) (G : List V → Hp → Prop) (on : Nat → Addr → Heap → Prop) (all : Array Value → Heap → Prop) : Prop where
  sees : ∀ {X : Cx} {pins : List (Addr × Obj)} {σ : L2.St} {H : Hp} {s : Shared} {xs : List V}, X.K = K → Inv X pins σ H s → G xs H → ∃ its : List Value, Vals xs its ∧ all its.toArray s.heap
  same : ∀ {X : Cx} {pins : List (Addr × Obj)} {σ : L2.St} {H : Hp} {s : Shared} {xs ys : List V}, X.K = K → Inv X pins σ H s → G xs H → G ys H → ys = xs
  draws : ∀ (A : Around) (it : Addr) (its : Array Value), A.handled = none → a ≠ it → Draws P w A it [it, a] its.size (fun i v => its[i]? = some v) fun i h => on i it h ∧ all its h
  plain : ∀ {i : Nat} {it : Addr} {h : Heap}, on i it h → ∃ o, h.get? it = some o ∧ ∀ v, o.data ≠ .cell v
  moves : ∀ {i : Nat} {it : Addr} {h h' : Heap}, on i it h → (∀ o, h.get? it = some o → h'.get? it = some o) → on i it h'
  ends : ∀ (A : Around) (it : Addr) (its : Array Value) (i : Nat), A.handled = none → its.size ≤ i → Draws P w A it [it, a] i (fun _ _ => False) fun j h => j = i ∧ on i it h ∧ all its h
theorem drawnT (P : Program) (w : World) (K : PySem.W.Frag) (a : Addr) : Drawn P w K a (fun xs H => SqT K H a xs) (fun i it h => h.IsTupleIter it a i) fun its h => h.IsTuple a its where
  sees k I q := by
    subst k
    obtain ⟨its, r, t, _⟩ := I.tuple q
    exact ⟨its, r, t⟩
  same k I p q := by
    subst k
    exact I.tuple_inj q p
  draws A it its hd ne := Draws.tuple hd it a ne its
  plain z := by
    obtain ⟨o, e, _, d⟩ := z
    refine ⟨o, e, fun v x => ?_⟩
    rw [d] at x
    cases x
  moves z k := z.at k
  ends A it its i hd le :=
    ⟨fun _ _ z => let ⟨o, e, _⟩ := z.2.1; ⟨o, e⟩, fun _ _ _ z k => ⟨z.1, z.2.1.at fun o => k it (by simp) o, z.2.2.at fun o => k a (by simp) o⟩, fun j _ _ _ lt z => absurd z.1 (Nat.ne_of_lt lt),
      fun _ _ _ z e => wpAny_nextOf_tuple_end hd z.2.1 z.2.2 (Array.getElem?_eq_none le) e⟩
theorem drawnL (P : Program) (w : World) (K : PySem.W.Frag) (a : Addr) : Drawn P w K a (fun xs H => SqL K H a xs) (fun i it h => h.IsListIter it a i) fun its h => h.IsList a its where
  sees k I q := by
    subst k
    obtain ⟨its, r, t, _⟩ := I.list q
    exact ⟨its, r, t.isList⟩
  same k I p q := by
    subst k
    exact I.list_inj q p
  draws A it its hd ne := Draws.list hd it a ne its
  plain z := by
    obtain ⟨o, e, _, d⟩ := z
    refine ⟨o, e, fun v x => ?_⟩
    rw [d] at x
    cases x
  moves z k := z.at k
  ends A it its i hd le :=
    ⟨fun _ _ z => let ⟨o, e, _⟩ := z.2.1; ⟨o, e⟩, fun _ _ _ z k => ⟨z.1, z.2.1.at fun o => k it (by simp) o, z.2.2.at fun o => k a (by simp) o⟩, fun j _ _ _ lt z => absurd z.1 (Nat.ne_of_lt lt),
      fun _ _ _ z e => wpAny_nextOf_list_end hd z.2.1 z.2.2 (Array.getElem?_eq_none le) e⟩
theorem new_pair {X : Cx} {pins : List (Addr × Obj)} {σ : L2.St} {H : Hp} {s : Shared} (I : Inv X pins σ H s) {e it : Addr} (le : e < s.heap.objs.size) (li : it < s.heap.objs.size) (free : ∀ b ∈ [e, it], FpOk X pins H b) {h2 : Heap} {tk : Nat} {n : Int} {t : Tok} {x : V} {u : Value} (ru : RelV x u)
    (rest : ∀ b o, b ≠ e → b ≠ it → s.heap.get? b = some o → h2.get? b = some o) (made : h2.get? s.heap.objs.size = some { cls := .type "tuple", data := .seq #[.int n t, u] }) :
    Inv X pins σ (upd H s.heap.objs.size (.tup [.int n, x])) { s with heap := h2, toks := tk } ∧ ∀ b ∈ [e, it], upd H s.heap.objs.size (.tup [.int n, x]) b = none := by
  have apart : ∀ b ∈ [e, it], b ≠ s.heap.objs.size := by
    simp only [List.mem_cons, List.not_mem_nil, or_false]
    intro b z
    rcases z with z | z
    · exact z ▸ Nat.ne_of_lt le
    · exact z ▸ Nat.ne_of_lt li
  constructor
  · refine I.turnedNew (ch := [e, it]) (fun b o nb q => ?_) free (Nat.le_refl _) ⟨(show 2 ≤ sizeLine by decide), [.int n t, u], .cons ⟨t, rfl⟩ (.cons ru .nil), ⟨_, made, rfl, _, rfl⟩⟩
    rw [List.mem_cons, List.mem_singleton] at nb
    exact rest b o (fun z => nb (.inl z)) (fun z => nb (.inr z)) q
  · intro b hb
    rw [upd_ne (apart b hb)]
    exact (free b hb).1
section
variable {P : Program} {w : World} {K : PySem.W.Frag} {elts : List Expr} {kk : Nat} {tpos : Pos} {a : Addr} {G : List V → Hp → Prop} {on : Nat → Addr → Heap → Prop} {all : Array Value → Heap → Prop}
def EnAt (on : Nat → Addr → Heap → Prop) (k : Int) (a e it : Addr) (i : Nat) (h : Heap) : Prop := (∃ old, IsEnum h e it (k + ((i : Nat) : Int)) old) ∧ on i it h ∧ a ≠ it ∧ e ≠ it ∧ e ≠ a
theorem turn_en (D : Drawn P w K a G on all) (k : Int) (e it : Addr) : Turn P w K (.Tuple elts kk tpos) (IteG G k) [e, it] e (EnAt on k a e it) where
  mem := List.mem_cons_self
  obj i h z b hb := by
    obtain ⟨⟨old, en⟩, on1, _⟩ := z
    rcases List.mem_cons.mp hb with y | y
    · rw [y]
      exact ⟨_, en, fun _ => Data.noConfusion⟩
    · obtain rfl := List.mem_singleton.mp y
      exact D.plain on1
  keep i h h' z kp := by
    obtain ⟨⟨old, en⟩, on1, r⟩ := z
    exact ⟨⟨old, kp e List.mem_cons_self _ en⟩, D.moves on1 (kp it (by simp)), r⟩
  item X hP hw hK calm i pins s σ H E I free z go := by
    subst hP hw
    obtain ⟨⟨old, en⟩, on1, ai, ei, ea⟩ := z
    obtain ⟨xs, x, gx, ex⟩ := go
    obtain ⟨its, vals, al⟩ := D.sees hK I gx
    obtain ⟨u, eu, ru⟩ := vals.get ex
    obtain ⟨oi, hoi, _⟩ := D.plain on1
    have le := Heap.lt_size en
    refine wpAny_pyNext_enum_itemC (D.draws X.A.in1 it its.toArray (I.ok.hd calm) ai) en ⟨on1, al⟩ (i := i) (by simpa using (List.getElem?_eq_some_iff.mp eu).1) ei (by simp [ei, ea]) fun y h1 tk ey out nxt tup _ kept => ?_
    have : its[i]? = some y := by simpa using ey
    rw [eu] at this
    cases this
    refine ⟨_, rfl, wpAny_letOwnedTupleGo_enum (s := { s with heap := h1, toks := tk + 1 }) out fun h2 en2 only => ?_⟩
    obtain ⟨I2, gone⟩ := new_pair (h2 := h2) (tk := tk + 1) I le (Heap.lt_size hoi) free ru (fun b o n1 n2 q => (only.2 b n1).trans (kept b o n1 n2 q)) ((only.2 _ (Nat.ne_of_gt le)).trans tup)
    have e1 : k + ((i + 1 : Nat) : Int) = k + (i : Int) + 1 := by omega
    exact ⟨.ref s.heap.objs.size, _, I2, rfl, ⟨_, x, rfl, I.hok.fresh (Nat.le_refl _), rfl, fun ys hy => D.same hK I gx hy ▸ ex⟩, ⟨⟨u, e1 ▸ en2⟩, D.moves nxt.1 (fun o q => (only.2 it (Ne.symm ei)).trans q), ai, ei, ea⟩, gone⟩
  done X hP hw hK calm i pins s σ H E I free z stop := by
    subst hP hw
    obtain ⟨⟨old, en⟩, on1, ai, ei, ea⟩ := z
    obtain ⟨xs, gx, lx⟩ := stop
    obtain ⟨its, vals, al⟩ := D.sees hK I gx
    obtain ⟨f0, f1, f2, f3, f4, f5⟩ := free it (List.mem_cons_of_mem _ List.mem_cons_self)
    have size : its.toArray.size ≤ i := by
      rw [List.size_toArray, ← vals.length]
      exact lx
    exact wpAny_pyNext_enum_endD (D.ends X.A.in1 it its.toArray i (I.ok.hd calm) size) en ⟨rfl, on1, al⟩ fun h' kept => ⟨rfl, I.turned (t' := s.toks) kept f0 f1 f3 f4 f5⟩
  self A i s Q E z q := by
    obtain ⟨⟨old, en⟩, _⟩ := z
    exact wpAny_pyIter_enum en q
end
theorem meets_en1 {v : Value} {o : Obj} {H : Heap → Prop} (B : Begins v o H) : Meets (Builtin.«enumerate.__new__» ⟨[.type "enumerate", v], []⟩)
    (fun _ R s => H s.heap ∧ R (.ok (.ret (.ref (s.heap.push o).objs.size))) { s with heap := (s.heap.push o).push { cls := .type "enumerate", data := .fields #[.none, .bool false, .ref s.heap.objs.size, rawInt 0, .none, .none] } }) := by
  refine .of_wp fun P w A R st ⟨hv, q⟩ => ?_
  obtain ⟨heap, g, d, tk, os⟩ := st
  have kind := sub_enumerate
  have begin1 : ∀ {B' : Around} {E N : Value → Shared → Prop}, N (.ref heap.objs.size) ⟨heap.push o, g, d, tk, os⟩ → wpAny (model P w) B' (pyIter v) N E ⟨heap, g, d, tk, os⟩ := fun n => B.iter P w _ _ _ _ hv n
  wp_walk using begin1
  refine wpAny_stack_any fun top => wpAny_pure ?_
  split
  · rename_i c _ _ _ _ _
    cases c == Value.type "enumerate" <;> (wp_walk using begin1; exact ⟨_, rfl, q⟩)
  · wp_walk using begin1
    exact ⟨_, rfl, q⟩
theorem en1_begins {prog : Program} {w : World} {A : Around} {E Q : Value → Shared → Prop} {s : Shared} {v : Value} {o : Obj} {H : Heap → Prop} (B : Begins v o H) (hv : H s.heap)
    (q : ∀ h', IsEnum h' (s.heap.objs.size + 1) s.heap.objs.size 0 .none → h'.get? s.heap.objs.size = some o → (∀ b u, s.heap.get? b = some u → h'.get? b = some u) → Q (.ref (s.heap.objs.size + 1)) { s with heap := h' }) :
    wpAny (model prog w) A (call (.type "enumerate") [v]) Q E s := by
  have n1 : (s.heap.push o).objs.size = s.heap.objs.size + 1 := Heap.size_push ..
  have made := Heap.get?_push_size (s.heap.push o) (o := { cls := .type "enumerate", data := .fields #[.none, .bool false, .ref s.heap.objs.size, rawInt 0, .none, .none] }) rfl
  rw [n1] at made
  refine callType_new F.called_enumerate (by decide) (F.typeCall_enumerate_1 _) (F.newCall_enumerate_1 _) (fun obj => F.args_object_init_2 obj _) F.entry_enumerate_new (meets_en1 B) ⟨hv, ?_⟩
  rw [n1]
  exact ⟨⟨_, made, rfl⟩, q _ made (Heap.get?_push_of_some _ (Heap.get?_push_size _ B.free)) fun b u x => Heap.get?_push_of_some _ (Heap.get?_push_of_some _ x)⟩
theorem walk_enumT {K : PySem.W.Frag} {a : Addr} {xs : List V} {k : Int} : Walk (IteG (fun xs H => SqT K H a xs) k) xs.length (fun H => SqT K H a xs) (YPair (fun i => some (.int (k + (i : Nat)))) (fun i => xs[i]?)) := by
  refine ⟨fun i _ hi q => ⟨xs, xs[i], q, by simp [hi]⟩, fun _ q => ⟨xs, q, Nat.le_refl _⟩, fun i H v H' _ q y => ?_⟩
  obtain ⟨T, x, h1, h2, h3, h4⟩ := y
  exact ⟨T, .int (k + (i : Nat)), x, h1, h2, h3, rfl, h4 xs q⟩
def iEnumS (K : PySem.W.Frag) (ta : TA) : TI := fun σ H R => ta σ H fun vs H1 => ∃ a xs, vs = [.ref a] ∧ Sq K H1 a xs ∧
  ∀ J, L2.Walk J xs.length (fun H => Sq K H a xs ∧ Same H1 H) (YPair (fun i => some (.int (i : Nat))) (fun i => xs[i]?)) → R J H1
theorem walk_enumS {K : PySem.W.Frag} {a : Addr} {xs : List V} {H1 : Hp} : (SqL K H1 a xs → L2.Walk (Ite K a) xs.length (fun H => Sq K H a xs ∧ Same H1 H) (YPair (fun i => some (.int (i : Nat))) (fun i => xs[i]?))) ∧
    (SqT K H1 a xs → L2.Walk (IteG (fun xs H => SqT K H a xs) 0) xs.length (fun H => Sq K H a xs ∧ Same H1 H) (YPair (fun i => some (.int (i : Nat))) (fun i => xs[i]?))) := by
  refine ⟨fun h => Walk.mono walk_enum (fun H g => g.2.seq h) fun _ _ _ _ _ _ y => y, fun h => Walk.mono walk_enumT (fun H g => same_t g.2 h) fun i H x H' _ _ y => ?_⟩
  obtain ⟨T, u, v, h1, h2, h3, h4, h5⟩ := y
  refine ⟨T, u, v, h1, h2, h3, ?_, h5⟩
  rw [← h4]
  simp
theorem pi_enumS {X : Cx} {e : Expr} {ta : TA} {p pos tpos : Pos} {elts : List Expr} {kk : Nat} (hg : Gl X "enumerate") (hm : X.mg "enumerate" = none) (ha : PA X [e] ta) (hs : starEach [e] X.env = [(false, eval e X.env)] := by rfl) :
    PI X (.Tuple elts kk tpos) (.Call (.Name "enumerate" p) [e] [] pos) (iEnumS X.K ta) := by
  constructor
  intro pins s σ H R I h
  refine Call_ (ld_blt I hg hm boot_enumerate (PyProof.Rows.callWith_type1 (thn (ha.run pos pins s σ H _ I h) fun us s1 z => ?_) hs rfl))
  obtain ⟨vs, H1, I1, r1, a, xs, rfl, sq, q⟩ := z
  obtain ⟨u, rfl, ru⟩ : ∃ u, us = [u] ∧ RelV (V.ref a) u := by
    cases r1 with
    | cons r rr =>
      cases rr
      exact ⟨_, rfl, r⟩
  obtain rfl : u = .ref a := ru
  let n := s1.heap.objs.size
  have young : ∀ b ∈ [n + 1, n], FpOk X pins H1 b := fun b hb => by
    have le : n ≤ b := by
      rcases List.mem_cons.mp hb with z | z
      · exact z ▸ Nat.le_add_right n 1
      · exact Nat.le_of_eq (List.mem_singleton.mp z).symm
    exact I1.fpOk le (I1.hok.fresh le)
  have old : ∀ {o : Obj}, s1.heap.get? a = some o → a ≠ n ∧ n + 1 ≠ a := fun e => by
    have := Heap.lt_size e
    exact ⟨Nat.ne_of_lt this, Nat.ne_of_gt (Nat.lt_succ_of_lt this)⟩
  rcases sq with l | t
  · obtain ⟨its, _, is, _⟩ := I1.list l
    exact call_enumerate_list is.isList fun h' en on _ kp => wpAny_pyIter_enum en ⟨n + 1, [n + 1, n], _, _, H1, rfl, I1.kept (t' := s1.toks) kp, turn_enum a (n + 1) n, ⟨⟨.none, en⟩, on, Nat.succ_ne_self _⟩, young, q _ (walk_enumS.1 l)⟩
  · obtain ⟨its, _, is, _⟩ := I1.tuple t
    have is2 : s1.heap.IsTuple a its.toArray := is
    obtain ⟨o, eo, _⟩ := is2
    exact en1_begins (begins_tuple a its.toArray) is fun h' en made kp => wpAny_pyIter_enum en
      ⟨n + 1, [n + 1, n], _, _, H1, rfl, I1.kept (t' := s1.toks) kp, turn_en (drawnT X.prog X.w X.K a) 0 (n + 1) n, ⟨⟨.none, by simpa using en⟩, ⟨_, made, rfl, rfl⟩, (old eo).1, Nat.succ_ne_self _, (old eo).2⟩, young, q _ (walk_enumS.2 t)⟩
end Dg
namespace Dg
open PySem PySem.Spec PyProof.Rows L2
def spFld (C : Addr) (fld : Str) : Sp := fun vs H Q _ => ∃ (a : Addr) (v : V), vs = [.ref a, v] ∧ H a = some (exo a C none) ∧
  ∀ dx, H dx = none → dx ≠ a → Q .non (upd (upd H dx (exd dx [(fld, v)])) a (exo a C (some dx)))
structure Ef (P : Program) (w : World) (K : PySem.W.Frag) (mg : Str → Option Value) (base : Heap) (x fld : Str) (C : Addr) : Prop where
  T : OexC K C
  gC : mg x = some (.ref C)
  no : PySem.W.findIn K (.ref C) fld = some none
  ini : ∃ (fI : Addr) (fd : FuncData), PySem.W.findIn K (.ref C) "__init__" = some (some (.ref fI)) ∧ PySem.W.typeIn K (.ref fI) = some (.type "function") ∧ FnOk P w K mg base CX0 1 fI fd ["self", fld] (spFld C fld) ∧ Binds K fd ["self", fld] []
  xf : XfC K C
  iC : PySem.W.isClsIn K C = true
  sC : PySem.W.subIn K (.ref C) (.ref C) = some true
theorem Ef.te {P : Program} {w : World} {K : PySem.W.Frag} {mg : Str → Option Value} {base : Heap} {x fld : Str} {C : Addr} (c : Ef P w K mg base x fld C) : PySem.W.exmOne K (.ref C) (.ref C) = some true := exm_self c.T.exC c.iC c.T.tyC c.sC
theorem passF {X : Cx} : Passes CX0 X (fun _ _ _ => False) := fun _ _ _ _ _ _ _ h => h.elim
theorem pmk_fld {X : Cx} {x fld : Str} {C : Addr} {e : Expr} {ta : TA} {p pos : Pos} (c : Ef X.prog X.w X.K X.mg X.base x fld C) (hr : Room 2 X.A) (hg : Gl X x) (ha : PA X [e] ta) (hdb : (x == ("__debug__" : Str)) = false := by decide)
    (he : starEach [e] X.env = (false, eval e X.env) :: starEach [] X.env := by rfl) (hpl : (backTo pos (starEach [] X.env)).any (·.1) = false := by rfl) :
    PMk X (.Call (.Name x p) [e] [] pos) (tMkO C (spFld C fld) [] ta) := by
  obtain ⟨fI, fd, iC, tI, F1, hb⟩ := c.ini
  exact pmk_oex c.T iC tI F1 hr hb .nil passF hg c.gC ha hdb he hpl
theorem mkO_in {C : Addr} {fld : Str} {v : V} {H1 : Hp} {Q : XK} (h : ∀ d, H1 d = none → Q (.ref C) (some d) (upd H1 d (.xd [(fld, v)]))) :
    [v].length ≤ 1000 ∧ ∀ a, H1 a = none → spFld C fld (.ref a :: ([v] ++ [])) (upd H1 a (exo a C none)) (fun u H2 => u = .non ∧ ∃ (d : Addr) (fs : List (Str × V)), H2 a = some (exo a C (some d)) ∧ H2 d = some (exd d fs) ∧ H1 d = none ∧ Q (.ref C) (some d) (upd (del H2 a) d (.xd fs))) (fun _ _ _ => False) := by
  refine ⟨by show 1 ≤ 1000; decide, fun a na => ⟨a, v, rfl, upd_same, fun dx nd ne => ⟨rfl, dx, [(fld, v)], upd_same, ?_, ?_, ?_⟩⟩⟩
  · rw [upd_ne ne, upd_same]
  · rw [upd_ne ne] at nd
    exact nd
  · rw [upd_ne ne] at nd
    have e : upd (del (upd (upd (upd H1 a (exo a C none)) dx (exd dx [(fld, v)])) a (exo a C (some dx))) a) dx (.xd [(fld, v)]) = upd H1 dx (.xd [(fld, v)]) := by
      funext b
      by_cases h1 : b = dx
      · rw [h1, upd_same, upd_same]
      · rw [upd_ne h1, upd_ne h1]
        by_cases h2 : b = a
        · rw [h2, del_same, na]
        · rw [del_ne h2, upd_ne h2, upd_ne h1, upd_ne h2]
    rw [e]
    exact h dx nd
end Dg
namespace Dg
open PySem PySem.Spec PyProof.Rows L2
def iAny (K : PySem.W.Frag) (tl : TE) : TI := fun σ H R => tl σ H fun x H1 => ∃ a xs, x = .ref a ∧ Sq K H1 a xs ∧ ∀ J, L2.Walk J xs.length (fun H => Sq K H a xs ∧ Same H1 H) (YAt xs) → R J H1
theorem seq_begins {X : Cx} {pins : List (Addr × Obj)} {σ : L2.St} {H : Hp} {s : Shared} {tg : Expr} {a : Addr} {R : It → Hp → Prop} (I : Inv X pins σ H s) (q : ((∃ xs, SqL X.K H a xs) ∧ R (Itl X.K a) H) ∨ ((∃ xs, SqT X.K H a xs) ∧ R (Itt X.K a) H)) :
    wpAny (model X.prog X.w) X.A (pyIter (.ref a)) (PIE X pins σ tg R) X.xe s := by
  let n := s.heap.objs.size
  have young : ∀ b ∈ [n], FpOk X pins H b := fun b z => List.mem_singleton.mp z ▸ I.fpOk (Nat.le_refl n) (I.hok.fresh (Nat.le_refl n))
  have old : ∀ (o : Obj) (b : Addr) (u : Obj), s.heap.get? b = some u → (s.heap.push o).get? b = some u := fun _ _ _ z => Heap.get?_push_of_some _ z
  rcases q with ⟨⟨xs, l⟩, q⟩ | ⟨⟨xs, t⟩, q⟩
  · obtain ⟨its, _, is, _⟩ := I.list l
    exact wpAny_pyIter_list is.isList ⟨n, [n], _, _, H, rfl, I.kept (t' := s.toks) (old _), turn_list a n, ⟨_, Heap.get?_push_size _ rfl, rfl, rfl⟩, young, q⟩
  · obtain ⟨its, _, is, _⟩ := I.tuple t
    have is2 : s.heap.IsTuple a its.toArray := is
    exact wpAny_pyIter_tuple is2 ⟨n, [n], _, _, H, rfl, I.kept (t' := s.toks) (old _), turn_tuple a n, ⟨_, Heap.get?_push_size _ rfl, rfl, rfl⟩, young, q⟩
theorem pi_any {X : Cx} {tg l : Expr} {tl : TE} (hl : PE X l tl) : PI X tg l (iAny X.K tl) := by
  constructor
  intro pins s σ H R I h
  refine thn (hl.run pins s σ H _ I h) fun v s1 z => ?_
  obtain ⟨_, H1, I1, rv, a, xs, rfl, sq, q⟩ := z
  obtain rfl : v = .ref a := rv
  refine seq_begins I1 ?_
  rcases sq with k | k
  · exact .inl ⟨⟨xs, k⟩, q _ (Walk.mono walk_list (fun H g => g.2.seq k) fun _ _ _ _ _ _ y => y)⟩
  · exact .inr ⟨⟨xs, k⟩, q _ (Walk.mono walk_tup (fun H g => same_t g.2 k) fun _ _ _ _ _ _ y => y)⟩
def ValAt (K : PySem.W.Frag) (H : Hp) (v : V) (r : List Int) : Prop := ∃ a, v = .ref a ∧ Sq K H a (r.map V.int)
theorem ValAt.same {K : PySem.W.Frag} {H H' : Hp} (e : Same H H') {v : V} {r : List Int} (h : ValAt K H v r) : ValAt K H' v r := by
  obtain ⟨a, h1, h2⟩ := h
  exact ⟨a, h1, h2.same e⟩
theorem RowAt.val {K : PySem.W.Frag} {H : Hp} {v : V} {r : List Int} (h : RowAt K H v r) : ValAt K H v r := by
  obtain ⟨a, h1, h2⟩ := h
  exact ⟨a, h1, .inr h2⟩
theorem vals_same {K : PySem.W.Frag} {H H' : Hp} (e : Same H H') {vs : List V} {rs : List (List Int)} (h : Paired (ValAt K H) vs rs) : Paired (ValAt K H') vs rs := pd_mono h fun _ _ => ValAt.same e
theorem truV_l {K : PySem.W.Frag} {H : Hp} {a : Addr} {xs : List V} (h : SqL K H a xs) : TruV K (.ref a) H (!xs.isEmpty) := .inl ⟨xs, h, rfl⟩
theorem truV_t {K : PySem.W.Frag} {H : Hp} {a : Addr} {xs : List V} (h : SqT K H a xs) : TruV K (.ref a) H (!xs.isEmpty) := .inr (.inl ⟨xs, h, rfl⟩)
end Dg
namespace Dg
open PySem PySem.Spec PyProof.Rows L2
theorem sqT_upd {K : PySem.W.Frag} {H : Hp} {D a : Addr} {o : HO} {acc xs : List V} (hD : H D = some (.lst acc)) (h : SqT K H a xs) : SqT K (upd H D o) a xs := by
  rcases h with (h | ⟨o', h⟩) | h
  · exact .inl (.inl (by rw [upd_ne (ne_of h hD (by intro z; cases z))]; exact h))
  · exact .inl (.inr ⟨o', by rw [upd_ne (ne_of h hD (by intro z; cases z))]; exact h⟩)
  · exact .inr h
theorem row_upd {K : PySem.W.Frag} {H : Hp} {D : Addr} {o : HO} {acc : List V} {v : V} {r : List Int} (hD : H D = some (.lst acc)) (h : RowAt K H v r) : RowAt K (upd H D o) v r := by
  obtain ⟨a, e, h⟩ := h
  exact ⟨a, e, sqT_upd hD h⟩
end Dg
namespace Dg
def carryV (k l : List Int) (c d : Nat) : Option Int :=
  if k.getD d 0 = l.getD d 0 then none
  else if k.getD c 0 > k.getD d 0 then some (k.getD d 0 + 1)
  else if l.getD d 0 > l.getD c 0 then some (l.getD d 0)
  else none
def stepV (k l : List Int) (n : Nat) : Option (List Int × Int) :=
  (List.range n).findSome? fun i => if k.getD i 0 > l.getD i 0 then some ([(i : Int)], k.getD i 0) else none
def pairV (k l : List Int) (d n : Nat) : Option (List Int × Int) :=
  (List.range n).findSome? fun c => (carryV k l c d).map fun p => ([(c : Int), (d : Int)], p)
def carriesV (k l : List Int) (n : Nat) : Option (List Int × Int) :=
  (List.range n).findSome? fun d => pairV k l d d
def faultV (k l : List Int) : Option (List Int × Int) :=
  match stepV k l k.length with
  | some x => some x
  | none => carriesV k l k.length
theorem range_some {α : Type} (f : Nat → Option α) (n : Nat) : (List.range (n + 1)).findSome? f = ((List.range n).findSome? f).or (f n) := by
  rw [List.range_succ, List.findSome?_append]
  congr 1
  simp
theorem range_some_first {α : Type} {f : Nat → Option α} {x : α} : ∀ (n i : Nat), i < n → (List.range i).findSome? f = none → f i = some x → (List.range n).findSome? f = some x
  | 0, _, h, _, _ => absurd h (Nat.not_lt_zero _)
  | n + 1, i, h, h0, hx => by
    rw [range_some]
    by_cases e : i = n
    · subst e
      rw [h0, hx]
      rfl
    · rw [range_some_first n i (by omega) h0 hx]
      rfl
end Dg
namespace Dg
def preP (g : Nat → Nat → Int) : Nat → Nat → Int
  | 0, _ => 0
  | i + 1, v => 2 * preP g i v + g i v
def redP (g : Nat → Nat → Int) (k : Nat → Nat) : Nat → Int
  | 0 => 0
  | i + 1 => 2 * redP g k i + g i (k i)
structure Bits (g : Nat → Nat → Int) : Prop where
  lo : ∀ i v, 0 ≤ g i v
  hi : ∀ i v, g i v ≤ 1
theorem preP_mono {g : Nat → Nat → Int} (B : Bits g) {v w : Nat} : ∀ (n i : Nat), i ≤ n → preP g n v ≤ preP g n w → preP g i v ≤ preP g i w
  | 0, i, h, hn => by
    have : i = 0 := by omega
    subst this
    exact hn
  | n + 1, i, h, hn => by
    by_cases e : i = n + 1
    · subst e
      exact hn
    · refine preP_mono B n i (by omega) ?_
      have h1 := B.lo n v
      have h2 := B.hi n w
      simp only [preP] at hn
      omega
structure Crit (k l : Nat → Nat) (n : Nat) : Prop where
  le : ∀ i, i < n → k i ≤ l i
  adj : ∀ i, i + 1 < n → k (i + 1) = l (i + 1) ∨ (k i ≤ k (i + 1) ∧ l (i + 1) ≤ l i)
theorem crit_same {g : Nat → Nat → Int} {k l : Nat → Nat} {n : Nat} (C : Crit k l n) (M : ∀ i v w, i ≤ n → v ≤ w → preP g i v ≤ preP g i w) :
    ∀ x, x < n → (∀ j, j ≤ x → g j (k j) = g j (l j)) → ∀ lo hi, k x ≤ lo → lo ≤ hi → hi ≤ l x → preP g (x + 1) lo = preP g (x + 1) hi
  | 0, hx, hd, lo, hi, h1, h2, h3 => by
    have a1 := M 1 (k 0) lo (by omega) h1
    have a2 := M 1 lo hi (by omega) h2
    have a3 := M 1 hi (l 0) (by omega) h3
    have e : preP g 1 (k 0) = preP g 1 (l 0) := by
      simp only [preP]
      rw [hd 0 (Nat.le_refl _)]
    show preP g 1 lo = preP g 1 hi
    omega
  | x + 1, hx, hd, lo, hi, h1, h2, h3 => by
    rcases C.adj x hx with e | ⟨e1, e2⟩
    · have : lo = hi := by omega
      rw [this]
    · have hk := C.le (x + 1) hx
      have e : preP g (x + 1) (k (x + 1)) = preP g (x + 1) (l (x + 1)) := crit_same C M x (by omega) (fun j hj => hd j (by omega)) _ _ e1 hk e2
      have e' : preP g (x + 2) (k (x + 1)) = preP g (x + 2) (l (x + 1)) := by
        show 2 * preP g (x + 1) (k (x + 1)) + g (x + 1) (k (x + 1)) = 2 * preP g (x + 1) (l (x + 1)) + g (x + 1) (l (x + 1))
        rw [e, hd (x + 1) (Nat.le_refl _)]
      have a1 := M (x + 2) (k (x + 1)) lo (by omega) h1
      have a2 := M (x + 2) lo hi (by omega) h2
      have a3 := M (x + 2) hi (l (x + 1)) (by omega) h3
      show preP g (x + 2) lo = preP g (x + 2) hi
      omega
theorem crit_le {g : Nat → Nat → Int} (B : Bits g) {k l : Nat → Nat} {n : Nat} (C : Crit k l n) (M : ∀ i v w, i ≤ n → v ≤ w → preP g i v ≤ preP g i w) :
    ∀ i, i ≤ n → redP g k i < redP g l i ∨ (redP g k i = redP g l i ∧ ∀ j, j < i → g j (k j) = g j (l j))
  | 0, _ => .inr ⟨rfl, fun j h => absurd h (Nat.not_lt_zero _)⟩
  | i + 1, hi => by
    have b1 := B.lo i (k i)
    have b2 := B.hi i (k i)
    have b3 := B.lo i (l i)
    have b4 := B.hi i (l i)
    have ek : redP g k (i + 1) = 2 * redP g k i + g i (k i) := rfl
    have el : redP g l (i + 1) = 2 * redP g l i + g i (l i) := rfl
    rcases crit_le B C M i (by omega) with h | ⟨h, hd⟩
    · left
      omega
    · have hk := C.le i (by omega)
      have key : g i (k i) ≤ g i (l i) := by
        have m1 := M (i + 1) (k i) (l i) hi hk
        have e1 : preP g (i + 1) (k i) = 2 * preP g i (k i) + g i (k i) := rfl
        have e2 : preP g (i + 1) (l i) = 2 * preP g i (l i) + g i (l i) := rfl
        cases i with
        | zero =>
          have z1 : preP g 0 (k 0) = 0 := rfl
          have z2 : preP g 0 (l 0) = 0 := rfl
          omega
        | succ x =>
          rcases C.adj x (by omega) with e | ⟨f1, f2⟩
          · rw [e]
            exact Int.le_refl _
          · have e := crit_same C M x (by omega) (fun j hj => hd j (by omega)) _ _ f1 hk f2
            omega
      by_cases e : g i (k i) = g i (l i)
      · right
        refine ⟨by omega, fun j hj => ?_⟩
        by_cases hj2 : j = i
        · subst hj2
          exact e
        · exact hd j (by omega)
      · left
        omega
end Dg
namespace Dg
def numV (r : List Int) : Int := r.foldl (fun a d => 2 * a + d) 0
def rowsV : Nat → List (List Int)
  | 0 => [[]]
  | n + 1 => (rowsV n).flatMap fun r => [r ++ [0], r ++ [1]]
theorem numV_snoc (r : List Int) (d : Int) : numV (r ++ [d]) = 2 * numV r + d := by
  unfold numV
  rw [List.foldl_append]
  rfl
def IsBits (n : Nat) (r : List Int) : Prop := r.length = n ∧ ∀ d ∈ r, d = 0 ∨ d = 1
theorem snoc_of {α : Type} {n : Nat} {r : List α} (h : r.length = n + 1) : ∃ s d, r = s ++ [d] ∧ s.length = n := by
  rcases List.eq_nil_or_concat r with e | ⟨s, d, e⟩
  · rw [e] at h
    simp at h
  · rw [List.concat_eq_append] at e
    refine ⟨s, d, e, ?_⟩
    rw [e] at h
    simp at h
    exact h
theorem mem_rowsV : ∀ (n : Nat) (r : List Int), r ∈ rowsV n ↔ IsBits n r
  | 0, r => by
    unfold IsBits rowsV
    constructor
    · intro h
      have e : r = [] := by simpa using h
      subst e
      exact ⟨rfl, fun d hd => by simp at hd⟩
    · intro h
      have e : r = [] := List.eq_nil_of_length_eq_zero h.1
      rw [e]
      simp
  | n + 1, r => by
    unfold rowsV
    rw [List.mem_flatMap]
    constructor
    · rintro ⟨s, hs, hr⟩
      have hb := (mem_rowsV n s).mp hs
      have hr' : r = s ++ [0] ∨ r = s ++ [1] := by simpa using hr
      rcases hr' with e | e <;> subst e
      · refine ⟨by rw [List.length_append, hb.1]; rfl, fun d hd => ?_⟩
        rcases List.mem_append.mp hd with h | h
        · exact hb.2 d h
        · left
          simpa using h
      · refine ⟨by rw [List.length_append, hb.1]; rfl, fun d hd => ?_⟩
        rcases List.mem_append.mp hd with h | h
        · exact hb.2 d h
        · right
          simpa using h
    · rintro ⟨h1, h2⟩
      obtain ⟨s, d, e, hs⟩ := snoc_of h1
      subst e
      refine ⟨s, (mem_rowsV n s).mpr ⟨hs, fun x hx => h2 x (List.mem_append_left _ hx)⟩, ?_⟩
      rcases h2 d (List.mem_append_right _ List.mem_cons_self) with e | e <;> rw [e] <;> simp
theorem rowsV_len (n : Nat) : (rowsV n).length = 2 ^ n := by
  induction n with
  | zero => rfl
  | succ n ih =>
    unfold rowsV
    rw [List.length_flatMap]
    have e : (List.map (fun a => ([a ++ [(0 : Int)], a ++ [1]] : List (List Int)).length) (rowsV n)) = List.replicate (rowsV n).length 2 := by
      rw [List.eq_replicate_iff]
      refine ⟨by rw [List.length_map], fun b hb => ?_⟩
      obtain ⟨a, _, rfl⟩ := List.mem_map.mp hb
      rfl
    rw [e, List.sum_replicate_nat, ih, Nat.pow_succ]
theorem rowsV_pw : ∀ n : Nat, (rowsV n).Pairwise fun a b => numV a < numV b
  | 0 => by
    unfold rowsV
    simp
  | n + 1 => by
    unfold rowsV
    rw [List.pairwise_flatMap]
    refine ⟨fun a _ => ?_, ?_⟩
    · simp only [List.pairwise_cons, List.mem_cons, List.mem_nil_iff, or_false, forall_eq, List.not_mem_nil, false_imp_iff, implies_true, List.Pairwise.nil, and_true]
      rw [numV_snoc, numV_snoc]
      omega
    · refine (rowsV_pw n).imp fun {a b} h x hx y hy => ?_
      have hx' : x = a ++ [0] ∨ x = a ++ [1] := by simpa using hx
      have hy' : y = b ++ [0] ∨ y = b ++ [1] := by simpa using hy
      rcases hx' with e | e <;> rcases hy' with e2 | e2 <;> rw [e, e2, numV_snoc, numV_snoc] <;> omega
def firstV (rows one : List (List Int)) : Nat := match one.getLast? with
  | none => 0
  | some r => rows.findIdx (fun x => decide (x = r))
def risV (rows : List (List Int)) : Nat → List (List (List Int))
  | 0 => [[]]
  | n + 1 => (risV rows n).flatMap fun one => (rows.drop (firstV rows one)).map fun row => one ++ [row]
structure IsRis (rows : List (List Int)) (m : Nat) (rs : List (List Int)) : Prop where
  len : rs.length = m
  mem : ∀ r ∈ rs, r ∈ rows
  up : rs.Pairwise fun a b => numV a ≤ numV b
theorem getLast_snoc {α : Type} (s : List α) (d : α) : (s ++ [d]).getLast? = some d := by simp
theorem drop_le {rows : List (List Int)} (pw : rows.Pairwise fun a b => numV a < numV b) {x y : List Int} {j : Nat} (hx : rows[j]? = some x) (hy : y ∈ rows.drop j) : numV x ≤ numV y := by
  have hj : j < rows.length := (List.getElem?_eq_some_iff.mp hx).1
  have e : rows.drop j = x :: rows.drop (j + 1) := by
    rw [List.drop_eq_getElem_cons hj]
    congr 1
    exact (List.getElem?_eq_some_iff.mp hx).2
  rw [e] at hy
  have pw2 : (rows.drop j).Pairwise fun a b => numV a < numV b := pw.sublist (List.drop_sublist _ _)
  rw [e] at pw2
  rcases List.mem_cons.mp hy with h | h
  · rw [h]
    exact Int.le_refl _
  · exact Int.le_of_lt (List.rel_of_pairwise_cons pw2 h)
theorem mem_drop {rows : List (List Int)} (pw : rows.Pairwise fun a b => numV a < numV b) {x y : List Int} {j : Nat} (hx : rows[j]? = some x) (hy : y ∈ rows) (h : numV x ≤ numV y) : y ∈ rows.drop j := by
  rw [← List.take_append_drop j rows] at hy
  rcases List.mem_append.mp hy with h1 | h1
  · exfalso
    have hj : j < rows.length := (List.getElem?_eq_some_iff.mp hx).1
    have hxd : x ∈ rows.drop j := by
      rw [List.drop_eq_getElem_cons hj, (List.getElem?_eq_some_iff.mp hx).2]
      exact List.mem_cons_self
    have pw' := pw
    rw [← List.take_append_drop j rows, List.pairwise_append] at pw'
    have := pw'.2.2 y h1 x hxd
    omega
  · exact h1
theorem find_at {rows : List (List Int)} {r : List Int} (h : r ∈ rows) : rows[rows.findIdx (fun x => decide (x = r))]? = some r := by
  have hlt : rows.findIdx (fun x => decide (x = r)) < rows.length := List.findIdx_lt_length_of_exists ⟨r, h, by simp⟩
  rw [List.getElem?_eq_getElem hlt]
  have := List.findIdx_getElem (w := hlt)
  rw [of_decide_eq_true this]
theorem mem_risV {rows : List (List Int)} (pw : rows.Pairwise fun a b => numV a < numV b) : ∀ (m : Nat) (rs : List (List Int)), rs ∈ risV rows m ↔ IsRis rows m rs
  | 0, rs => by
    unfold risV
    constructor
    · intro h
      have e : rs = [] := by simpa using h
      subst e
      exact ⟨rfl, fun r hr => by simp at hr, List.Pairwise.nil⟩
    · intro h
      rw [List.eq_nil_of_length_eq_zero h.len]
      simp
  | m + 1, rs => by
    unfold risV
    rw [List.mem_flatMap]
    constructor
    · rintro ⟨one, ho, hr⟩
      obtain ⟨row, hrow, rfl⟩ := List.mem_map.mp hr
      have H := (mem_risV pw m one).mp ho
      refine ⟨by rw [List.length_append, H.len]; rfl, fun r hr => ?_, ?_⟩
      · rcases List.mem_append.mp hr with h | h
        · exact H.mem r h
        · have e : r = row := by simpa using h
          rw [e]
          exact List.mem_of_mem_drop hrow
      · rw [List.pairwise_append]
        refine ⟨H.up, by simp, fun a ha b hb => ?_⟩
        have eb : b = row := by simpa using hb
        subst eb
        rcases List.eq_nil_or_concat one with e | ⟨s, d, e⟩
        · rw [e] at ha
          simp at ha
        · have e' : one = s ++ [d] := e.trans (List.concat_eq_append)
          have hf : firstV rows one = rows.findIdx (fun x => decide (x = d)) := by
            unfold firstV
            rw [e', getLast_snoc]
          have hd : d ∈ rows := H.mem d (by rw [e']; simp)
          have h1 : numV d ≤ numV b := drop_le pw (find_at hd) (by rw [← hf]; exact hrow)
          rw [e'] at ha
          rcases List.mem_append.mp ha with h | h
          · have up := H.up
            rw [e', List.pairwise_append] at up
            have := up.2.2 a h d List.mem_cons_self
            omega
          · have : a = d := by simpa using h
            rw [this]
            exact h1
    · rintro ⟨h1, h2, h3⟩
      obtain ⟨s, d, e, hs⟩ := snoc_of h1
      subst e
      rw [List.pairwise_append] at h3
      refine ⟨s, (mem_risV pw m s).mpr ⟨hs, fun r hr => h2 r (List.mem_append_left _ hr), h3.1⟩, List.mem_map.mpr ⟨d, ?_, rfl⟩⟩
      have hd : d ∈ rows := h2 d (by simp)
      rcases List.eq_nil_or_concat s with e | ⟨t, x, e⟩
      · unfold firstV
        rw [e]
        exact hd
      · have e' : s = t ++ [x] := e.trans (List.concat_eq_append)
        have hf : firstV rows s = rows.findIdx (fun y => decide (y = x)) := by
          unfold firstV
          rw [e', getLast_snoc]
        rw [hf]
        refine mem_drop pw (find_at (h2 x (by rw [e']; simp))) hd (h3.2.2 x (by rw [e']; simp) d List.mem_cons_self)
theorem risV_len (rows : List (List Int)) (R : Nat) (h : rows.length ≤ R) : ∀ m, (risV rows m).length ≤ R ^ m
  | 0 => by simp [risV]
  | m + 1 => by
    unfold risV
    rw [List.length_flatMap]
    have ih := risV_len rows R h m
    have key : ∀ l : List (List (List Int)), (l.map fun one => ((rows.drop (firstV rows one)).map fun row => one ++ [row]).length).sum ≤ l.length * R := by
      intro l
      induction l with
      | nil => simp
      | cons a r ih2 =>
        rw [List.map_cons, List.sum_cons, List.length_cons, Nat.succ_mul]
        have : ((rows.drop (firstV rows a)).map fun row => a ++ [row]).length ≤ R := by
          rw [List.length_map, List.length_drop]
          omega
        omega
    refine Nat.le_trans (key _) ?_
    rw [Nat.pow_succ]
    exact Nat.mul_le_mul_right _ ih
end Dg
namespace Dg
def rowV (rows : List (List Int)) (k : List Int) : List Int := (List.range k.length).map fun i => (rows.getD (k.getD i 0).toNat []).getD i 0
def digV (rows : List (List Int)) (i v : Nat) : Int := (rows.getD (min v (rows.length - 1)) []).getD i 0
def verV (k : List Int) (i : Nat) : Nat := (k.getD i 0).toNat
structure InV (k : List Int) (m : Nat) : Prop where
  lo : ∀ i, 0 ≤ k.getD i 0
  hi : ∀ i, k.getD i 0 ≤ (m : Int)
theorem num_row {rows : List (List Int)} {k : List Int} {m : Nat} (h : InV k m) (hr : rows.length = m + 1) : ∀ n, n ≤ k.length →
    numV ((List.range n).map fun i => (rows.getD (k.getD i 0).toNat []).getD i 0) = redP (digV rows) (verV k) n
  | 0, _ => rfl
  | n + 1, hn => by
    rw [List.range_succ, List.map_append, List.map_cons, List.map_nil, numV_snoc, num_row h hr n (by omega)]
    have h1 := h.lo n
    have h2 := h.hi n
    have e : min (verV k n) (rows.length - 1) = (k.getD n 0).toNat := by
      unfold verV
      omega
    show _ = 2 * redP (digV rows) (verV k) n + digV rows n (verV k n)
    unfold digV
    rw [e]
theorem num_row' {rows : List (List Int)} {k : List Int} {m : Nat} (h : InV k m) (hr : rows.length = m + 1) : numV (rowV rows k) = redP (digV rows) (verV k) k.length := num_row h hr _ (Nat.le_refl _)
theorem getD_bits {n : Nat} {r : List Int} (h : IsBits n r) (i : Nat) : 0 ≤ r.getD i 0 ∧ r.getD i 0 ≤ 1 := by
  rw [List.getD_eq_getElem?_getD]
  cases e : r[i]? with
  | none => simp
  | some d =>
    have := h.2 d (List.mem_of_getElem? e)
    simp only [Option.getD_some]
    omega
theorem dig_row {rows : List (List Int)} {m : Nat} (hr : rows.length = m + 1) (v : Nat) : ∃ r, r ∈ rows ∧ (∀ i, digV rows i v = r.getD i 0) ∧ rows[min v (rows.length - 1)]? = some r := by
  have hlt : min v (rows.length - 1) < rows.length := by omega
  refine ⟨rows[min v (rows.length - 1)], List.getElem_mem hlt, fun i => ?_, List.getElem?_eq_getElem hlt⟩
  unfold digV
  rw [List.getD_eq_getElem?_getD (l := rows), List.getElem?_eq_getElem hlt]
  rfl
theorem pre_num {g : Nat → Nat → Int} {r : List Int} {v : Nat} (h : ∀ i, g i v = r.getD i 0) : ∀ n, n ≤ r.length → preP g n v = numV (r.take n)
  | 0, _ => rfl
  | n + 1, hn => by
    have hlt : n < r.length := by omega
    have e : r.take (n + 1) = r.take n ++ [r.getD n 0] := by
      rw [List.take_add_one, List.getElem?_eq_getElem hlt, List.getD_eq_getElem?_getD, List.getElem?_eq_getElem hlt]
      rfl
    rw [e, numV_snoc, ← pre_num h n (by omega)]
    show 2 * preP g n v + g n v = _
    rw [h]
theorem ris_mono {n m : Nat} {rows : List (List Int)} (R : IsRis (rowsV n) (m + 1) rows) : ∀ i v w, i ≤ n → v ≤ w → preP (digV rows) i v ≤ preP (digV rows) i w := by
  have B : Bits (digV rows) := by
    constructor
    · intro i v
      obtain ⟨r, hr, hd, _⟩ := dig_row R.len v
      rw [hd]
      exact (getD_bits ((mem_rowsV n r).mp (R.mem r hr)) i).1
    · intro i v
      obtain ⟨r, hr, hd, _⟩ := dig_row R.len v
      rw [hd]
      exact (getD_bits ((mem_rowsV n r).mp (R.mem r hr)) i).2
  intro i v w hi hvw
  refine preP_mono B n i hi ?_
  obtain ⟨r, hr, hd, e1⟩ := dig_row R.len v
  obtain ⟨s, hs, hd2, e2⟩ := dig_row R.len w
  have lr := ((mem_rowsV n r).mp (R.mem r hr)).1
  have ls := ((mem_rowsV n s).mp (R.mem s hs)).1
  rw [pre_num hd n (by omega), pre_num hd2 n (by omega), List.take_of_length_le (by omega), List.take_of_length_le (by omega)]
  by_cases e : min v (rows.length - 1) = min w (rows.length - 1)
  · rw [e, e2] at e1
    have := Option.some.inj e1
    rw [this]
    exact Int.le_refl _
  · have up := List.pairwise_iff_getElem.mp R.up (min v (rows.length - 1)) (min w (rows.length - 1)) (List.getElem?_eq_some_iff.mp e1).1 (List.getElem?_eq_some_iff.mp e2).1 (by omega)
    rw [(List.getElem?_eq_some_iff.mp e1).2, (List.getElem?_eq_some_iff.mp e2).2] at up
    exact up
theorem ris_bits {n m : Nat} {rows : List (List Int)} (R : IsRis (rowsV n) (m + 1) rows) : Bits (digV rows) := by
  constructor
  · intro i v
    obtain ⟨r, hr, hd, _⟩ := dig_row R.len v
    rw [hd]
    exact (getD_bits ((mem_rowsV n r).mp (R.mem r hr)) i).1
  · intro i v
    obtain ⟨r, hr, hd, _⟩ := dig_row R.len v
    rw [hd]
    exact (getD_bits ((mem_rowsV n r).mp (R.mem r hr)) i).2
theorem some_none {α : Type} {f : Nat → Option α} {n : Nat} (h : (List.range n).findSome? f = none) : ∀ i, i < n → f i = none := by
  intro i hi
  rw [List.findSome?_eq_none_iff] at h
  exact h i (List.mem_range.mpr hi)
theorem some_some {α : Type} {f : Nat → Option α} {n : Nat} {x : α} (h : (List.range n).findSome? f = some x) : ∃ i, i < n ∧ f i = some x := by
  obtain ⟨i, hi, e⟩ := List.exists_of_findSome?_eq_some h
  exact ⟨i, List.mem_range.mp hi, e⟩
theorem fault_none {k l : List Int} (h : faultV k l = none) : (∀ i, i < k.length → k.getD i 0 ≤ l.getD i 0) ∧ ∀ d, d < k.length → ∀ c, c < d → carryV k l c d = none := by
  unfold faultV at h
  cases hs : stepV k l k.length with
  | some x =>
    rw [hs] at h
    cases h
  | none =>
    rw [hs] at h
    refine ⟨fun i hi => ?_, fun d hd c hc => ?_⟩
    · have := some_none hs i hi
      by_cases e : k.getD i 0 > l.getD i 0
      · rw [if_pos e] at this
        cases this
      · omega
    · have h1 : pairV k l d d = none := some_none h d hd
      have h2 := some_none h1 c hc
      cases e : carryV k l c d with
      | none => rfl
      | some p =>
        rw [e] at h2
        cases h2
theorem carry_none {k l : List Int} {c d : Nat} (h : carryV k l c d = none) : k.getD d 0 = l.getD d 0 ∨ (k.getD c 0 ≤ k.getD d 0 ∧ l.getD d 0 ≤ l.getD c 0) := by
  unfold carryV at h
  by_cases e : k.getD d 0 = l.getD d 0
  · exact .inl e
  · rw [if_neg e] at h
    by_cases e1 : k.getD c 0 > k.getD d 0
    · rw [if_pos e1] at h
      cases h
    · rw [if_neg e1] at h
      by_cases e2 : l.getD d 0 > l.getD c 0
      · rw [if_pos e2] at h
        cases h
      · exact .inr ⟨by omega, by omega⟩
theorem fault_none_le {n m : Nat} {k l : List Int} {rows : List (List Int)} (hk : InV k m) (hl : InV l m) (nk : k.length = n) (nl : l.length = n) (h : faultV k l = none) (R : IsRis (rowsV n) (m + 1) rows) : numV (rowV rows k) ≤ numV (rowV rows l) := by
  rw [num_row' hk R.len, num_row' hl R.len, nk, nl]
  obtain ⟨h1, h2⟩ := fault_none h
  have C : Crit (verV k) (verV l) n := by
    constructor
    · intro i hi
      have := h1 i (by omega)
      unfold verV
      omega
    · intro i hi
      unfold verV
      have a1 := hk.lo (i + 1)
      have a2 := hl.lo (i + 1)
      rcases carry_none (h2 (i + 1) (by omega) i (by omega)) with e | ⟨e1, e2⟩
      · left
        rw [e]
      · right
        omega
  rcases crit_le (ris_bits R) C (ris_mono R) n (Nat.le_refl _) with e | ⟨e, _⟩ <;> omega
theorem gt_up {g : Nat → Nat → Int} (B : Bits g) {k l : Nat → Nat} {i : Nat} (h : redP g l i < redP g k i) : ∀ n, i ≤ n → redP g l n < redP g k n
  | 0, hn => by
    have : i = 0 := by omega
    subst this
    exact h
  | n + 1, hn => by
    by_cases e : i = n + 1
    · subst e
      exact h
    · have ih := gt_up B h n (by omega)
      have b1 := B.hi n (l n)
      have b2 := B.lo n (k n)
      show 2 * redP g l n + g n (l n) < 2 * redP g k n + g n (k n)
      omega
theorem eq_up {g : Nat → Nat → Int} {k l : Nat → Nat} {i : Nat} (h : redP g k i = redP g l i) : ∀ n, i ≤ n → (∀ j, i ≤ j → j < n → g j (k j) = g j (l j)) → redP g k n = redP g l n
  | 0, hn, _ => by
    have : i = 0 := by omega
    subst this
    exact h
  | n + 1, hn, hd => by
    by_cases e : i = n + 1
    · subst e
      exact h
    · have ih := eq_up h n (by omega) fun j a b => hd j a (by omega)
      show 2 * redP g k n + g n (k n) = 2 * redP g l n + g n (l n)
      rw [ih, hd n (by omega) (by omega)]
def lowV (n : Nat) (cs : List Int) : List Int := if cs.length = 2 then (List.replicate n 0).set (cs.getD 1 0).toNat 1 else List.replicate n 0
def highV (n : Nat) (cs : List Int) : List Int := (List.replicate n 0).set (cs.getD 0 0).toNat 1
def turnV (n : Nat) (cs : List Int) (p last : Int) : List (List Int) := List.replicate p.toNat (lowV n cs) ++ List.replicate (last + 1 - p).toNat (highV n cs)
theorem set_bits (n j : Nat) : IsBits n ((List.replicate n (0 : Int)).set j 1) := by
  refine ⟨by simp, fun d hd => ?_⟩
  rcases List.mem_or_eq_of_mem_set hd with h | h
  · left
    exact (List.mem_replicate.mp h).2
  · right
    exact h
theorem zero_bits (n : Nat) : IsBits n (List.replicate n (0 : Int)) := ⟨by simp, fun d hd => .inl (List.mem_replicate.mp hd).2⟩
theorem low_bits (n : Nat) (cs : List Int) : IsBits n (lowV n cs) := by
  unfold lowV
  split
  · exact set_bits n _
  · exact zero_bits n
theorem getD_set0 (n j i : Nat) (hj : j < n) : ((List.replicate n (0 : Int)).set j 1).getD i 0 = if i = j then 1 else 0 := by
  rw [List.getD_eq_getElem?_getD]
  by_cases e : i = j
  · subst e
    rw [if_pos rfl, List.getElem?_set_self (by simpa using hj)]
    rfl
  · rw [if_neg e, List.getElem?_set_ne (fun z => e z.symm)]
    rw [List.getElem?_replicate]
    split <;> rfl
theorem getD_zero (n i : Nat) : (List.replicate n (0 : Int)).getD i 0 = 0 := by
  rw [List.getD_eq_getElem?_getD, List.getElem?_replicate]
  split <;> rfl
theorem turn_len {n : Nat} {cs : List Int} {p last : Int} (h0 : 0 ≤ p) (h1 : p ≤ last) : (turnV n cs p last).length = last.toNat + 1 := by
  unfold turnV
  rw [List.length_append, List.length_replicate, List.length_replicate]
  omega
theorem turn_at {n : Nat} {cs : List Int} {p last : Int} (h0 : 0 ≤ p) (h1 : p ≤ last) (v : Nat) (hv : v ≤ last.toNat) : (turnV n cs p last).getD v [] = if (v : Int) < p then lowV n cs else highV n cs := by
  unfold turnV
  rw [List.getD_eq_getElem?_getD, List.getElem?_append, List.length_replicate]
  by_cases e : v < p.toNat
  · rw [if_pos e, List.getElem?_replicate, if_pos e, if_pos (by omega)]
    rfl
  · rw [if_neg e, List.getElem?_replicate, if_pos (by omega), if_neg (by omega)]
    rfl
theorem turn_dig {n : Nat} {cs : List Int} {p last : Int} (h0 : 0 ≤ p) (h1 : p ≤ last) (i v : Nat) (hv : v ≤ last.toNat) : digV (turnV n cs p last) i v = if (v : Int) < p then (lowV n cs).getD i 0 else (highV n cs).getD i 0 := by
  unfold digV
  rw [turn_len h0 h1, show min v (last.toNat + 1 - 1) = v by omega, turn_at h0 h1 v hv]
  split <;> rfl
theorem fault_some {n m : Nat} {k l : List Int} {cs : List Int} {p : Int} (hk : InV k m) (hl : InV l m) (nk : k.length = n) (nl : l.length = n) (h : faultV k l = some (cs, p)) :
    (1 ≤ p ∧ p ≤ m) ∧ ((∃ c : Nat, c < n ∧ cs = [(c : Int)] ∧ p ≤ k.getD c 0 ∧ l.getD c 0 < p) ∨
      ∃ c d : Nat, c < d ∧ d < n ∧ cs = [(c : Int), (d : Int)] ∧ k.getD d 0 < p ∧ p ≤ l.getD d 0 ∧ k.getD c 0 ≤ l.getD c 0 ∧ (p ≤ k.getD c 0 ∨ l.getD c 0 < p)) := by
  unfold faultV at h
  cases hs : stepV k l k.length with
  | some x =>
    rw [hs] at h
    obtain ⟨i, hi, e⟩ := some_some hs
    have hx : x = (cs, p) := Option.some.inj h
    by_cases g : k.getD i 0 > l.getD i 0
    · rw [if_pos g] at e
      have e2 := (Option.some.inj e).trans hx
      have c1 : [(i : Int)] = cs := congrArg Prod.fst e2
      have c2 : k.getD i 0 = p := congrArg Prod.snd e2
      have a1 := hl.lo i
      have a2 := hk.hi i
      exact ⟨⟨by omega, by omega⟩, .inl ⟨i, by omega, c1.symm, by omega, by omega⟩⟩
    · rw [if_neg g] at e
      cases e
  | none =>
    rw [hs] at h
    have hle : ∀ i, i < k.length → k.getD i 0 ≤ l.getD i 0 := fun i hi => by
      have := some_none hs i hi
      by_cases e : k.getD i 0 > l.getD i 0
      · rw [if_pos e] at this
        cases this
      · omega
    obtain ⟨d, hd, h1⟩ := some_some (show (List.range k.length).findSome? (fun d => pairV k l d d) = some (cs, p) from h)
    obtain ⟨c, hc, h2⟩ := some_some (show (List.range d).findSome? (fun c => (carryV k l c d).map fun p => ([(c : Int), (d : Int)], p)) = some (cs, p) from h1)
    have q1 := hle d hd
    have q2 := hle c (by omega)
    have a1 := hk.lo d
    have a2 := hl.hi d
    have a3 := hk.lo c
    cases e : carryV k l c d with
    | none =>
      rw [e] at h2
      cases h2
    | some q =>
      rw [e] at h2
      have e2 : (([(c : Int), (d : Int)], q) : List Int × Int) = (cs, p) := Option.some.inj h2
      have c1 : [(c : Int), (d : Int)] = cs := congrArg Prod.fst e2
      have c2 : q = p := congrArg Prod.snd e2
      subst c2
      unfold carryV at e
      by_cases g0 : k.getD d 0 = l.getD d 0
      · rw [if_pos g0] at e
        cases e
      · rw [if_neg g0] at e
        by_cases g1 : k.getD c 0 > k.getD d 0
        · rw [if_pos g1] at e
          have := Option.some.inj e
          exact ⟨⟨by omega, by omega⟩, .inr ⟨c, d, hc, by omega, c1.symm, by omega, by omega, q2, .inl (by omega)⟩⟩
        · rw [if_neg g1] at e
          by_cases g2 : l.getD d 0 > l.getD c 0
          · rw [if_pos g2] at e
            have := Option.some.inj e
            exact ⟨⟨by omega, by omega⟩, .inr ⟨c, d, hc, by omega, c1.symm, by omega, by omega, q2, .inr (by omega)⟩⟩
          · rw [if_neg g2] at e
            cases e
theorem red_zero {g : Nat → Nat → Int} {k : Nat → Nat} : ∀ n, (∀ i, i < n → g i (k i) = 0) → redP g k n = 0
  | 0, _ => rfl
  | n + 1, h => by
    show 2 * redP g k n + g n (k n) = 0
    rw [red_zero n fun i hi => h i (by omega), h n (by omega)]
    rfl
theorem turn_bits {n : Nat} {cs : List Int} {p last : Int} : Bits (digV (turnV n cs p last)) := by
  have key : ∀ i v, 0 ≤ digV (turnV n cs p last) i v ∧ digV (turnV n cs p last) i v ≤ 1 := by
    intro i v
    unfold digV
    have : ∀ r, r ∈ turnV n cs p last → IsBits n r := by
      intro r hr
      unfold turnV at hr
      rcases List.mem_append.mp hr with h | h
      · rw [(List.mem_replicate.mp h).2]
        exact low_bits n cs
      · rw [(List.mem_replicate.mp h).2]
        exact set_bits n _
    rw [List.getD_eq_getElem?_getD (l := turnV n cs p last)]
    cases e : (turnV n cs p last)[min v ((turnV n cs p last).length - 1)]? with
    | none => simp
    | some r => exact getD_bits (this r (List.mem_of_getElem? e)) i
  exact ⟨fun i v => (key i v).1, fun i v => (key i v).2⟩
theorem fault_gt {n m : Nat} {k l : List Int} {cs : List Int} {p : Int} {last : Int} (hk : InV k m) (hl : InV l m) (nk : k.length = n) (nl : l.length = n) (h : faultV k l = some (cs, p))
    (hm : last = (m : Int)) : numV (rowV (turnV n cs p last) l) < numV (rowV (turnV n cs p last) k) := by
  subst hm
  obtain ⟨⟨p1, p2⟩, hc⟩ := fault_some hk hl nk nl h
  have tl : (turnV n cs p (m : Int)).length = m + 1 := by
    rw [turn_len (by omega) p2]
    rfl
  rw [num_row' hl tl, num_row' hk tl, nk, nl]
  have dk : ∀ i, digV (turnV n cs p (m : Int)) i (verV k i) = if k.getD i 0 < p then (lowV n cs).getD i 0 else (highV n cs).getD i 0 := fun i => by
    have a1 := hk.lo i
    have a2 := hk.hi i
    rw [turn_dig (by omega) p2 i _ (by unfold verV; omega)]
    have e : ((verV k i : Nat) : Int) = k.getD i 0 := by
      unfold verV
      omega
    rw [e]
  have dl : ∀ i, digV (turnV n cs p (m : Int)) i (verV l i) = if l.getD i 0 < p then (lowV n cs).getD i 0 else (highV n cs).getD i 0 := fun i => by
    have a1 := hl.lo i
    have a2 := hl.hi i
    rw [turn_dig (by omega) p2 i _ (by unfold verV; omega)]
    have e : ((verV l i : Nat) : Int) = l.getD i 0 := by
      unfold verV
      omega
    rw [e]
  rcases hc with ⟨c, hcn, ecs, h1, h2⟩ | ⟨c, d, hcd, hdn, ecs, h1, h2, h3, h4⟩
  · have lo0 : ∀ i, (lowV n cs).getD i 0 = 0 := fun i => by
      unfold lowV
      rw [ecs, if_neg (by simp)]
      exact getD_zero n i
    have hi0 : ∀ i, (highV n cs).getD i 0 = if i = c then 1 else 0 := fun i => by
      unfold highV
      rw [ecs]
      exact getD_set0 n c i hcn
    have z1 : redP (digV (turnV n cs p (m : Int))) (verV k) c = redP (digV (turnV n cs p (m : Int))) (verV l) c := by
      rw [red_zero c fun i hi => by
        rw [dk, lo0, hi0, if_neg (show ¬ i = c by omega)]
        split <;> rfl]
      rw [red_zero c fun i hi => by
        rw [dl, lo0, hi0, if_neg (show ¬ i = c by omega)]
        split <;> rfl]
    refine gt_up turn_bits (i := c + 1) ?_ n (by omega)
    show 2 * redP _ (verV l) c + digV _ c (verV l c) < 2 * redP _ (verV k) c + digV _ c (verV k c)
    rw [z1, dk, dl, lo0, hi0, if_pos rfl, if_pos h2, if_neg (by omega)]
    omega
  · have hi0 : ∀ i, (highV n cs).getD i 0 = if i = c then 1 else 0 := fun i => by
      unfold highV
      rw [ecs]
      exact getD_set0 n c i (by omega)
    have lo0 : ∀ i, (lowV n cs).getD i 0 = if i = d then 1 else 0 := fun i => by
      unfold lowV
      rw [ecs, if_pos (by simp)]
      exact getD_set0 n d i hdn
    have z1 : redP (digV (turnV n cs p (m : Int))) (verV k) c = redP (digV (turnV n cs p (m : Int))) (verV l) c := by
      rw [red_zero c fun i hi => by
        rw [dk, lo0, hi0, if_neg (show ¬ i = c by omega), if_neg (show ¬ i = d by omega)]
        split <;> rfl]
      rw [red_zero c fun i hi => by
        rw [dl, lo0, hi0, if_neg (show ¬ i = c by omega), if_neg (show ¬ i = d by omega)]
        split <;> rfl]
    have ck : digV (turnV n cs p (m : Int)) c (verV k c) = if k.getD c 0 < p then 0 else 1 := by
      rw [dk, lo0, hi0, if_pos rfl, if_neg (show ¬ c = d by omega)]
    have cl : digV (turnV n cs p (m : Int)) c (verV l c) = if l.getD c 0 < p then 0 else 1 := by
      rw [dl, lo0, hi0, if_pos rfl, if_neg (show ¬ c = d by omega)]
    by_cases e : (l.getD c 0 < p ∧ p ≤ k.getD c 0)
    · omega
    · by_cases e2 : digV (turnV n cs p (m : Int)) c (verV k c) = digV (turnV n cs p (m : Int)) c (verV l c)
      · have z2 : redP (digV (turnV n cs p (m : Int))) (verV k) d = redP (digV (turnV n cs p (m : Int))) (verV l) d := by
          refine eq_up z1 d (by omega) fun j hj hj2 => ?_
          by_cases ej : j = c
          · rw [ej]
            exact e2
          · rw [dk, dl, lo0, hi0, if_neg ej, if_neg (show ¬ j = d by omega)]
            split <;> split <;> rfl
        refine gt_up turn_bits (i := d + 1) ?_ n (by omega)
        show 2 * redP _ (verV l) d + digV _ d (verV l d) < 2 * redP _ (verV k) d + digV _ d (verV k d)
        rw [z2, dk, dl, lo0, hi0, if_pos rfl, if_neg (show ¬ d = c by omega), if_pos h1, if_neg (show ¬ l.getD d 0 < p by omega)]
        omega
      · exfalso
        rw [ck, cl] at e2
        rcases h4 with h | h
        · rw [if_neg (by omega), if_neg (by omega)] at e2
          exact e2 rfl
        · rw [if_pos (show k.getD c 0 < p by omega), if_pos h] at e2
          exact e2 rfl
theorem numV_le_of {n : Nat} {cs : List Int} (h : numV (lowV n cs) ≤ numV (highV n cs)) {p last : Int} : (turnV n cs p last).Pairwise fun a b => numV a ≤ numV b := by
  unfold turnV
  rw [List.pairwise_append]
  refine ⟨?_, ?_, fun a ha b hb => ?_⟩
  · rw [List.pairwise_replicate]
    exact .inr (Int.le_refl _)
  · rw [List.pairwise_replicate]
    exact .inr (Int.le_refl _)
  · rw [(List.mem_replicate.mp ha).2, (List.mem_replicate.mp hb).2]
    exact h
end Dg
namespace Dg
theorem red_const (g : Nat → Nat → Int) (v : Nat) : ∀ n, redP g (fun _ => v) n = preP g n v
  | 0 => rfl
  | n + 1 => by
    show 2 * redP g (fun _ => v) n + g n v = 2 * preP g n v + g n v
    rw [red_const g v n]
theorem num_two {n : Nat} {r s : List Int} (hr : IsBits n r) (hs : IsBits n s) {c : Nat} (hc : c < n) (heq : ∀ i, i < c → r.getD i 0 = s.getD i 0) (hlt : r.getD c 0 < s.getD c 0) : numV r ≤ numV s := by
  have B : Bits (fun i v => if v = 0 then r.getD i 0 else s.getD i 0) := by
    constructor
    · intro i v
      show (0 : Int) ≤ if v = 0 then _ else _
      split
      · exact (getD_bits hr i).1
      · exact (getD_bits hs i).1
    · intro i v
      show (if v = 0 then _ else _) ≤ (1 : Int)
      split
      · exact (getD_bits hr i).2
      · exact (getD_bits hs i).2
  have e1 : preP (fun i v => if v = 0 then r.getD i 0 else s.getD i 0) n 0 = numV r := by
    rw [pre_num (r := r) (fun i => if_pos rfl) n (by rw [hr.1]; exact Nat.le_refl _), List.take_of_length_le (by rw [hr.1]; exact Nat.le_refl _)]
  have e2 : preP (fun i v => if v = 0 then r.getD i 0 else s.getD i 0) n 1 = numV s := by
    rw [pre_num (r := s) (fun i => if_neg (by decide)) n (by rw [hs.1]; exact Nat.le_refl _), List.take_of_length_le (by rw [hs.1]; exact Nat.le_refl _)]
  have z : redP (fun i v => if v = 0 then r.getD i 0 else s.getD i 0) (fun _ => 1) c = redP (fun i v => if v = 0 then r.getD i 0 else s.getD i 0) (fun _ => 0) c :=
    eq_up (i := 0) (k := fun _ => 1) (l := fun _ => 0) rfl c (Nat.zero_le _) fun j _ hj => (heq j hj).symm
  have h := gt_up B (k := fun _ => 1) (l := fun _ => 0) (i := c + 1) (by
    show 2 * redP _ (fun _ => 0) c + r.getD c 0 < 2 * redP _ (fun _ => 1) c + s.getD c 0
    rw [z]
    omega) n (by omega)
  rw [red_const, red_const, e1, e2] at h
  omega
theorem turn_ris {n m : Nat} {k l : List Int} {cs : List Int} {p : Int} (hk : InV k m) (hl : InV l m) (nk : k.length = n) (nl : l.length = n) (h : faultV k l = some (cs, p)) : IsRis (rowsV n) (m + 1) (turnV n cs p (m : Int)) := by
  obtain ⟨⟨p1, p2⟩, hc⟩ := fault_some hk hl nk nl h
  refine ⟨?_, fun r hr => ?_, numV_le_of ?_⟩
  · rw [turn_len (by omega) p2]
    rfl
  · rw [mem_rowsV]
    unfold turnV at hr
    rcases List.mem_append.mp hr with h | h
    · rw [(List.mem_replicate.mp h).2]
      exact low_bits n cs
    · rw [(List.mem_replicate.mp h).2]
      exact set_bits n _
  · rcases hc with ⟨c, hcn, ecs, _⟩ | ⟨c, d, hcd, hdn, ecs, _⟩
    · refine num_two (low_bits n cs) (set_bits n _) hcn (fun i hi => ?_) ?_
      · unfold lowV
        rw [ecs, if_neg (by simp), getD_zero]
        show 0 = ((List.replicate n (0 : Int)).set c 1).getD i 0
        rw [getD_set0 n c i hcn, if_neg (by omega)]
      · unfold lowV
        rw [ecs, if_neg (by simp), getD_zero]
        show 0 < ((List.replicate n (0 : Int)).set c 1).getD c 0
        rw [getD_set0 n c c hcn, if_pos rfl]
        decide
    · refine num_two (low_bits n cs) (set_bits n _) (c := c) (by omega) (fun i hi => ?_) ?_
      · unfold lowV
        rw [ecs, if_pos (by simp)]
        show ((List.replicate n (0 : Int)).set d 1).getD i 0 = ((List.replicate n (0 : Int)).set c 1).getD i 0
        rw [getD_set0 n d i hdn, getD_set0 n c i (by omega), if_neg (by omega), if_neg (by omega)]
      · unfold lowV
        rw [ecs, if_pos (by simp)]
        show ((List.replicate n (0 : Int)).set d 1).getD c 0 < ((List.replicate n (0 : Int)).set c 1).getD c 0
        rw [getD_set0 n d c hdn, getD_set0 n c c (by omega), if_neg (by omega), if_pos rfl]
        decide
theorem fault_iff {n m : Nat} {k l : List Int} (hk : InV k m) (hl : InV l m) (nk : k.length = n) (nl : l.length = n) :
    faultV k l = none ↔ ((risV (rowsV n) (m + 1)).filter fun rows => !decide (numV (rowV rows k) ≤ numV (rowV rows l))) = [] := by
  constructor
  · intro h
    rw [List.filter_eq_nil_iff]
    intro rows hr
    have R := (mem_risV (rowsV_pw n) (m + 1) rows).mp hr
    have := fault_none_le hk hl nk nl h R
    simp [this]
  · intro h
    cases e : faultV k l with
    | none => rfl
    | some x =>
      obtain ⟨cs, p⟩ := x
      exfalso
      have R := turn_ris hk hl nk nl e
      have hm := (mem_risV (rowsV_pw n) (m + 1) _).mpr R
      have := fault_gt hk hl nk nl e (last := (m : Int)) rfl
      rw [List.filter_eq_nil_iff] at h
      have h2 := h _ hm
      simp at h2
      omega
def codeV (v : List Int) (c d : Nat) (p : Int) : Int := 2 * (if p ≤ v.getD c 0 then 1 else 0) + (if v.getD d 0 < p then 1 else 0)
def putPair (k l : List Int) (d c : Nat) : Bool := decide (codeV k c d (k.getD d 0 + 1) > codeV l c d (k.getD d 0 + 1)) || decide (codeV k c d (l.getD d 0) > codeV l c d (l.getD d 0))
def putCell (k l : List Int) (d : Nat) : Bool := decide (k.getD d 0 > l.getD d 0) || (List.range d).any (putPair k l d)
def putV (k l : List Int) : Bool := (List.range k.length).any (putCell k l)
theorem put_pair {k l : List Int} {c d : Nat} (hc : k.getD c 0 ≤ l.getD c 0) (hd : k.getD d 0 ≤ l.getD d 0) : putPair k l d c = (carryV k l c d).isSome := by
  unfold putPair codeV carryV
  by_cases e : k.getD d 0 = l.getD d 0
  · rw [if_pos e, e]
    rw [Bool.or_eq_false_iff.mpr ⟨decide_eq_false ?_, decide_eq_false ?_⟩]
    · rfl
    · rw [if_pos (show l.getD d 0 < l.getD d 0 + 1 by omega)]
      split <;> split <;> omega
    · rw [if_neg (show ¬ l.getD d 0 < l.getD d 0 by omega)]
      split <;> split <;> omega
  · rw [if_neg e]
    have h1 : k.getD d 0 < l.getD d 0 := by omega
    rw [if_pos (show k.getD d 0 < k.getD d 0 + 1 by omega), if_neg (show ¬ l.getD d 0 < k.getD d 0 + 1 by omega), if_pos h1, if_neg (show ¬ l.getD d 0 < l.getD d 0 by omega)]
    by_cases e1 : k.getD c 0 > k.getD d 0
    · rw [if_pos e1, Bool.or_eq_true_iff.mpr (.inl (decide_eq_true ?_))]
      · rfl
      · rw [if_pos (show k.getD d 0 + 1 ≤ k.getD c 0 by omega)]
        split <;> omega
    · rw [if_neg e1]
      by_cases e2 : l.getD d 0 > l.getD c 0
      · rw [if_pos e2, Bool.or_eq_true_iff.mpr (.inr (decide_eq_true ?_))]
        · rfl
        · rw [if_neg (show ¬ l.getD d 0 ≤ l.getD c 0 by omega)]
          split <;> omega
      · rw [if_neg e2, Bool.or_eq_false_iff.mpr ⟨decide_eq_false ?_, decide_eq_false ?_⟩]
        · rfl
        · rw [if_neg (show ¬ k.getD d 0 + 1 ≤ k.getD c 0 by omega), if_pos (show k.getD d 0 + 1 ≤ l.getD c 0 by omega)]
          omega
        · rw [if_neg (show ¬ l.getD d 0 ≤ k.getD c 0 by omega), if_pos (show l.getD d 0 ≤ l.getD c 0 by omega)]
          omega
theorem put_is (k l : List Int) : putV k l = (faultV k l).isSome := by
  unfold putV faultV
  cases hs : stepV k l k.length with
  | some x =>
    obtain ⟨i, hi, e⟩ := some_some hs
    have g : k.getD i 0 > l.getD i 0 := by
      by_cases g : k.getD i 0 > l.getD i 0
      · exact g
      · rw [if_neg g] at e
        cases e
    show _ = true
    rw [List.any_eq_true]
    refine ⟨i, List.mem_range.mpr hi, ?_⟩
    unfold putCell
    rw [decide_eq_true g]
    rfl
  | none =>
    have hle : ∀ i, i < k.length → k.getD i 0 ≤ l.getD i 0 := fun i hi => by
      have := some_none hs i hi
      by_cases e : k.getD i 0 > l.getD i 0
      · rw [if_pos e] at this
        cases this
      · omega
    have key : ∀ d, d < k.length → putCell k l d = (pairV k l d d).isSome := fun d hd => by
      unfold putCell
      rw [decide_eq_false (by have := hle d hd; omega), Bool.false_or]
      have gen : ∀ n, n ≤ d → (List.range n).any (putPair k l d) = (pairV k l d n).isSome := by
        intro n
        induction n with
        | zero => intro _; rfl
        | succ n ih =>
          intro hn
          rw [List.range_succ, List.any_append, ih (by omega)]
          unfold pairV
          rw [range_some]
          rw [List.any_cons, List.any_nil, Bool.or_false, put_pair (hle n (by omega)) (hle d hd), Option.isSome_or, Option.isSome_map]
      exact gen d (Nat.le_refl _)
    have gen : ∀ n, n ≤ k.length → (List.range n).any (putCell k l) = (carriesV k l n).isSome := by
      intro n
      induction n with
      | zero => intro _; rfl
      | succ n ih =>
        intro hn
        rw [List.range_succ, List.any_append, ih (by omega)]
        unfold carriesV
        rw [range_some, List.any_cons, List.any_nil, Bool.or_false, key n (by omega), Option.isSome_or]
    exact gen _ (Nat.le_refl _)
theorem fault_self {k : List Int} : faultV k k = none := by
  have h : putV k k = false := by
    unfold putV
    rw [List.any_eq_false]
    intro d hd
    unfold putCell
    rw [decide_eq_false (Int.lt_irrefl _), Bool.false_or, Bool.not_eq_true, List.any_eq_false]
    intro c hc
    unfold putPair
    simp
  rw [put_is] at h
  cases e : faultV k k with
  | none => rfl
  | some x =>
    rw [e] at h
    cases h
end Dg
namespace Dg
theorem num_bound {n : Nat} {r : List Int} (h : IsBits n r) : ∀ i, i ≤ n → 0 ≤ numV (r.take i) ∧ numV (r.take i) < 2 ^ i
  | 0, _ => by
    simp [numV]
  | i + 1, hi => by
    have hlt : i < r.length := by rw [h.1]; omega
    have e : r.take (i + 1) = r.take i ++ [r.getD i 0] := by
      rw [List.take_add_one, List.getElem?_eq_getElem hlt, List.getD_eq_getElem?_getD, List.getElem?_eq_getElem hlt]
      rfl
    obtain ⟨h1, h2⟩ := num_bound h i (by omega)
    obtain ⟨b1, b2⟩ := getD_bits h i
    rw [e, numV_snoc, Int.pow_succ]
    omega
theorem take_snoc (r : List Int) (i : Nat) (h : i < r.length) : r.take (i + 1) = r.take i ++ [r.getD i 0] := by
  rw [List.take_add_one, List.getElem?_eq_getElem h, List.getD_eq_getElem?_getD, List.getElem?_eq_getElem h]
  rfl
theorem pow60 {i : Nat} {x : Int} (hi : i ≤ 60) (h0 : 0 ≤ x) (h : x < 2 ^ i) : x.natAbs < 2 ^ 60 := by
  have h1 : x.natAbs < 2 ^ i := by
    have : (x.natAbs : Int) = x := Int.natAbs_of_nonneg h0
    have h2 : ((x.natAbs : Nat) : Int) < ((2 ^ i : Nat) : Int) := by
      rw [this]
      simpa using h
    exact Int.ofNat_lt.mp h2
  exact Nat.lt_of_lt_of_le h1 (Nat.pow_le_pow_right (by decide) hi)
theorem row_bits {n m : Nat} {rows : List (List Int)} {k : List Int} (h : InV k m) (R : IsRis (rowsV n) (m + 1) rows) (nk : k.length = n) : IsBits n (rowV rows k) := by
  refine ⟨by unfold rowV; rw [List.length_map, List.length_range, nk], fun d hd => ?_⟩
  unfold rowV at hd
  obtain ⟨i, hi, rfl⟩ := List.mem_map.mp hd
  have h1 := h.lo i
  have h2 := h.hi i
  have hlt : (k.getD i 0).toNat < rows.length := by rw [R.len]; omega
  have hr : rows.getD (k.getD i 0).toNat [] ∈ rows := by
    rw [List.getD_eq_getElem?_getD, List.getElem?_eq_getElem hlt]
    exact List.getElem_mem hlt
  have b := (mem_rowsV n _).mp (R.mem _ hr)
  have := getD_bits b i
  omega
theorem flat_take {α β : Type} (f : α → List β) (l : List α) (i : Nat) (x : α) (h : l[i]? = some x) : (l.take (i + 1)).flatMap f = (l.take i).flatMap f ++ f x := by
  rw [List.take_add_one, h, List.flatMap_append]
  simp
end Dg
namespace Dg
theorem any_at {f : Nat → Bool} {n i : Nat} (h : i < n) (e : f i = true) : (List.range n).any f = true := List.any_eq_true.mpr ⟨i, List.mem_range.mpr h, e⟩
theorem any_next {f : Nat → Bool} {n : Nat} (h : (List.range n).any f = false) (e : f n = false) : (List.range (n + 1)).any f = false := by
  rw [List.range_succ, List.any_append, h, List.any_cons, e]
  rfl
theorem ite_dec {q : Prop} [Decidable q] : (if decide q = true then (1 : Int) else 0) = if q then 1 else 0 := by
  by_cases h : q <;> simp [h]
theorem put_first {k l : List Int} {c d : Nat} (h : codeV k c d (k.getD d 0 + 1) > codeV l c d (k.getD d 0 + 1)) : putPair k l d c = true := by
  unfold putPair
  rw [decide_eq_true h]
  rfl
theorem put_second {k l : List Int} {c d : Nat} (h : codeV k c d (l.getD d 0) > codeV l c d (l.getD d 0)) : putPair k l d c = true := by
  unfold putPair
  rw [decide_eq_true h, Bool.or_true]
theorem put_not {k l : List Int} {c d : Nat} (h1 : ¬ codeV k c d (k.getD d 0 + 1) > codeV l c d (k.getD d 0 + 1)) (h2 : ¬ codeV k c d (l.getD d 0) > codeV l c d (l.getD d 0)) : putPair k l d c = false := by
  unfold putPair
  rw [decide_eq_false h1, decide_eq_false h2]
  rfl
theorem put_cell_gt {k l : List Int} {d : Nat} (h : k.getD d 0 > l.getD d 0) : putCell k l d = true := by
  unfold putCell
  rw [decide_eq_true h]
  rfl
theorem put_cell_pair {k l : List Int} {c d : Nat} (hc : c < d) (h : putPair k l d c = true) : putCell k l d = true := by
  unfold putCell
  rw [any_at hc h, Bool.or_true]
theorem put_cell_not {k l : List Int} {d : Nat} (h1 : ¬ k.getD d 0 > l.getD d 0) (h2 : (List.range d).any (putPair k l d) = false) : putCell k l d = false := by
  unfold putCell
  rw [decide_eq_false h1, h2]
  rfl
theorem first_nil (rows : List (List Int)) : firstV rows [] = 0 := rfl
theorem first_last {rows one : List (List Int)} {r : List Int} (h : one.getLast? = some r) : firstV rows one = rows.findIdx (fun x => decide (x = r)) := by
  unfold firstV
  rw [h]
theorem ris_step {rows : List (List Int)} {R m : Nat} (h : rows.length ≤ R) (j : Nat) (hR : 0 < R) : (((risV rows m).take j).flatMap fun one => (rows.drop (firstV rows one)).map fun row => one ++ [row]).length ≤ R ^ (m + 1) := by
  have e : risV rows m = (risV rows m).take j ++ (risV rows m).drop j := (List.take_append_drop j _).symm
  have h2 := risV_len rows R h (m + 1)
  unfold risV at h2
  rw [e, List.flatMap_append, List.length_append] at h2
  omega
end Dg
namespace Dg
def AllIn (k : List Int) (m : Int) : Prop := ∀ x ∈ k, 0 ≤ x ∧ x ≤ m
theorem AllIn.inV {k : List Int} {m : Nat} (h : AllIn k m) : InV k m := by
  have key : ∀ i, 0 ≤ k.getD i 0 ∧ k.getD i 0 ≤ (m : Int) := by
    intro i
    rw [List.getD_eq_getElem?_getD]
    cases e : k[i]? with
    | none => simp
    | some d => exact h d (List.mem_of_getElem? e)
  exact ⟨fun i => (key i).1, fun i => (key i).2⟩
theorem AllIn.snoc {k : List Int} {m x : Int} (h : AllIn k m) (h0 : 0 ≤ x) (h1 : x ≤ m) : AllIn (k ++ [x]) m := fun y hy => by
  rcases List.mem_append.mp hy with z | z
  · exact h y z
  · have : y = x := by simpa using z
    rw [this]
    exact ⟨h0, h1⟩
theorem AllIn.set {k : List Int} {m x : Int} (h : AllIn k m) (j : Nat) (h0 : 0 ≤ x) (h1 : x ≤ m) : AllIn (k.set j x) m := fun y hy => by
  rcases List.mem_or_eq_of_mem_set hy with z | z
  · exact h y z
  · rw [z]
    exact ⟨h0, h1⟩
theorem AllIn.get {k : List Int} {m : Int} (h : AllIn k m) {j : Nat} (hj : j < k.length) : 0 ≤ k.getD j 0 ∧ k.getD j 0 ≤ m := by
  rw [List.getD_eq_getElem?_getD, List.getElem?_eq_getElem hj]
  exact h _ (List.getElem_mem hj)
end Dg
namespace Dg
def lexL : List Int → List Int → Bool
  | [], [] => false
  | [], _ :: _ => true
  | _ :: _, [] => false
  | x :: xs, y :: ys => if x = y then lexL xs ys else decide (x < y)
def badNext (a b : List Int) : Bool := decide (b.length ≠ a.length) || lexL b a
def badFrom (rows : List (List Int)) (n : Nat) : Option Nat := (List.range n).findSome? fun j => if badNext (rows.getD j []) (rows.getD (j + 1) []) = true then some (j + 1) else none
def badAt (rows : List (List Int)) : Option Nat := if rows = [] ∨ rows.getD 0 [] = [] then some 0 else badFrom rows (rows.length - 1)
end Dg
namespace Dg
theorem bad_none {rows : List (List Int)} (h : badAt rows = none) : rows ≠ [] ∧ rows.getD 0 [] ≠ [] ∧ badFrom rows (rows.length - 1) = none := by
  unfold badAt at h
  by_cases e : rows = [] ∨ rows.getD 0 [] = []
  · rw [if_pos e] at h
    cases h
  · rw [if_neg e] at h
    exact ⟨fun z => e (.inl z), fun z => e (.inr z), h⟩
theorem bad_step {rows : List (List Int)} (h : badAt rows = none) (j : Nat) (hj : j + 1 < rows.length) : (rows.getD (j + 1) []).length = (rows.getD j []).length ∧ lexL (rows.getD (j + 1) []) (rows.getD j []) = false := by
  have h1 := (bad_none h).2.2
  unfold badFrom at h1
  have h2 := some_none h1 j (by omega)
  cases e : badNext (rows.getD j []) (rows.getD (j + 1) []) with
  | true =>
    rw [if_pos e] at h2
    cases h2
  | false =>
    unfold badNext at e
    rw [Bool.or_eq_false_iff] at e
    refine ⟨?_, e.2⟩
    have := of_decide_eq_false e.1
    omega
theorem bad_len {rows : List (List Int)} (h : badAt rows = none) : ∀ j, j < rows.length → (rows.getD j []).length = (rows.getD 0 []).length
  | 0, _ => rfl
  | j + 1, hj => (bad_step h j hj).1.trans (bad_len h j (by omega))
theorem bad_len' {rows : List (List Int)} (h : badAt rows = none) {r : List Int} (hr : r ∈ rows) : r.length = (rows.getD 0 []).length := by
  obtain ⟨j, hj, e⟩ := List.getElem_of_mem hr
  have := bad_len h j hj
  rw [List.getD_eq_getElem?_getD, List.getElem?_eq_getElem hj] at this
  rw [← e]
  exact this
def versOk (rows : List (List Int)) (k : List Int) : Prop := k.length = (rows.getD 0 []).length ∧ ∀ x ∈ k, 0 ≤ x ∧ x < (rows.length : Int)
theorem versOk_in {rows : List (List Int)} {k : List Int} (h : versOk rows k) (hr : rows ≠ []) : AllIn k ((rows.length - 1 : Nat) : Int) := fun x hx => by
  have h1 := h.2 x hx
  have h2 : 0 < rows.length := List.length_pos_iff.mpr hr
  omega
end Dg
namespace Dg
open PySem PySem.Spec PyProof.Rows L2
theorem lex_is : ∀ a b : List Int, lexL a b = HT.lexLt a b
  | [], [] => rfl
  | [], _ :: _ => rfl
  | _ :: _, [] => rfl
  | x :: xs, y :: ys => by
    unfold lexL
    rw [HT.lexLt_cons, lex_is xs ys]
end Dg
namespace Dg
open PySem PySem.Spec PyProof.Rows L2
theorem int_at {k : List Int} {i : Nat} {x : V} (h : (k.map V.int)[i]? = some x) : i < k.length ∧ x = .int (k.getD i 0) := by
  have hi : i < k.length := by
    have := (List.getElem?_eq_some_iff.mp h).1
    rwa [List.length_map] at this
  refine ⟨hi, ?_⟩
  rw [List.getElem?_map, List.getElem?_eq_getElem hi] at h
  rw [List.getD_eq_getElem?_getD, List.getElem?_eq_getElem hi]
  exact (Option.some.inj h).symm
end Dg
namespace Dg
open PySem PySem.Spec PyProof.Rows L2
section
variable {prog : Program} {w : World} {A : Around} {E : Value → Shared → Prop} {s : Shared} {l : Addr}
theorem max_tup {its : List Value} {ns : List Int} {Q : Value → Shared → Prop} (hd : A.handled = none) (is : s.heap.IsTuple l its.toArray) (num : IntsAre its ns) (any1 : 0 < ns.length)
    (q : ∀ h' tk m t, (∀ b o, s.heap.get? b = some o → h'.get? b = some o) → m ∈ ns → (∀ y ∈ ns, y ≤ m) → Q (.int m t) { s with heap := h', toks := tk }) : wpAny (model prog w) A (call (.builtin "max") [.ref l]) Q E s := by
  obtain ⟨xs, same⟩ := num.allInts.items
  have told : (xs.toList.map (·.1)) = ns := by rw [← nums_intItems, ← same]; exact num.numsOf
  have many : ns.length = xs.size := by rw [← told, List.length_map, Array.length_toList]
  have all : ∀ i, i < xs.size → numAt xs i ∈ ns := fun i hi => by
    rw [numAt_eq, ← told]
    exact PySem.getD_mem (by rw [told, many]; exact hi)
  rw [same] at is
  let n := s.heap.objs.size
  have young : l < n := let ⟨_, e, _⟩ := id is; Heap.lt_size e
  obtain ⟨w1, w2⟩ := argBest_gt (numAt xs) (xs.size - 1)
  have low : ∀ b ∈ [n, l], b < (s.heap.push { cls := .type "tuple_iterator", data := .fields #[.ref l, .int 0 0] }).objs.size := fun b hb => by
    rw [Heap.size_push]
    show b < n + 1
    rcases List.mem_cons.mp hb with z | z
    · exact z ▸ Nat.lt_succ_self n
    · exact List.mem_singleton.mp z ▸ Nat.lt_succ_of_lt young
  apply call_max_walk
  apply wpAny_pyIter_tuple is
  refine ⟨_, [n, l], [n], _, _, _, _, rfl, Walks.tuple (A := A.in1) hd n l (Nat.ne_of_lt young) (intItems xs), ⟨⟨_, Heap.get?_push_size _ rfl, rfl, rfl⟩, is.push _⟩, low, ?_, CmpOf.ints_gt (numAt xs) (fun _ _ => intItems_at), fun v h' tk got kept => ?_⟩
  · simpa [intItems, ← many] using any1
  · have got : (intItems xs)[argBest (fun i j => decide (numAt xs i > numAt xs j)) (xs.size - 1)]? = some v := by simpa [intItems] using got
    obtain ⟨t, rfl⟩ := intItems_at got
    refine q h' tk _ t (fun b o e => kept b o (fun z => ?_) (Heap.get?_push_of_some _ e)) (all _ (by omega)) fun y hy => ?_
    · have := Heap.lt_size e
      rw [List.mem_singleton.mp z] at this
      exact Nat.lt_irrefl n this
    · rw [← told] at hy
      obtain ⟨i, hi, rfl⟩ := mem_getD hy
      rw [told, many] at hi
      exact numAt_eq xs i ▸ w2 i (by omega)
end
section
variable {X : Cx}
def rMaxA (K : PySem.W.Frag) : List V → Hp → VK → Prop := fun vs H Q => ∃ (a : Addr) (ns : List Int), vs = [V.ref a] ∧ Sq K H a (ns.map V.int) ∧ 0 < ns.length ∧ ∀ m, m ∈ ns → (∀ y, y ∈ ns → y ≤ m) → Q (.int m) H
theorem cr_maxA (hc : X.calm = true) : CallR X (.builtin "max") (rMaxA X.K) := by
  rintro pins s σ H vs us Q I r ⟨a, ns, rfl, hs, hne, q⟩
  rw [Vals.ref1 r]
  rcases hs with hs | hs
  · obtain ⟨its, rv, hl, _⟩ := I.list hs
    exact max_raw (I.ok.hd hc) hl.isList rv.ints hne fun h' tk m t' hk h1 h2 => ⟨.int _, H, I.kept hk, ⟨_, rfl⟩, q m h1 h2⟩
  · obtain ⟨its, rv, hl, _⟩ := I.tuple hs
    exact max_tup (I.ok.hd hc) hl rv.ints hne fun h' tk m t' hk h1 h2 => ⟨.int _, H, I.kept hk, ⟨_, rfl⟩, q m h1 h2⟩
end
theorem rep_one {α : Type} (n : Nat) (x : α) : (List.replicate n [x]).flatten = List.replicate n x := List.flatten_replicate_singleton
theorem getD_in {k : List Int} {i : Nat} (h : i < k.length) : k.getD i 0 ∈ k := by
  rw [List.getD_eq_getElem?_getD, List.getElem?_eq_getElem h]
  exact List.getElem_mem h
theorem ix_of {n : Nat} {x : Int} (h0 : 0 ≤ x) (h : x < (n : Int)) : ixN n x = some x.toNat := by
  obtain ⟨j, rfl⟩ := Int.eq_ofNat_of_zero_le h0
  rw [Int.toNat_natCast]
  unfold ixN
  rw [if_pos (by omega), if_pos (by omega), Int.toNat_natCast]
theorem same_updF {H H1 : Hp} {p : Addr} {o : HO} (s : Same H H1) (hp : H p = none) : Same H (upd H1 p o) := fun c o' e => by
  rw [upd_ne (ne_of_none e hp)]
  exact s c o' e
theorem set_ints (n j : Nat) : (List.replicate n (V.int 0)).set j (V.int 1) = (((List.replicate n (0 : Int)).set j 1)).map V.int := by
  rw [List.map_set, List.map_replicate]
theorem pd_rep {K : PySem.W.Frag} {H : Hp} {p : Addr} {r : List Int} (h : SqT K H p (r.map V.int)) (n : Nat) : Paired (RowAt K H) (List.replicate n (V.ref p)) (List.replicate n r) := by
  induction n with
  | zero => exact .nil
  | succ n ih => exact .cons ⟨p, rfl, h⟩ ih
theorem k_call_isi {X : Cx} {K : PySem.W.Frag} (h : X.K = K) : CallR X (.builtin "isinstance") (rIsi K) := h ▸ call_isi
theorem boot_list : bootBuiltins "list" = some (.type "list") := by decide +kernel
theorem boot_tuple : bootBuiltins "tuple" = some (.type "tuple") := by decide +kernel
theorem boot_int : bootBuiltins "int" = some (.type "int") := by decide +kernel
theorem boot_str : bootBuiltins "str" = some (.type "str") := by decide +kernel
theorem boot_dict : bootBuiltins "dict" = some (.type "dict") := by decide +kernel
theorem boot_bool : bootBuiltins "bool" = some (.type "bool") := by decide +kernel
theorem tyx_T {K : PySem.W.Frag} {H : Hp} {a : Addr} {xs : List V} (h : SqT K H a xs) : TyX K H (.ref a) (.type "tuple") := by
  rcases h with (h | ⟨o, h⟩) | ⟨o, its, n, e, c, _⟩
  · exact .base (.tup h)
  · exact .fTuple h
  · exact .kTuple e c
theorem tyx_L {K : PySem.W.Frag} {H : Hp} {a : Addr} {xs : List V} (h : SqL K H a xs) : TyX K H (.ref a) (.type "list") := by
  rcases h with (h | ⟨o, h⟩) | ⟨o, its, n, e, c, _⟩
  · exact .base (.lst h)
  · exact .base (.frz h)
  · exact .kList e c
theorem kitb_tt : kitB "tuple" "tuple" = some true := by decide +kernel
theorem kitb_ll : kitB "list" "list" = some true := by decide +kernel
theorem eqvAll_ints : ∀ a b : List Int, PyData.eqvAll (a.map .int) (b.map .int) = decide (a = b)
  | [], [] => by simp only [List.map_nil, PyData.eqvAll]; rfl
  | [], _ :: _ => by simp only [List.map_nil, List.map_cons, PyData.eqvAll]; rfl
  | _ :: _, [] => by simp only [List.map_nil, List.map_cons, PyData.eqvAll]; rfl
  | x :: xs, y :: ys => by
    rw [List.map_cons, List.map_cons, PyData.eqvAll, eqvAll_ints xs ys]
    rw [PyData.eqv]
    by_cases e : x = y <;> by_cases e2 : xs = ys <;> simp [e, e2]
theorem eqv_tups (a b : List Int) : PyData.eqv (tupD a) (tupD b) = decide (a = b) := by
  unfold tupD
  rw [PyData.eqv, eqvAll_ints]
end Dg
namespace Dg
inductive Cells (n : Nat) : List Int → Prop where
  | one (c : Nat) (h : c < n) : Cells n [(c : Int)]
  | two (c d : Nat) (h : c < d) (h' : d < n) : Cells n [(c : Int), (d : Int)]
theorem rep_at (n i : Nat) : (List.replicate n (0 : Int)).getD i 0 = 0 := by
  rw [List.getD_eq_getElem?_getD, List.getElem?_replicate]
  split <;> rfl
theorem repset_at {n j : Nat} (hj : j < n) (i : Nat) : ((List.replicate n (0 : Int)).set j 1).getD i 0 = if i = j then 1 else 0 := by
  rw [List.getD_eq_getElem?_getD, List.getElem?_set, List.length_replicate, List.getElem?_replicate]
  by_cases e : j = i
  · subst e
    rw [if_pos rfl, if_pos hj, if_pos rfl]
    rfl
  · rw [if_neg e, if_neg (Ne.symm e)]
    split <;> rfl
theorem high_at {n : Nat} {cs : List Int} (h : Cells n cs) (i : Nat) : (highV n cs).getD i 0 = if (i : Int) = cs.getD 0 0 then 1 else 0 := by
  cases h with
  | one c h =>
    show ((List.replicate n (0 : Int)).set (c : Int).toNat 1).getD i 0 = if (i : Int) = (c : Int) then 1 else 0
    rw [Int.toNat_natCast, repset_at h]
    by_cases e : i = c
    · rw [if_pos e, if_pos (by omega)]
    · rw [if_neg e, if_neg (by omega)]
  | two c d h h' =>
    show ((List.replicate n (0 : Int)).set (c : Int).toNat 1).getD i 0 = if (i : Int) = (c : Int) then 1 else 0
    rw [Int.toNat_natCast, repset_at (by omega)]
    by_cases e : i = c
    · rw [if_pos e, if_pos (by omega)]
    · rw [if_neg e, if_neg (by omega)]
theorem filt_one (c : Nat) : ∀ n, (List.range n).filter (fun i => decide (i = c)) = if c < n then [c] else []
  | 0 => by simp
  | n + 1 => by
    rw [List.range_succ, List.filter_append, filt_one c n]
    by_cases e : n = c
    · subst e
      simp
    · rw [List.filter_cons_of_neg (by simp [e]), List.filter_nil, List.append_nil]
      by_cases h : c < n
      · rw [if_pos h, if_pos (by omega)]
      · rw [if_neg h, if_neg (by omega)]
theorem filt_two {c d : Nat} (hcd : c < d) : ∀ n, (List.range n).filter (fun i => decide (i = c ∨ i = d)) = if d < n then [c, d] else if c < n then [c] else []
  | 0 => by simp
  | n + 1 => by
    rw [List.range_succ, List.filter_append, filt_two hcd n]
    by_cases e : n = d
    · subst e
      rw [List.filter_cons_of_pos (by simp), List.filter_nil, if_neg (by omega), if_pos hcd, if_pos (by omega)]
      rfl
    · by_cases e2 : n = c
      · subst e2
        rw [List.filter_cons_of_pos (by simp), List.filter_nil, if_neg (by omega), if_neg (by omega), if_neg (by omega), if_pos (by omega)]
        rfl
      · rw [List.filter_cons_of_neg (by simp [e, e2]), List.filter_nil, List.append_nil]
        by_cases h : d < n
        · simp [h, show d < n + 1 by omega]
        · by_cases h2 : c < n
          · simp [h, h2, show ¬ d < n + 1 by omega, show c < n + 1 by omega]
          · simp [h, h2, show ¬ d < n + 1 by omega, show ¬ c < n + 1 by omega]
theorem low_at {n : Nat} {cs : List Int} (h : Cells n cs) (i : Nat) : (lowV n cs).getD i 0 = if cs.length = 2 ∧ (i : Int) = cs.getD 1 0 then 1 else 0 := by
  cases h with
  | one c h =>
    show (List.replicate n (0 : Int)).getD i 0 = _
    rw [rep_at, if_neg (fun z => by have := z.1; simp at this)]
  | two c d h h' =>
    have e0 : (lowV n [(c : Int), (d : Int)]).getD i 0 = if i = d then 1 else 0 := by
      show ((List.replicate n (0 : Int)).set (d : Int).toNat 1).getD i 0 = _
      rw [Int.toNat_natCast, repset_at h']
    rw [e0]
    by_cases e : i = d
    · simp [e]
    · have : ¬ (i : Int) = (d : Int) := by omega
      simp [e, this]
theorem moved_is {n : Nat} {cs : List Int} (h : Cells n cs) : ((List.range n).filter fun i : Nat => !decide ((lowV n cs).getD i 0 = (highV n cs).getD i 0)).map (fun i : Nat => (i : Int)) = cs := by
  have e : (List.range n).filter (fun i : Nat => !decide ((lowV n cs).getD i 0 = (highV n cs).getD i 0)) = (List.range n).filter (fun i : Nat => decide ((i : Int) ∈ cs)) := by
    congr 1
    funext i
    rw [low_at h, high_at h]
    cases h with
    | one c h =>
      by_cases e : (i : Int) = (c : Int) <;> simp [e]
    | two c d h h' =>
      have e0 : [(c : Int), (d : Int)].getD 0 0 = c := rfl
      have e1 : [(c : Int), (d : Int)].getD 1 0 = d := rfl
      have e2 : [(c : Int), (d : Int)].length = 2 := rfl
      have e3 : decide ((i : Int) ∈ [(c : Int), (d : Int)]) = decide ((i : Int) = c ∨ (i : Int) = d) := decide_eq_decide.mpr (by rw [List.mem_cons, List.mem_cons]; simp)
      rw [e0, e1, e2, e3]
      by_cases g : (i : Int) = (c : Int)
      · rw [if_neg (fun z => by omega), if_pos g, decide_eq_true (Or.inl g)]
        rfl
      · rw [if_neg (c := (i : Int) = (c : Int)) g]
        by_cases g2 : (i : Int) = (d : Int)
        · rw [if_pos ⟨rfl, g2⟩, decide_eq_true (Or.inr g2)]
          rfl
        · rw [if_neg (fun z => g2 z.2), decide_eq_false (p := (i : Int) = c ∨ (i : Int) = d) (fun z => z.elim g g2)]
          rfl
  rw [e]
  cases h with
  | one c h =>
    have : (fun i : Nat => decide ((i : Int) ∈ [(c : Int)])) = fun i => decide (i = c) := by
      funext i
      simp
      omega
    rw [this, filt_one, if_pos h]
    rfl
  | two c d h h' =>
    have : (fun i : Nat => decide ((i : Int) ∈ [(c : Int), (d : Int)])) = fun i => decide (i = c ∨ i = d) := by
      funext i
      refine decide_eq_decide.mpr ?_
      rw [List.mem_cons, List.mem_cons]
      constructor
      · rintro (z | z | z)
        · exact .inl (by omega)
        · exact .inr (by omega)
        · cases z
      · rintro (z | z)
        · exact .inl (by omega)
        · exact .inr (.inl (by omega))
    rw [this, filt_two h, if_pos h']
    rfl
theorem low_ne_high {n : Nat} {cs : List Int} (h : Cells n cs) : highV n cs ≠ lowV n cs := by
  intro z
  have h1 := high_at h (cs.getD 0 0).toNat
  have h2 := low_at h (cs.getD 0 0).toNat
  rw [z] at h1
  cases h with
  | one c h =>
    rw [h1] at h2
    simp at h2
  | two c d h h' =>
    rw [h1] at h2
    have e0 : [(c : Int), (d : Int)].getD 0 0 = c := rfl
    have e1 : [(c : Int), (d : Int)].getD 1 0 = d := rfl
    rw [e0, e1, Int.toNat_natCast, if_pos rfl, if_neg (fun z => by omega)] at h2
    exact absurd h2 (by decide)
theorem fault_cells {n m : Nat} {k l : List Int} {cs : List Int} {p : Int} (hk : InV k m) (hl : InV l m) (nk : k.length = n) (nl : l.length = n) (h : faultV k l = some (cs, p)) : Cells n cs ∧ 1 ≤ p ∧ p ≤ m := by
  obtain ⟨hp, hc⟩ := fault_some hk hl nk nl h
  refine ⟨?_, hp⟩
  rcases hc with ⟨c, hcn, rfl, _⟩ | ⟨c, d, hcd, hdn, rfl, _⟩
  · exact .one c hcn
  · exact .two c d hcd hdn
theorem low_len {n : Nat} {cs : List Int} : (lowV n cs).length = n := by
  unfold lowV
  split <;> simp
theorem high_len {n : Nat} {cs : List Int} : (highV n cs).length = n := by
  unfold highV
  simp
theorem turn_row_len {n : Nat} {cs : List Int} {p last : Int} {r : List Int} (h : r ∈ turnV n cs p last) : r.length = n := by
  unfold turnV at h
  rcases List.mem_append.mp h with z | z
  · rw [(List.mem_replicate.mp z).2, low_len]
  · rw [(List.mem_replicate.mp z).2, high_len]
theorem turn_get {n : Nat} {cs : List Int} {p last : Int} (h0 : 0 ≤ p) (h1 : p ≤ last) (v : Nat) (hv : v ≤ last.toNat) : (turnV n cs p last)[v]? = some (if (v : Int) < p then lowV n cs else highV n cs) := by
  have hl : v < (turnV n cs p last).length := by
    rw [turn_len h0 h1]
    omega
  have h := turn_at (n := n) (cs := cs) h0 h1 v hv
  rw [List.getD_eq_getElem?_getD, List.getElem?_eq_getElem hl] at h
  rw [List.getElem?_eq_getElem hl]
  exact congrArg some h
theorem Cells.bound {n : Nat} {cs : List Int} (h : Cells n cs) : ∀ x ∈ cs, 0 ≤ x ∧ x < (n : Int) := by
  cases h with
  | one c h =>
    intro x hx
    have : x = c := by simpa using hx
    omega
  | two c d h h' =>
    intro x hx
    have : x = c ∨ x = d := by simpa using hx
    omega
end Dg
namespace Dg
theorem foldl_num : ∀ (r : List Int) (a : Int), r.foldl (fun a d => 2 * a + d) a = a * 2 ^ r.length + numV r
  | [], a => by
    show a = a * 2 ^ 0 + 0
    omega
  | x :: xs, a => by
    have h0 : numV (x :: xs) = (2 * 0 + x) * 2 ^ xs.length + numV xs := by
      unfold numV
      rw [List.foldl_cons, foldl_num xs (2 * 0 + x)]
      unfold numV
      rfl
    rw [List.foldl_cons, foldl_num xs (2 * a + x), h0, List.length_cons, Int.pow_succ]
    generalize (2 : Int) ^ xs.length = z
    rw [show a * (z * 2) = 2 * a * z by rw [Int.mul_comm z 2, ← Int.mul_assoc, Int.mul_comm a 2], Int.add_mul (2 * a) x z, Int.mul_zero, Int.zero_add]
    omega
theorem num_cons (x : Int) (xs : List Int) : numV (x :: xs) = x * 2 ^ xs.length + numV xs := by
  have h := foldl_num xs (2 * 0 + x)
  rw [show (2 * 0 + x) = x by omega] at h
  unfold numV
  rw [List.foldl_cons, show (2 * 0 + x) = x by omega, h]
  unfold numV
  rfl
def BitsOf (r : List Int) : Prop := ∀ d ∈ r, d = 0 ∨ d = 1
theorem num_range : ∀ {r : List Int}, BitsOf r → 0 ≤ numV r ∧ numV r < 2 ^ r.length
  | [], _ => ⟨Int.le_refl _, by decide⟩
  | x :: xs, h => by
    obtain ⟨h1, h2⟩ := num_range (r := xs) fun d hd => h d (List.mem_cons_of_mem _ hd)
    rw [num_cons, List.length_cons, Int.pow_succ]
    have hx := h x List.mem_cons_self
    generalize (2 : Int) ^ xs.length = z at h2
    rcases hx with e | e <;> rw [e] <;> constructor <;> omega
theorem lex_num : ∀ {r s : List Int}, r.length = s.length → BitsOf r → BitsOf s → lexL r s = false → numV s ≤ numV r
  | [], [], _, _, _, _ => Int.le_refl _
  | x :: xs, y :: ys, hl, hr, hs, h => by
    have hl' : xs.length = ys.length := by simpa using hl
    have hr' : BitsOf xs := fun d hd => hr d (List.mem_cons_of_mem _ hd)
    have hs' : BitsOf ys := fun d hd => hs d (List.mem_cons_of_mem _ hd)
    rw [num_cons, num_cons, hl']
    unfold lexL at h
    by_cases e : x = y
    · rw [if_pos e] at h
      have := lex_num hl' hr' hs' h
      rw [e]
      omega
    · rw [if_neg e] at h
      have h1 := of_decide_eq_false h
      have hx := hr x List.mem_cons_self
      have hy := hs y List.mem_cons_self
      have b1 := num_range hr'
      have b2 := num_range hs'
      have ex : x = 1 := by omega
      have ey : y = 0 := by omega
      rw [ex, ey]
      generalize (2 : Int) ^ ys.length = z at b2
      omega
theorem num_lex {r s : List Int} (hl : r.length = s.length) (hr : BitsOf r) (hs : BitsOf s) (h : numV r < numV s) : lexL r s = true := by
  cases e : lexL r s with
  | true => rfl
  | false =>
    have := lex_num hl hr hs e
    omega
theorem lex_self : ∀ r : List Int, lexL r r = false
  | [] => rfl
  | x :: xs => by
    unfold lexL
    rw [if_pos rfl]
    exact lex_self xs
theorem lex_at : ∀ {r s : List Int} (i : Nat), r.length = s.length → lexL r s = true → (∀ j, j < i → r.getD j 0 = s.getD j 0) → i < r.length ∧ (r.getD i 0 ≠ s.getD i 0 → r.getD i 0 < s.getD i 0)
  | [], [], i, _, h, _ => by
    rw [lex_self] at h
    cases h
  | x :: xs, y :: ys, 0, _, h, _ => by
    refine ⟨Nat.zero_lt_succ _, fun z => ?_⟩
    have z' : ¬ x = y := z
    unfold lexL at h
    rw [if_neg z'] at h
    exact of_decide_eq_true h
  | x :: xs, y :: ys, i + 1, hl, h, he => by
    have e0 : x = y := he 0 (Nat.zero_lt_succ _)
    unfold lexL at h
    rw [if_pos e0] at h
    obtain ⟨h1, h2⟩ := lex_at (r := xs) (s := ys) i (by simpa using hl) h fun j hj => he (j + 1) (Nat.succ_lt_succ hj)
    exact ⟨Nat.succ_lt_succ h1, h2⟩
theorem bad_of {rows : List (List Int)} (h0 : rows ≠ []) (h1 : rows.getD 0 [] ≠ []) (h : ∀ j, j + 1 < rows.length → badNext (rows.getD j []) (rows.getD (j + 1) []) = false) : badAt rows = none := by
  unfold badAt
  rw [if_neg (fun z => z.elim h0 h1)]
  unfold badFrom
  rw [List.findSome?_eq_none_iff]
  intro j hj
  have hj' := List.mem_range.mp hj
  rw [h j (by omega)]
  rfl
theorem lowV_bits {n : Nat} {cs : List Int} : BitsOf (lowV n cs) := by
  unfold lowV
  split
  · exact (set_bits n _).2
  · exact (zero_bits n).2
theorem highV_bits {n : Nat} {cs : List Int} : BitsOf (highV n cs) := (set_bits n _).2
theorem high_not_below {n : Nat} {cs : List Int} (h : Cells n cs) : lexL (highV n cs) (lowV n cs) = false := by
  cases e : lexL (highV n cs) (lowV n cs) with
  | false => rfl
  | true =>
    have hl : (highV n cs).length = (lowV n cs).length := high_len.trans low_len.symm
    have key : ∀ c : Nat, cs.getD 0 0 = (c : Int) → ((cs.length = 2) → (c : Int) < cs.getD 1 0) → False := by
      intro c hc h2
      have hlow : (lowV n cs).getD c 0 = 0 := by
        rw [low_at h, if_neg (fun z => by have := h2 z.1; omega)]
      have hhigh : (highV n cs).getD c 0 = 1 := by
        rw [high_at h, if_pos hc.symm]
      have hj : ∀ j, j < c → (highV n cs).getD j 0 = (lowV n cs).getD j 0 := by
        intro j hj
        rw [high_at h, low_at h, if_neg (by omega), if_neg (fun z => by have := h2 z.1; omega)]
      have := (lex_at c hl e hj).2 (by rw [hlow, hhigh]; decide)
      rw [hlow, hhigh] at this
      omega
    cases h with
    | one c h => exact (key c rfl (fun z => by simp at z)).elim
    | two c d h h' => exact (key c rfl (fun _ => by show (c : Int) < (d : Int); omega)).elim
theorem turn_bad {n : Nat} {cs : List Int} {p last : Int} (h : Cells n cs) (p1 : 1 ≤ p) (pl : p ≤ last) : badAt (turnV n cs p last) = none := by
  have hlen : (turnV n cs p last).length = last.toNat + 1 := turn_len (by omega) pl
  have n0 : 0 < n := by
    cases h <;> omega
  refine bad_of (fun z => ?_) (fun z => ?_) fun j hj => ?_
  · rw [z] at hlen
    simp at hlen
  · rw [turn_at (by omega) pl 0 (Nat.zero_le _), if_pos (by omega)] at z
    have := low_len (n := n) (cs := cs)
    rw [z] at this
    simp at this
    omega
  · rw [turn_at (by omega) pl j (by omega), turn_at (by omega) pl (j + 1) (by omega)]
    unfold badNext
    by_cases g : ((j + 1 : Nat) : Int) < p
    · rw [if_pos g, if_pos (by omega), lex_self, decide_eq_false (fun z => z rfl)]
      rfl
    · rw [if_neg g]
      by_cases g2 : (j : Int) < p
      · rw [if_pos g2, high_not_below h, decide_eq_false (fun z => z (high_len.trans low_len.symm))]
        rfl
      · rw [if_neg g2, lex_self, decide_eq_false (fun z => z rfl)]
        rfl
theorem turn_versOk {n : Nat} {cs : List Int} {p last : Int} {k : List Int} (p1 : 1 ≤ p) (pl : p ≤ last) (hk : AllIn k last) (hl : k.length = n) : versOk (turnV n cs p last) k := by
  refine ⟨?_, fun x hx => ?_⟩
  · rw [turn_at (by omega) pl 0 (Nat.zero_le _), if_pos (by omega), low_len, hl]
  · rw [turn_len (by omega) pl]
    have := hk x hx
    omega
theorem rowV_bits {n : Nat} {cs : List Int} {p last : Int} {k : List Int} : BitsOf (rowV (turnV n cs p last) k) := by
  intro d hd
  unfold rowV at hd
  obtain ⟨i, _, rfl⟩ := List.mem_map.mp hd
  have key : ∀ r, r ∈ turnV n cs p last → BitsOf r := by
    intro r hr
    unfold turnV at hr
    rcases List.mem_append.mp hr with z | z
    · rw [(List.mem_replicate.mp z).2]
      exact lowV_bits
    · rw [(List.mem_replicate.mp z).2]
      exact highV_bits
  have dig : ∀ r : List Int, BitsOf r → r.getD i 0 = 0 ∨ r.getD i 0 = 1 := by
    intro r hr
    rw [List.getD_eq_getElem?_getD]
    cases e2 : r[i]? with
    | none => exact .inl rfl
    | some d => exact hr d (List.mem_of_getElem? e2)
  refine dig _ ?_
  generalize (k.getD i 0).toNat = v
  rw [List.getD_eq_getElem?_getD]
  cases e : (turnV n cs p last)[v]? with
  | none => exact fun d hd => by cases hd
  | some r => exact key r (List.mem_of_getElem? e)
theorem turn_above {n m : Nat} {k l : List Int} {cs : List Int} {p last : Int} (hk : InV k m) (hl : InV l m) (nk : k.length = n) (nl : l.length = n) (h : faultV k l = some (cs, p)) (hm : last = (m : Int)) :
    lexL (rowV (turnV n cs p last) l) (rowV (turnV n cs p last) k) = true :=
  num_lex (by unfold rowV; rw [List.length_map, List.length_map, List.length_range, List.length_range, nk, nl]) rowV_bits rowV_bits (fault_gt hk hl nk nl h hm)
end Dg
namespace Dg
open PySem PySem.Spec PyProof.Rows L2
def topS (i : Nat) : Stmt := PySem.Challenge.pw_digitsturn_k14_whole_shown.main.body.getD i (.Pass ⟨0, 0, 0, 0⟩)
local macro_rules | `(tactic| walk_at "rd1") => `(tactic| first | refine ⟨_, rfl, ?_⟩ | refine ⟨_, _, rfl, rfl, ?_⟩)
local macro_rules | `(tactic| walk_at "rd") => `(tactic| repeat walk_at "rd1")
section
variable {P : Program} {w : World} {K : PySem.W.Frag} {mg : Str → Option Value} {base : Heap}
abbrev s_draw : Stmt := topS 16
abbrev N_draw : List Str := ["pen", "span", "digit", "turn", "cell", "mixed"]
abbrev P_draw : List Str := ["pen", "span"]
theorem sc_draw : FnScope N_draw P_draw (defScope s_draw) := ⟨rfl, rfl, rfl, by decide +kernel, rfl, by decide +kernel, by decide +kernel⟩
theorem ok_draw {f : Addr} {fd : FuncData} (F : Fun K "_law_draw" "_law_draw" s_draw f fd) (B : Bi mg) : FnOk P w K mg base CX0 1 f fd P_draw spDraw := by
  refine F.ok sc_draw (fun vs H Q E h => ?_) (fun cdv A outer s H vs Q E hr h => ?_)
  · obtain ⟨p, c, n, b, rfl, _⟩ := h
    rfl
  · obtain ⟨p, c, n, b, rfl, ⟨ns, t, l, hp⟩, hn, hn2, hb, k⟩ := h
    have hu := hu_of hr
    refine ⟨_, (pss_cons (ps_if (pt_cmpR op_gt (pe_dget hu (pv 0) pe_str (fun _ _ => rfl)) pe_int (nomark _)) 
          (pss_cons (ps_set (i := 2) sc_draw.nd rfl (.inl rfl) (pe_op op_mod (pe_callTy call_int1 (by rfl) B.b_int (by decide +kernel) (pa_cons (pe_dget hu (pv 0) pe_str (fun _ _ => rfl)) pa_nil)) (pv 1)))
          (pss_cons (ps_dput hu (pv 0) pe_str (pe_op op_fdivW (pe_dget hu (pv 0) pe_str (fun _ _ => rfl)) (pv 1)) rfl)
          (pss_one (ps_ret (pv 2))))) pss_nil)
      (pss_cons (ps_set (i := 3) sc_draw.nd rfl (.inl rfl) (pe_dget hu (pv 0) pe_str (fun _ _ => rfl)))
      (pss_cons (ps_dput hu (pv 0) pe_str (pe_op op_add (pv 3) pe_int) rfl)
      (pss_cons (ps_set (i := 4) sc_draw.nd rfl (.inl rfl) (pe_op op_add (pe_op op_mulW pe_int (pv 3)) pe_int))
      (C8.pss_cut (ps_if (pt_cmpR (op_neD hr.units) (pe_dget hu (pv 0) pe_str (fun _ _ => rfl)) (pe_lst pa_nil) (nomark _)) 
          (pss_one (ps_set (i := 4) sc_draw.nd rfl (.inl rfl) (pe_ix ix_list (pe_dget hu (pv 0) pe_str (fun _ _ => rfl)) (pe_op op_mod (pe_callTy call_int1 (by rfl) B.b_int (by decide +kernel) (pa_cons (pv 3) pa_nil)) (pe_callB call_len_seq (by rfl) B.b_len PySem.boot_len (pa_cons (pe_dget hu (pv 0) pe_str (fun _ _ => rfl)) pa_nil))) (fun _ _ => rfl)))) pss_nil)
      (C8.pss_cut (ps_if (PW.pt (pw_and (pt_cmpR op_lt (pv 3) (pe_callB call_len_seq (by rfl) B.b_len PySem.boot_len (pa_cons (pe_dget hu (pv 0) pe_str (fun _ _ => rfl)) pa_nil)) (nomark _)) (pw_and1 (pt_cmpR op_ge (pe_callB call_abs (by rfl) B.b_abs (by decide +kernel) (pa_cons (pv 4) pa_nil)) (pe_op op_pow pe_int pe_int) (nomark _))))) 
          (pss_cons (ps_dput hu (pv 0) pe_str (pe_op op_fdivW (pe_op op_sub (pe_callB call_abs (by rfl) B.b_abs (by decide +kernel) (pa_cons (pv 4) pa_nil)) (pe_op op_pow pe_int pe_int)) (pv 1)) rfl)
          (pss_one (ps_ret (pe_op op_mod (pe_callTy call_int1 (by rfl) B.b_int (by decide +kernel) (pa_cons (pe_op op_sub (pe_callB call_abs (by rfl) B.b_abs (by decide +kernel) (pa_cons (pv 4) pa_nil)) (pe_op op_pow pe_int pe_int)) pa_nil)) (pv 1))))) pss_nil)
      (pss_cons (ps_set (i := 5) sc_draw.nd rfl (.inl rfl) (pe_op op_mulW (pe_op op_mod (pe_callTy call_int1 (by rfl) B.b_int (by decide +kernel) (pa_cons (pv 4) pa_nil)) pe_int) pe_int))
      (pss_cons (ps_set (i := 5) sc_draw.nd rfl (.inl rfl) (pe_op op_mod (pe_callTy call_int1 (by rfl) B.b_int (by decide +kernel) (pa_cons (pe_op op_add (pe_op op_add (pv 5) (pe_op op_mulW (pv 3) (pe_op op_add (pe_op op_mulW (pv 3) pe_int) pe_int))) pe_int) pa_nil)) pe_int))
      (pss_cons (ps_set (i := 5) sc_draw.nd rfl (.inl rfl) (pe_op op_mod (pe_callTy call_int1 (by rfl) B.b_int (by decide +kernel) (pa_cons (pe_op op_mulW (pv 5) (pe_op op_add (pv 5) pe_int)) pa_nil)) pe_int))
      (pss_cons (ps_set (i := 5) sc_draw.nd rfl (.inl rfl) (pe_op op_mod (pe_callTy call_int1 (by rfl) B.b_int (by decide +kernel) (pa_cons (pe_op op_add (pe_op op_add (pe_op op_mulW (pv 5) (pv 5)) (pe_op op_mulW pe_int (pv 5))) (pe_op op_mulW pe_int (pv 3))) pa_nil)) pe_int))
      (pss_one (ps_ret (pe_op op_mod (pe_callTy call_int1 (by rfl) B.b_int (by decide +kernel) (pa_cons (pe_op op_fdivW (pe_op op_mod (pe_callTy call_int1 (by rfl) B.b_int (by decide +kernel) (pa_cons (pe_op op_mulW (pv 5) (pe_op op_add (pv 5) pe_int)) pa_nil)) pe_int) pe_int) pa_nil)) (pv 1)))))))))))))), ?_⟩
    have hd : CDivW 0 n := wide_div (b := 300) hn (by omega) (by decide) (by decide)
    have hdn : ∀ i, CDivW i n := fun _ => hd
    have ht0 := hp.t0
    have htb := hp.tb
    refine ⟨_, rfl, p, _, rfl, hp.get_left, _, _, rfl, rfl, _, rfl, ?_⟩
    refine ite2 (fun hl => ?_) (fun hl => ?_)
    · -- digit = int(pen['left']) % span; pen['left'] = pen['left'] // span; return digit
      refine ⟨_, rfl, p, _, rfl, hp.get_left, .inl ⟨_, rfl, ?_⟩⟩
      walk_at "rd"
      refine ⟨hn, ?_⟩
      refine ⟨_, rfl, p, _, rfl, hp.get_left, _, rfl, _, _, rfl, rfl, hd, _, rfl, p, _, rfl, hp.put_left _, _, rfl, ?_⟩
      exact k _ _ (Int.emod_nonneg _ (by omega)) (Int.emod_lt_of_pos _ hn) ⟨ns, t, _, hp.upd hp.t0 (by omega) (Int.ediv_nonneg hp.l0 (by omega))⟩ sameB_upd
    · -- turn = pen['turn']; pen['turn'] = turn + 1
      have hp2 := hp.upd (u := t + 1) (v := l) (b' := b + 1) (by omega) (by omega) hp.l0
      have s2 : SameB p H (upd H p (.dK (penL c (t + 1) l))) := sameB_upd
      generalize hH2 : upd H p (.dK (penL c (t + 1) l)) = H2 at hp2 s2
      refine ⟨_, rfl, p, _, rfl, hp.get_turn, _, rfl, _, _, rfl, rfl, _, rfl, p, H2, rfl, by rw [← hH2]; exact hp.put_turn _, ?_⟩
      refine ⟨_, rfl, _, _, rfl, rfl, wide_mul (a := 7) (b := 61) (by decide) (by omega) (by decide) (by decide) (by decide), _, _, rfl, rfl, ?_⟩
      refine ⟨fun σ' H' => ∃ x : Int, σ' = [some (.ref p), some (.int n), none, some (.int t), some (.int x), none] ∧ SameB p H H' ∧ PenAt H' p c ns (t + 1) l (b + 1), ?_, ?_⟩
      · refine ⟨_, rfl, p, _, rfl, hp2.get_cells, Nat.zero_le _, fun e ne => ?_⟩
        have s3 : Same H2 (upd H2 e (.lst [])) := same_new ne
        have hp3 := hp2.same s3
        refine ⟨.list (ns.map .int), .list [], .lst (.inl (.inl hp3.cs)) (dp_ints _), .lst (.inl (.inl upd_same)) .nil, shaped_ints _, rfl, _, rfl, ?_⟩
        refine ite2 (fun hc => ?_) (fun hc => ?_)
        · rw [eqv_nil] at hc
          have hne : 0 < ns.length := by
            cases ns with
            | nil => exact absurd hc (by decide)
            | cons x r => exact Nat.succ_pos _
          refine ⟨_, rfl, p, _, rfl, hp3.get_cells, _, rfl, .inl ⟨_, rfl, ?_⟩⟩
          refine ⟨_, rfl, p, _, rfl, hp3.get_cells, c, _, rfl, .inl (.inl (.inl hp3.cs)), _, _, rfl, rfl, by rw [List.length_map]; omega, ?_⟩
          have hlt : (t % ((ns.length : Nat) : Int)).toNat < ns.length := by
            have h1 := Int.emod_nonneg t (b := (ns.length : Int)) (by omega)
            have h2 := Int.emod_lt_of_pos t (b := (ns.length : Int)) (by omega)
            omega
          refine ⟨c, _, _, .int (ns[(t % ((ns.length : Nat) : Int)).toNat]'hlt), rfl, rfl, .inl (.inl hp3.cs), ?_, ?_⟩
          · rw [List.length_map]
            refine at_of (j := (t % ((ns.length : Nat) : Int)).toNat) ?_ ?_
            · have h1 := Int.emod_nonneg t (b := (ns.length : Int)) (by omega)
              omega
            · rw [List.getElem?_map, List.getElem?_eq_getElem hlt]
              rfl
          · exact ⟨_, rfl, s2.trans (SameB.of s3), hp3⟩
        · exact ⟨_, rfl, s2.trans (SameB.of s3), hp3⟩
      · rintro σ' H' ⟨x, rfl, s4, hp4⟩
        clear s2 hp2 hH2
        have habs : (0 : Int) ≤ (if x < 0 then -x else x) := by split <;> omega
        generalize hax : (if x < 0 then -x else x) = ax at habs
        refine ⟨fun σ' H'' => σ' = [some (.ref p), some (.int n), none, some (.int t), some (.int x), none] ∧ H'' = H', ?_, ?_⟩
        · refine ⟨_, rfl, _, rfl, p, _, rfl, hp4.get_cells, c, _, rfl, .inl (.inl (.inl hp4.cs)), _, _, rfl, rfl, _, rfl, ?_⟩
          refine ite2 (fun hc => ?_) (fun hc => ?_)
          · refine ⟨_, rfl, _, rfl, _, _, rfl, rfl, ⟨by decide, by decide, by decide⟩, _, _, rfl, rfl, _, rfl, ?_⟩
            rw [hax]
            refine ite2 (fun h18 => ?_) (fun h18 => ?_)
            · have h18' := of_decide_eq_true h18
              refine ⟨_, rfl, _, rfl, _, _, rfl, rfl, ⟨by decide, by decide, by decide⟩, _, _, rfl, rfl, _, rfl, _, _, rfl, rfl, hdn _, _, rfl, p, _, rfl, hp4.put_left _, ?_⟩
              refine ⟨_, rfl, _, rfl, _, _, rfl, rfl, ⟨by decide, by decide, by decide⟩, _, _, rfl, rfl, .inl ⟨_, rfl, ?_⟩⟩
              refine ⟨_, rfl, _, _, rfl, rfl, hn, ?_⟩
              rw [hax]
              exact k _ _ (Int.emod_nonneg _ (by omega)) (Int.emod_lt_of_pos _ hn) ⟨ns, _, _, hp4.upd hp4.t0 hp4.tb (Int.ediv_nonneg (by omega) (by omega))⟩ (s4.trans sameB_upd)
            · exact ⟨rfl, rfl⟩
          · exact iteF ⟨rfl, rfl⟩
        · rintro σ' H'' ⟨rfl, rfl⟩
          refine ⟨_, rfl, .inl ⟨_, rfl, _, _, rfl, rfl, (by show (0 : Int) < 4294967087; decide), ?_⟩⟩
          have m1 := Int.emod_nonneg x (b := 4294967087) (by decide)
          have m2 := Int.emod_lt_of_pos x (b := 4294967087) (by decide)
          generalize x % 4294967087 = y at m1 m2
          refine ⟨_, _, rfl, rfl, wide_mul (a := 40) (b := 40) (by omega) (by decide) (by decide) (by decide) (by decide), ?_⟩
          refine ⟨_, rfl, _, rfl, _, rfl, _, _, rfl, rfl, wide_mul (a := 61) (b := 40) (by omega) (by decide) (by decide) (by decide) (by decide), ?_⟩
          have q1 : (t * 27919 + 10601).natAbs < 2 ^ 80 := by omega
          refine ⟨_, _, rfl, rfl, _, _, rfl, rfl, wide_mul (a := 61) (b := 80) (by omega) q1 (by decide) (by decide) (by decide), ?_⟩
          refine ⟨_, _, rfl, rfl, _, _, rfl, rfl, .inl ⟨_, rfl, _, _, rfl, rfl, (by show (0 : Int) < 4294967029; decide), ?_⟩⟩
          have n1 := Int.emod_nonneg (y * 48611 + t * (t * 27919 + 10601) + 41) (b := 4294967029) (by decide)
          have n2 := Int.emod_lt_of_pos (y * 48611 + t * (t * 27919 + 10601) + 41) (b := 4294967029) (by decide)
          generalize (y * 48611 + t * (t * 27919 + 10601) + 41) % 4294967029 = z at n1 n2
          refine ⟨_, rfl, _, rfl, _, _, rfl, rfl, _, _, rfl, rfl, wide_mul (a := 40) (b := 40) (by omega) (by omega) (by decide) (by decide) (by decide), .inl ⟨_, rfl, _, _, rfl, rfl, (by show (0 : Int) < 4294966997; decide), ?_⟩⟩
          have o1 := Int.emod_nonneg (z * (z + 75013)) (b := 4294966997) (by decide)
          have o2 := Int.emod_lt_of_pos (z * (z + 75013)) (b := 4294966997) (by decide)
          generalize (z * (z + 75013)) % 4294966997 = u at o1 o2
          refine ⟨_, rfl, _, rfl, _, _, rfl, rfl, wide_mul (a := 40) (b := 40) (by omega) (by omega) (by decide) (by decide) (by decide), ?_⟩
          refine ⟨_, rfl, _, _, rfl, rfl, wide_mul (a := 40) (b := 40) (by decide) (by omega) (by decide) (by decide) (by decide), _, _, rfl, rfl, ?_⟩
          refine ⟨_, rfl, _, _, rfl, rfl, wide_mul (a := 40) (b := 61) (by decide) (by omega) (by decide) (by decide) (by decide), _, _, rfl, rfl, .inl ⟨_, rfl, _, _, rfl, rfl, (by show (0 : Int) < 4294966981; decide), ?_⟩⟩
          have v1 := Int.emod_nonneg (u * u + 30427 * u + 19 * t) (b := 4294966981) (by decide)
          have v2 := Int.emod_lt_of_pos (u * u + 30427 * u + 19 * t) (b := 4294966981) (by decide)
          generalize (u * u + 30427 * u + 19 * t) % 4294966981 = w1 at v1 v2
          refine ⟨_, rfl, _, rfl, _, _, rfl, rfl, _, _, rfl, rfl, wide_mul (a := 40) (b := 40) (by omega) (by omega) (by decide) (by decide) (by decide), .inl ⟨_, rfl, _, _, rfl, rfl, (by show (0 : Int) < 4294966943; decide), ?_⟩⟩
          refine ⟨_, _, rfl, rfl, wide_div (b := 7) (by decide) (by decide) (by decide) (by decide), .inl ⟨_, rfl, _, rfl, _, _, rfl, rfl, hn, ?_⟩⟩
          exact k _ _ (Int.emod_nonneg _ (by omega)) (Int.emod_lt_of_pos _ hn) ⟨ns, _, _, hp4⟩ s4
abbrev s_carry_version : Stmt := topS 13
abbrev N_carry_version : List Str := ["one", "other", "great", "small"]
abbrev P_carry_version : List Str := ["one", "other", "great", "small"]
theorem sc_carry_version : FnScope N_carry_version P_carry_version (defScope s_carry_version) := ⟨rfl, rfl, rfl, by decide +kernel, rfl, by decide +kernel, by decide +kernel⟩
def optV : Option Int → V
  | none => .non
  | some i => .int i
def spCarry (K : PySem.W.Frag) : Sp := fun vs H Q _ => ∃ (a b : Addr) (k l : List Int) (c d : Nat), vs = [.ref a, .ref b, .int c, .int d] ∧ Sq K H a (k.map V.int) ∧ Sq K H b (l.map V.int) ∧ k.length = l.length ∧ c < k.length ∧ d < k.length ∧
  Q (optV (carryV k l c d)) H
theorem ok_carry {f : Addr} {fd : FuncData} (F : Fun K "carry_version" "carry_version" s_carry_version f fd) : FnOk P w K mg base CX0 1 f fd P_carry_version (spCarry K) := by
  refine F.ok sc_carry_version (fun vs H Q E h => ?_) (fun cdv A outer s H vs Q E hr h => ?_)
  · obtain ⟨a, b, k, l, c, d, rfl, _⟩ := h
    rfl
  · obtain ⟨a, b, k, l, c, d, rfl, ha, hb, hl, hc, hd, q⟩ := h
    refine ⟨_, (pss_cons (ps_if (pt_cmpR op_eq (pe_ix ix_any (pv 0) (pv 3) (fun _ _ => rfl)) (pe_ix ix_any (pv 1) (pv 3) (fun _ _ => rfl)) (nomark _)) 
          (pss_one (ps_ret pe_non)) pss_nil)
      (pss_cons (ps_if (pt_cmpR op_gt (pe_ix ix_any (pv 0) (pv 2) (fun _ _ => rfl)) (pe_ix ix_any (pv 0) (pv 3) (fun _ _ => rfl)) (nomark _)) 
          (pss_one (ps_ret (pe_op op_add (pe_ix ix_any (pv 0) (pv 3) (fun _ _ => rfl)) pe_int))) pss_nil)
      (pss_cons (ps_if (pt_cmpR op_gt (pe_ix ix_any (pv 1) (pv 3) (fun _ _ => rfl)) (pe_ix ix_any (pv 1) (pv 2) (fun _ _ => rfl)) (nomark _)) 
          (pss_one (ps_ret (pe_ix ix_any (pv 1) (pv 3) (fun _ _ => rfl)))) pss_nil)
      (pss_one (ps_ret pe_non))))), ?_⟩
    have hd2 : d < l.length := by omega
    have hc2 : c < l.length := by omega
    unfold carryV at q
    refine ⟨_, rfl, _, rfl, a, _, _, _, rfl, rfl, ha, at_int rfl hd, _, rfl, _, rfl, b, _, _, _, rfl, rfl, hb, at_int rfl hd2, rfl, _, rfl, ?_⟩
    refine ite2 (fun e => ?_) (fun e => ?_)
    · rw [if_pos (V.int.inj (of_decide_eq_true e))] at q
      exact q
    rw [if_neg (fun z => e (decide_eq_true (congrArg V.int z)))] at q
    refine ⟨_, rfl, _, rfl, a, _, _, _, rfl, rfl, ha, at_int rfl hc, _, rfl, _, rfl, a, _, _, _, rfl, rfl, ha, at_int rfl hd, _, _, rfl, rfl, _, rfl, ?_⟩
    refine ite2 (fun e2 => ?_) (fun e2 => ?_)
    · rw [if_pos (of_decide_eq_true e2)] at q
      exact ⟨_, rfl, _, rfl, a, _, _, _, rfl, rfl, ha, at_int rfl hd, _, _, rfl, rfl, q⟩
    rw [if_neg (fun z => e2 (decide_eq_true z))] at q
    refine ⟨_, rfl, _, rfl, b, _, _, _, rfl, rfl, hb, at_int rfl hd2, _, rfl, _, rfl, b, _, _, _, rfl, rfl, hb, at_int rfl hc2, _, _, rfl, rfl, _, rfl, ?_⟩
    refine ite2 (fun e3 => ?_) (fun e3 => ?_)
    · rw [if_pos (of_decide_eq_true e3)] at q
      exact ⟨_, rfl, _, rfl, b, _, _, _, rfl, rfl, hb, at_int rfl hd2, q⟩
    rw [if_neg (fun z => e3 (decide_eq_true z))] at q
    exact q
abbrev s_fault : Stmt := topS 12
abbrev N_fault : List Str := ["one", "other", "cell", "small", "great", "version"]
abbrev P_fault : List Str := ["one", "other"]
theorem sc_fault : FnScope N_fault P_fault (defScope s_fault) := ⟨rfl, rfl, rfl, by decide +kernel, rfl, by decide +kernel, by decide +kernel⟩
def spFault (K : PySem.W.Frag) : Sp := fun vs H Q _ => ∃ (a b : Addr) (k l : List Int), vs = [.ref a, .ref b] ∧ Sq K H a (k.map V.int) ∧ Sq K H b (l.map V.int) ∧ k.length = l.length ∧ k.length ≤ 1000 ∧
  (faultV k l = none → ∀ H', Same H H' → Q .non H') ∧
  (∀ cs p, faultV k l = some (cs, p) → ∀ H' t q, Same H H' → H' t = some (.tup [.ref q, .int p]) → H' q = some (.tup (cs.map V.int)) → Q (.ref t) H')
theorem ok_fault {f : Addr} {fd : FuncData} (F : Fun K "fault" "fault" s_fault f fd) (B : Bi mg) (C_carry_version : Cal P w K mg base CX0 1 "carry_version" P_carry_version (spCarry K)) : FnOk P w K mg base CX0 2 f fd P_fault (spFault K) := by
  refine F.ok sc_fault (fun vs H Q E h => ?_) (fun cdv A outer s H vs Q E hr h => ?_)
  · obtain ⟨a, b, k, l, rfl, _⟩ := h
    rfl
  · obtain ⟨a, b, k, l, rfl, ha, hb, hl, h1000, q0, q1⟩ := h
    refine ⟨_, (pss_cons (ps_for PassesOwn.never rfl (pi_range1 (by rfl) B.b_range (pa_cons (pe_callB call_len_seq (by rfl) B.b_len PySem.boot_len (pa_cons (pv 0) pa_nil)) pa_nil)) (pg_name (i := 2) sc_fault.nd rfl (.inl rfl)) 
          (pss_one (ps_if (pt_cmpR op_gt (pe_ix ix_any (pv 0) (pv 2) (fun _ _ => rfl)) (pe_ix ix_any (pv 1) (pv 2) (fun _ _ => rfl)) (nomark _)) 
              (pss_one (ps_ret (pe_tup (pa_cons (pe_tup (pa_cons (pv 2) pa_nil)) (pa_cons (pe_ix ix_any (pv 0) (pv 2) (fun _ _ => rfl)) pa_nil))))) pss_nil)))
      (pss_cons (ps_for PassesOwn.never rfl (pi_range1 (by rfl) B.b_range (pa_cons (pe_callB call_len_seq (by rfl) B.b_len PySem.boot_len (pa_cons (pv 0) pa_nil)) pa_nil)) (pg_name (i := 3) sc_fault.nd rfl (.inl rfl)) 
          (pss_one (ps_for PassesOwn.never rfl (pi_range1 (by rfl) B.b_range (pa_cons (pv 3) pa_nil)) (pg_name (i := 4) sc_fault.nd rfl (.inl rfl)) 
              (pss_cons (ps_set (i := 5) sc_fault.nd rfl (.inl rfl) (pe_cal C_carry_version (hr.mono (by decide)) (by rfl) pass0 (pa_cons (pv 0) (pa_cons (pv 1) (pa_cons (pv 4) (pa_cons (pv 3) pa_nil))))))
              (pss_one (ps_if (pt_cmpR op_notN (pv 5) pe_non (nomark _)) 
                  (pss_one (ps_ret (pe_tup (pa_cons (pe_tup (pa_cons (pv 4) (pa_cons (pv 3) pa_nil))) (pa_cons (pv 5) pa_nil))))) pss_nil))))))
      (pss_one (ps_ret pe_non)))), ?_⟩
    refine ⟨_, rfl, a, _, rfl, ha, _, rfl, by omega, by rw [List.length_map]; omega, for_range (lo := 0) (n := (k.map V.int).length) (fun i σ H' => ∃ v, σ = [some (.ref a), some (.ref b), v, none, none, none] ∧ H = H' ∧ stepV k l i = none) ⟨none, rfl, rfl, rfl⟩ ?_ ?_⟩
    · rintro i σ H' hi ⟨v, rfl, rfl, hs⟩
      rw [List.length_map] at hi
      have hi2 : i < l.length := by omega
      refine ⟨_, rfl, _, rfl, a, _, _, _, rfl, rfl, ha, at_int (by omega) hi, _, rfl, _, rfl, b, _, _, _, rfl, rfl, hb, at_int (by omega) hi2, _, _, rfl, rfl, _, rfl, ?_⟩
      refine ite2 (fun e => ?_) (fun e => ?_)
      · have e' := of_decide_eq_true e
        have hf : faultV k l = some ([(i : Int)], k.getD i 0) := by
          have h1 : stepV k l k.length = some ([(i : Int)], k.getD i 0) := range_some_first _ i hi hs (if_pos e')
          unfold faultV
          rw [h1]
        refine ⟨_, rfl, Nat.le_trans (by decide : 1 ≤ 1000) (by decide), fun p np => ?_⟩
        refine ⟨_, rfl, _, rfl, a, _, _, _, rfl, rfl, ha.same (same_new np), at_int (by omega) hi, by show 2 ≤ sizeLine; decide, fun r nr => ?_⟩
        refine q1 _ _ hf _ r p ((same_new np).trans (same_new nr)) upd_same ?_
        rw [upd_ne (ne_of_none upd_same nr), upd_same]
        show some (HO.tup [V.int (0 + (i : Int))]) = _
        rw [Int.zero_add]
        rfl
      · refine ⟨_, rfl, rfl, ?_⟩
        show stepV k l (i + 1) = none
        unfold stepV at hs ⊢
        rw [range_some, hs, if_neg (fun z => e (decide_eq_true z))]
        rfl
    · rintro σ H' ⟨v, rfl, rfl, hs⟩
      rw [List.length_map] at hs
      have hfc : faultV k l = carriesV k l k.length := by
        unfold faultV
        rw [hs]
      refine ⟨_, rfl, a, _, rfl, ha, _, rfl, by omega, by rw [List.length_map]; omega, for_range (lo := 0) (n := (k.map V.int).length) (fun i σ H' => ∃ v1 v2 v3, σ = [some (.ref a), some (.ref b), v, v1, v2, v3] ∧ H = H' ∧ carriesV k l i = none) ⟨none, none, none, rfl, rfl, rfl⟩ ?_ ?_⟩
      · rintro i σ H' hi ⟨v1, v2, v3, rfl, rfl, hc⟩
        rw [List.length_map] at hi
        refine ⟨_, rfl, _, rfl, by omega, by omega, for_range (lo := 0) (n := ((0 : Int) + (i : Int)).toNat) (fun j σ H' => ∃ v2 v3, σ = [some (.ref a), some (.ref b), v, some (.int (0 + (i : Int))), v2, v3] ∧ H = H' ∧ pairV k l i j = none) ⟨v2, v3, rfl, rfl, rfl⟩ ?_ ?_⟩
        · rintro j σ H' hj ⟨v2, v3, rfl, rfl, hp⟩
          have hj2 : j < i := by omega
          refine ⟨_, rfl, _, rfl, _, rfl, _, rfl, a, b, k, l, j, i, by simp, ha, hb, hl, by omega, hi, ?_⟩
          cases hv : carryV k l j i with
          | none =>
            refine ⟨_, rfl, rfl, _, rfl, ?_⟩
            refine iteF ?_
            refine ⟨_, _, rfl, rfl, ?_⟩
            show pairV k l i (j + 1) = none
            unfold pairV at hp ⊢
            rw [range_some, hp, hv]
            rfl
          | some p =>
            have hpi : pairV k l i i = some ([(j : Int), (i : Int)], p) := range_some_first _ j hj2 hp (by rw [hv]; rfl)
            have hci : carriesV k l k.length = some ([(j : Int), (i : Int)], p) := range_some_first _ i hi hc hpi
            refine ⟨_, rfl, rfl, _, rfl, ?_⟩
            refine iteT ?_
            refine ⟨_, rfl, _, rfl, by show 2 ≤ sizeLine; decide, fun t nt => ?_⟩
            refine ⟨_, rfl, by show 2 ≤ sizeLine; decide, fun r nr => ?_⟩
            refine q1 _ _ (hfc.trans hci) _ r t ((same_new nt).trans (same_new nr)) upd_same ?_
            rw [upd_ne (ne_of_none upd_same nr), upd_same]
            show some (HO.tup [V.int (0 + (j : Int)), V.int (0 + (i : Int))]) = _
            rw [Int.zero_add, Int.zero_add]
            rfl
        · rintro σ H' ⟨v2, v3, rfl, rfl, hp⟩
          refine ⟨_, _, _, rfl, rfl, ?_⟩
          rw [show ((0 : Int) + (i : Int)).toNat = i by omega] at hp
          show carriesV k l (i + 1) = none
          unfold carriesV at hc ⊢
          rw [range_some, hc, hp]
          rfl
      · rintro σ H' ⟨v1, v2, v3, rfl, rfl, hc⟩
        rw [List.length_map] at hc
        exact q0 (hfc.trans hc) _ (Same.refl _)
abbrev s_check_lengths : Stmt := topS 10
abbrev N_check_lengths : List Str := ["one", "other"]
abbrev P_check_lengths : List Str := ["one", "other"]
theorem sc_check_lengths : FnScope N_check_lengths P_check_lengths (defScope s_check_lengths) := ⟨rfl, rfl, rfl, by decide +kernel, rfl, by decide +kernel, by decide +kernel⟩
def spCheck (K : PySem.W.Frag) (cV : Addr) : Sp := fun vs H Q E => ∃ (a b : Addr) (k l : List V), vs = [.ref a, .ref b] ∧ Sq K H a k ∧ Sq K H b l ∧
  (k.length = l.length ∧ k ≠ [] → Q .non H) ∧ (¬ (k.length = l.length ∧ k ≠ []) → E (.ref cV) none H)
theorem ok_check {f cV : Addr} {fd : FuncData} (F : Fun K "check_lengths" "check_lengths" s_check_lengths f fd) (B : Bi mg) (E_BadVersions : Ec K mg "BadVersions" cV) : FnOk P w K mg base (L2.CX P w) 1 f fd P_check_lengths (spCheck K cV) := by
  refine F.okX sc_check_lengths (fun vs H Q E h => ?_) (fun cdv A outer s H vs Q E hr h => ?_)
  · obtain ⟨a, b, k, l, rfl, _⟩ := h
    rfl
  · obtain ⟨a, b, k, l, rfl, ha, hb, q, qe⟩ := h
    refine ⟨_, (pss_one (ps_if (PW.pt (pw_or (pt_cmpR op_ne (pe_callB call_len_seq (by rfl) B.b_len PySem.boot_len (pa_cons (pv 0) pa_nil)) (pe_callB call_len_seq (by rfl) B.b_len PySem.boot_len (pa_cons (pv 1) pa_nil)) (nomark _)) (pw_or1 (pt_cmpR op_eq (pe_callB call_len_seq (by rfl) B.b_len PySem.boot_len (pa_cons (pv 0) pa_nil)) pe_int (nomark _))))) 
          (pss_one (ps_raise rfl (takes_of rfl rfl rfl rfl) (pmk_own0 PySem.F.excBase_ValueError E_BadVersions.xC E_BadVersions.gC E_BadVersions.kC (raises_own E_BadVersions.bC E_BadVersions.tC) (by rfl)))) pss_nil)), ?_⟩
    refine ⟨_, rfl, a, _, rfl, ha, _, rfl, b, _, rfl, hb, rfl, _, rfl, ?_⟩
    refine iteB (fun e => ?_) (fun e => ?_)
    · have hne : ¬ k.length = l.length := fun z => by
        rw [z] at e
        simp at e
      exact qe fun z => hne z.1
    · have heq : k.length = l.length := by
        have e' : decide (V.int (k.length : Int) = V.int (l.length : Int)) = true := by simpa using e
        have := V.int.inj (of_decide_eq_true e')
        omega
      refine ⟨_, rfl, a, _, rfl, ha, rfl, _, rfl, ?_⟩
      refine ite2 (fun e2 => ?_) (fun e2 => ?_)
      · have h0 := V.int.inj (of_decide_eq_true e2)
        exact qe fun z => z.2 (List.eq_nil_of_length_eq_zero (by omega))
      · exact q ⟨heq, fun z => e2 (by subst z; rfl)⟩
abbrev s_is_at_most : Stmt := topS 8
abbrev N_is_at_most : List Str := ["one", "other"]
abbrev P_is_at_most : List Str := ["one", "other"]
theorem sc_is_at_most : FnScope N_is_at_most P_is_at_most (defScope s_is_at_most) := ⟨rfl, rfl, rfl, by decide +kernel, rfl, by decide +kernel, by decide +kernel⟩
def spAtMost (K : PySem.W.Frag) (cV : Addr) : Sp := fun vs H Q E => ∃ (a b : Addr) (k l : List Int), vs = [.ref a, .ref b] ∧ Sq K H a (k.map V.int) ∧ Sq K H b (l.map V.int) ∧ k.length ≤ 1000 ∧
  (k.length = l.length ∧ k ≠ [] → ∀ H', Same H H' → Q (.bl (faultV k l).isNone) H') ∧ (¬ (k.length = l.length ∧ k ≠ []) → E (.ref cV) none H)
theorem ok_atmost {f cV : Addr} {fd : FuncData} (F : Fun K "is_at_most" "is_at_most" s_is_at_most f fd) (B : Bi mg) (C_check_lengths : Cal P w K mg base (L2.CX P w) 1 "check_lengths" P_check_lengths (spCheck K cV))
    (C_fault : Cal P w K mg base CX0 2 "fault" P_fault (spFault K)) : FnOk P w K mg base (L2.CX P w) 3 f fd P_is_at_most (spAtMost K cV) := by
  refine F.okX sc_is_at_most (fun vs H Q E h => ?_) (fun cdv A outer s H vs Q E hr h => ?_)
  · obtain ⟨a, b, k, l, rfl, _⟩ := h
    rfl
  · obtain ⟨a, b, k, l, rfl, ha, hb, h1000, q, qe⟩ := h
    refine ⟨_, (pss_cons (ps_expr (pe_cal C_check_lengths (hr.mono (by decide)) (by rfl) (passes_call (takes_of rfl rfl rfl rfl) (fun _ _ _ _ h => h)) (pa_cons (pv 0) (pa_cons (pv 1) pa_nil))))
      (pss_one (ps_ret (pe_cmpR op_isN (pe_cal C_fault (hr.mono (by decide)) (by rfl) pass0 (pa_cons (pv 0) (pa_cons (pv 1) pa_nil))) pe_non (nomark _))))), ?_⟩
    refine ⟨_, rfl, _, rfl, a, b, _, _, rfl, ha, hb, fun hk => ?_, fun hk => ?_⟩
    · rw [List.length_map, List.length_map] at hk
      have hk2 : k ≠ [] := fun z => hk.2 (by rw [z]; rfl)
      refine ⟨_, rfl, _, rfl, a, b, k, l, rfl, ha, hb, hk.1, h1000, fun h0 H' s1 => ?_, fun cs p h0 H' t r s1 e1 e2 => ?_⟩
      · refine ⟨rfl, ?_⟩
        have q' := q ⟨hk.1, hk2⟩ H' s1
        rw [h0] at q'
        exact q'
      · refine ⟨rfl, ?_⟩
        have q' := q ⟨hk.1, hk2⟩ H' s1
        rw [h0] at q'
        exact q'
    · refine qe fun z => hk ?_
      rw [List.length_map, List.length_map]
      exact ⟨z.1, fun y => z.2 (List.map_eq_nil_iff.mp y)⟩
abbrev s_begun_pen : Stmt := topS 15
abbrev N_begun_pen : List Str := ["script"]
abbrev P_begun_pen : List Str := ["script"]
theorem sc_begun_pen : FnScope N_begun_pen P_begun_pen (defScope s_begun_pen) := ⟨rfl, rfl, rfl, by decide +kernel, rfl, by decide +kernel, by decide +kernel⟩
def spBegun (K : PySem.W.Frag) : Sp := fun vs H Q _ => ∃ (a : Addr) (ns : List Int), vs = [.ref a] ∧ SqL K H a (ns.map V.int) ∧ ns.length ≤ 63 ∧ ∀ H' p, Same H H' → H p = none → ∀ c, Pen H' p c 0 → Q (.ref p) H'
theorem ok_begun {f : Addr} {fd : FuncData} (F : Fun K "_law_begun_pen" "_law_begun_pen" s_begun_pen f fd) (B : Bi mg) : FnOk P w K mg base CX0 1 f fd P_begun_pen (spBegun K) := by
  refine F.ok sc_begun_pen (fun vs H Q E h => ?_) (fun cdv A outer s H vs Q E hr h => ?_)
  · obtain ⟨a, ns, rfl, _⟩ := h
    rfl
  · obtain ⟨a, ns, rfl, ha, h63, q⟩ := h
    refine ⟨_, (pss_one (ps_ret (pe_disp (pps_cons pe_str (pe_callTy call_list_of (by rfl) B.b_list (by decide +kernel) (pa_cons (pe_slice sl_list (pv 0) po_none (po_some pe_int)) pa_nil)) (pps_cons pe_str pe_int (pps_cons pe_str pe_int pps_nil))) (by rfl) (by rfl) (fun z => by cases z) (by decide)))), ?_⟩
    intro p np
    have s1 : Same H (upd H p (.dK [])) := same_new np
    refine ⟨_, rfl, 63, rfl, a, _, rfl, s1.seq ha, fun c nc => ?_⟩
    have s2 : Same (upd H p (.dK [])) (upd (upd H p (.dK [])) c (.lst (cutV (ns.map V.int) none (some 63)))) := same_new nc
    refine ⟨c, _, rfl, .inl (sqL upd_same), fun d nd => ?_⟩
    have s3 := same_new (o := .lst (cutV (ns.map V.int) none (some 63))) nd
    have hp := s3 _ _ (s2 _ _ (upd_same (H := H) (a := p) (o := .dK [])))
    refine ⟨hp, penL d 0 0, rfl, by show 3 ≤ 15; decide, ?_⟩
    have hne : d ≠ p := fun z => by
      subst z
      rw [s2 _ _ (upd_same (H := H) (a := d) (o := .dK []))] at nd
      cases nd
    refine q _ p (fun b o hb => ?_) np d ⟨ns, 0, 0, ?_, ?_, Int.le_refl _, Int.le_refl _, Int.le_refl _, h63⟩
    · rw [upd_ne (ne_of_none hb np)]
      exact s3 _ _ (s2 _ _ (s1 _ _ hb))
    · rw [upd_same]
      rfl
    · rw [upd_ne hne, upd_same, show (63 : Int) = ((63 : Nat) : Int) from rfl, cut_to, List.take_of_length_le (by rw [List.length_map]; exact h63)]
end
end Dg
namespace Dg
open PySem PySem.Spec PyProof.Rows L2
local macro_rules | `(tactic| walk_at "rd1") => `(tactic| first | refine ⟨_, rfl, ?_⟩ | refine ⟨_, _, rfl, rfl, ?_⟩)
local macro_rules | `(tactic| walk_at "rd") => `(tactic| repeat walk_at "rd1")
section
variable {P : Program} {w : World} {K : PySem.W.Frag} {mg : Str → Option Value} {base : Heap}
abbrev s_BadValues___init : Stmt := inClass (topS 2) 0
abbrev N_BadValues___init : List Str := ["self", "index"]
abbrev P_BadValues___init : List Str := ["self", "index"]
theorem sc_BadValues___init : FnScope N_BadValues___init P_BadValues___init (defScope s_BadValues___init) := ⟨rfl, rfl, rfl, by decide +kernel, rfl, by decide +kernel, by decide +kernel⟩
theorem ok_init_BadValues {f C : Addr} {fd : FuncData} (F : Fun K "__init__" "BadValues.__init__" s_BadValues___init f fd) (T : OexC K C) (no : PySem.W.findIn K (.ref C) "index" = some none) : FnOk P w K mg base CX0 1 f fd ["self", "index"] (spFld C "index") := by
  refine F.ok sc_BadValues___init (fun vs H Q E h => ?_) (fun cdv A outer s H vs Q E hr h => ?_)
  · obtain ⟨a, v, rfl, _⟩ := h
    rfl
  · obtain ⟨a, v, rfl, ha, q⟩ := h
    refine ⟨_, pss_one (ps_ost (pv 0) (pv 1)), ?_⟩
    exact ⟨_, rfl, _, rfl, a, C, rfl, T, no, .inl ⟨ha, fun dx nd ne => q dx nd ne⟩⟩
abbrev s_checked_values : Stmt := topS 5
abbrev N_checked_values : List Str := ["values", "rows", "at", "value"]
abbrev P_checked_values : List Str := ["values"]
theorem sc_checked_values : FnScope N_checked_values P_checked_values (defScope s_checked_values) := ⟨rfl, rfl, rfl, by decide +kernel, rfl, by decide +kernel, by decide +kernel⟩
def spChecked (K : PySem.W.Frag) (cB : Addr) : Sp := fun vs H Q E => ∃ (a : Addr) (vals : List V) (rows : List (List Int)), vs = [.ref a] ∧ Sq K H a vals ∧ Paired (ValAt K H) vals rows ∧ rows.length ≤ 1000 ∧
  (badAt rows = none → ∀ H' p vals', Same H H' → H p = none → H' p = some (.lst vals') → Paired (RowAt K H') vals' rows → Q (.ref p) H') ∧
  (∀ i, badAt rows = some i → ∀ H' d, Same H H' → H' d = some (.xd [("index", .int (i : Nat))]) → E (.ref cB) (some d) H')
theorem ok_checked {f cB : Addr} {fd : FuncData} (F : Fun K "checked_values" "checked_values" s_checked_values f fd) (B : Bi mg) (O_BadValues : Ef P w K mg base "BadValues" "index" cB) : FnOk P w K mg base (L2.CX P w) 3 f fd P_checked_values (spChecked K cB) := by
  refine F.okX sc_checked_values (fun vs H Q E h => ?_) (fun cdv A outer s H vs Q E hr h => ?_)
  · obtain ⟨a, vals, rows, rfl, _⟩ := h
    rfl
  · obtain ⟨a, vals, rows, rfl, ha, hv, h1000, q, qe⟩ := h
    refine ⟨_, (pss_cons (ps_setLc (i := 1) (own := [("value", 3)]) (g := gName 3) (by rfl) sc_checked_values.nd rfl rfl (sw_true rfl rfl rfl (by decide +kernel)) (pi_any (pv 0)) (blkOk_by (own := [("value", 3)]) (N := N_checked_values) (sc := (defScope s_checked_values)) (by decide +kernel)) (fun _ _ _ _ _ => (pg_name (i := 3) sc_checked_values.nd rfl (.inl rfl))) (fun _ _ _ _ _ => pts_nil) (fun _ _ _ _ _ => (pe_callTy (k_call_tuple_of (K := K) rfl) (by rfl) B.b_tuple (by decide +kernel) (pa_cons (pv 3) pa_nil))))
      (C8.pss_cut (ps_if (PW.pt (pw_or (pt_not (pt_truth (pv 1) (by intro _; rfl))) (pw_or1 (pt_not (pt_truth (pe_ix ix_list (pv 1) pe_int (fun _ _ => rfl)) (by intro _; rfl)))))) 
          (pss_one (ps_raise rfl (takes_of rfl rfl rfl rfl) (pmk_fld O_BadValues (hr.mono (by decide)) (by rfl) (pa_cons pe_int pa_nil)))) pss_nil)
      (pss_cons (ps_for (passes_of rfl) rfl (pi_range2 (by rfl) B.b_range (pa_cons pe_int (pa_cons (pe_callB call_len_seq (by rfl) B.b_len PySem.boot_len (pa_cons (pv 1) pa_nil)) pa_nil))) (pg_name (i := 2) sc_checked_values.nd rfl (.inl rfl)) 
          (pss_one (ps_if (PW.pt (pw_or (pt_cmpR op_ne (pe_callB call_len_seq (by rfl) B.b_len PySem.boot_len (pa_cons (pe_ix ix_list (pv 1) (pv 2) (fun _ _ => rfl)) pa_nil)) (pe_callB call_len_seq (by rfl) B.b_len PySem.boot_len (pa_cons (pe_ix ix_list (pv 1) (pe_op op_sub (pv 2) pe_int) (fun _ _ => rfl)) pa_nil)) (nomark _)) (pw_or1 (pt_cmpR (op_ltT hr.units0) (pe_ix ix_list (pv 1) (pv 2) (fun _ _ => rfl)) (pe_ix ix_list (pv 1) (pe_op op_sub (pv 2) pe_int) (fun _ _ => rfl)) (nomark _))))) 
              (pss_one (ps_raise rfl (takes_of rfl rfl rfl rfl) (pmk_fld O_BadValues (hr.mono (by decide)) (by rfl) (pa_cons (pv 2) pa_nil)))) pss_nil)))
      (pss_one (ps_ret (pv 1)))))), ?_⟩
    have lv := pd_length hv
    refine ⟨_, rfl, a, vals, rfl, ha, fun J wj D nD => lc_it wj (fun i H' => ∃ vals', Same H H' ∧ H' D = some (.lst vals') ∧ Paired (RowAt K H') vals' (rows.take i)) ⟨[], same_new nD, upd_same, .nil⟩ (fun i H' _ hP => ?_) ?_ ?_⟩
    · obtain ⟨_, s1, _⟩ := hP
      exact ⟨ha.same s1, s1⟩
    · rintro i x H1 H2 hi ⟨vals', s1, hD, hv1⟩ ⟨rfl, hx⟩
      obtain ⟨r, hr', b, eb, hb⟩ := pd_get hv hx
      subst eb
      have lv1 : vals'.length ≤ 1000 := by
        rw [pd_length hv1, List.length_take]
        omega
      have hb1 := hb.same s1
      refine ⟨rfl, _, rfl, b, r.map V.int, rfl, ?_⟩
      have fin : ∀ (t : Addr) (H3 : Hp), Same H2 H3 → SqT K H3 t (r.map V.int) → ∃ acc, H3 D = some (.lst acc) ∧ acc.length < sizeLine ∧ ∃ vals', Same H (upd H3 D (.lst (acc ++ [.ref t]))) ∧ (upd H3 D (.lst (acc ++ [.ref t]))) D = some (.lst vals') ∧ Paired (RowAt K (upd H3 D (.lst (acc ++ [.ref t])))) vals' (rows.take (i + 1)) := by
        intro t H3 s3 ht
        refine ⟨vals', s3 _ _ hD, small1000 lv1, vals' ++ [.ref t], fun c o e => ?_, upd_same, ?_⟩
        · rw [upd_ne (ne_of_none e nD)]
          exact s3 _ _ (s1 _ _ e)
        · rw [List.take_add_one, hr']
          have up : ∀ v r, RowAt K H3 v r → RowAt K (upd H3 D (.lst (vals' ++ [.ref t]))) v r := fun v r h => row_upd (s3 _ _ hD) h
          exact pd_app (pd_mono (rows_same s3 hv1) up) (.cons (up _ _ ⟨t, rfl, ht⟩) .nil)
      rcases hb1 with hb1 | hb1
      · exact .inl ⟨hb1, fun l nl => fin l _ (same_new nl) (sqT upd_same)⟩
      · exact .inr ⟨hb1, fin b H2 (Same.refl _) hb1⟩
    · rintro H1 ⟨rvals, s1, hD, hrv⟩
      rw [lv, List.take_length] at hrv
      have lr := pd_length hrv
      refine ⟨fun σ' H' => σ' = [some (.ref a), some (.ref D), none, none] ∧ H1 = H' ∧ rows ≠ [] ∧ rows.getD 0 [] ≠ [], ?_, ?_⟩
      · have bad0 : rows = [] ∨ rows.getD 0 [] = [] → ∀ d H2, Same H1 H2 → H2 d = some (.xd [("index", .int 0)]) → E (.ref cB) (some d) H2 := fun z d H2 s2 hd => qe 0 (by unfold badAt; rw [if_pos z]) H2 d (s1.trans s2) hd
        refine ⟨_, rfl, _, truV_l (sqL hD), ?_⟩
        cases rvals with
        | nil =>
          have e0 : rows = [] := List.eq_nil_of_length_eq_zero lr.symm
          exact mkO_in fun d nd => bad0 (.inl e0) d _ (same_new nd) upd_same
        | cons x rest =>
          obtain ⟨r0, hr0, t0, et, ht0⟩ := pd_get hrv (show (x :: rest)[0]? = some x from rfl)
          subst et
          have eg : rows.getD 0 [] = r0 := by
            rw [List.getD_eq_getElem?_getD, hr0]
            rfl
          have ne : rows ≠ [] := fun z => by
            rw [z] at hr0
            cases hr0
          refine ⟨_, rfl, D, _, 0, _, rfl, rfl, sqL hD, atI_nat (j := 0) rfl, _, truV_t ht0, ?_⟩
          cases r0 with
          | nil => exact mkO_in fun d nd => bad0 (.inr eg) d _ (same_new nd) upd_same
          | cons y ys =>
            refine ⟨rfl, rfl, ne, ?_⟩
            rw [eg]
            exact fun z => nomatch z
      rintro σ' H2 ⟨rfl, rfl, ne0, ne1⟩
      have hbf : badAt rows = badFrom rows (rows.length - 1) := by
        unfold badAt
        rw [if_neg fun z => z.elim ne0 ne1]
      refine ⟨_, rfl, D, _, rfl, .inl (sqL hD), 1, _, rfl, ⟨by decide, by decide, by omega, by omega⟩, for_range (lo := 1) (n := ((rvals.length : Int) - 1).toNat) (fun i σ H' => ∃ v3, σ = [some (.ref a), some (.ref D), v3, none] ∧ H1 = H' ∧ badFrom rows i = none) ⟨none, rfl, rfl, rfl⟩ ?_ ?_⟩
      · rintro i σ H' hi ⟨v3, rfl, rfl, hb⟩
        have i1 : i + 1 < rows.length := by omega
        have i0 : i < rows.length := by omega
        obtain ⟨x1, hx1, t1, et1, ht1⟩ := pd_get' hrv (List.getElem?_eq_getElem i1)
        obtain ⟨x0, hx0, t0, et0, ht0⟩ := pd_get' hrv (List.getElem?_eq_getElem i0)
        subst et1 et0
        have g1 : rows.getD (i + 1) [] = rows[i + 1] := by
          rw [List.getD_eq_getElem?_getD, List.getElem?_eq_getElem i1]
          rfl
        have g0 : rows.getD i [] = rows[i] := by
          rw [List.getD_eq_getElem?_getD, List.getElem?_eq_getElem i0]
          rfl
        have ix1 : atI rvals (1 + (i : Int)) = some (.ref t1) := at_of (j := i + 1) (by omega) hx1
        have ix0 : atI rvals (1 + (i : Int) - 1) = some (.ref t0) := at_of (j := i) (by omega) hx0
        have raise : badNext (rows.getD i []) (rows.getD (i + 1) []) = true → ∀ d, H1 d = none → E (.ref cB) (some d) (upd H1 d (.xd [("index", .int (1 + (i : Int)))])) := fun z d nd => by
          refine qe (i + 1) ?_ _ d (s1.trans (same_new nd)) ?_
          · rw [hbf]
            exact range_some_first _ i (by omega) hb (if_pos z)
          · rw [upd_same, show ((i + 1 : Nat) : Int) = 1 + (i : Int) by omega]
        refine ⟨_, rfl, _, rfl, D, _, _, _, rfl, rfl, sqL hD, ix1, t1, _, rfl, .inr ht1, ?_⟩
        refine ⟨_, rfl, _, rfl, _, _, rfl, rfl, D, _, _, _, rfl, rfl, sqL hD, ix0, t0, _, rfl, .inr ht0, rfl, _, rfl, ?_⟩
        refine iteB (fun e => ?_) (fun e => ?_)
        · refine ⟨_, rfl, mkO_in fun d nd => raise ?_ d nd⟩
          unfold badNext
          rw [g0, g1, decide_eq_true (p := rows[i + 1].length ≠ rows[i].length) (fun z => by simp [z] at e)]
          rfl
        · have el : rows[i + 1].length = rows[i].length := by
            have e' : ((rows[i + 1].length : Nat) : Int) = (rows[i].length : Nat) := by simpa using e
            omega
          refine ⟨_, rfl, _, rfl, D, _, _, _, rfl, rfl, sqL hD, ix1, ?_⟩
          refine ⟨_, rfl, _, rfl, _, _, rfl, rfl, D, _, _, _, rfl, rfl, sqL hD, ix0, t1, t0, _, _, rfl, rfl, ht1, ht0, _, rfl, ?_⟩
          have bn : badNext (rows.getD i []) (rows.getD (i + 1) []) = HT.lexLt rows[i + 1] rows[i] := by
            unfold badNext
            rw [g0, g1, decide_eq_false (p := rows[i + 1].length ≠ rows[i].length) (fun z => z el), Bool.false_or, lex_is]
          refine iteB (fun e2 => ?_) (fun e2 => ?_)
          · exact ⟨_, rfl, mkO_in fun d nd => raise (bn.trans e2) d nd⟩
          · refine ⟨_, rfl, rfl, ?_⟩
            show badFrom rows (i + 1) = none
            unfold badFrom at hb ⊢
            rw [range_some, hb, bn, e2]
            rfl
      · rintro σ H' ⟨v3, rfl, rfl, hb⟩
        rw [show ((rvals.length : Int) - 1).toNat = rows.length - 1 by omega] at hb
        exact ⟨_, rfl, q (hbf.trans hb) H1 D rvals s1 nD hD hrv⟩
abbrev s_reading : Stmt := topS 7
abbrev N_reading : List Str := ["values", "versions", "rows", "version", "cell"]
abbrev P_reading : List Str := ["values", "versions"]
theorem sc_reading : FnScope N_reading P_reading (defScope s_reading) := ⟨rfl, rfl, rfl, by decide +kernel, rfl, by decide +kernel, by decide +kernel⟩
def spReading (K : PySem.W.Frag) (cB cV : Addr) : Sp := fun vs H Q E => ∃ (a b : Addr) (vals : List V) (rows : List (List Int)) (k : List Int), vs = [.ref a, .ref b] ∧ Sq K H a vals ∧ Paired (ValAt K H) vals rows ∧ rows.length ≤ 1000 ∧ Sq K H b (k.map V.int) ∧ k.length ≤ 1000 ∧
  (∀ i, badAt rows = some i → ∀ H' d, Same H H' → H' d = some (.xd [("index", .int (i : Nat))]) → E (.ref cB) (some d) H') ∧
  (badAt rows = none → versOk rows k → ∀ H' p, Same H H' → H p = none → H' p = some (.tup ((rowV rows k).map V.int)) → Q (.ref p) H') ∧
  (badAt rows = none → ¬ versOk rows k → ∀ H', Same H H' → E (.ref cV) none H')
theorem ok_reading {f cB cV : Addr} {fd : FuncData} (F : Fun K "reading" "reading" s_reading f fd) (B : Bi mg) (E_BadVersions : Ec K mg "BadVersions" cV) (C_checked_values : Cal P w K mg base (L2.CX P w) 3 "checked_values" P_checked_values (spChecked K cB)) : FnOk P w K mg base (L2.CX P w) 4 f fd P_reading (spReading K cB cV) := by
  refine F.okX sc_reading (fun vs H Q E h => ?_) (fun cdv A outer s H vs Q E hr h => ?_)
  · obtain ⟨a, b, vals, rows, k, rfl, _⟩ := h
    rfl
  · obtain ⟨a, b, vals, rows, k, rfl, ha, hv, h1000, hb, hk1000, qB, q, qV⟩ := h
    refine ⟨_, (pss_cons (ps_set (i := 2) sc_reading.nd rfl (.inr rfl) (pe_cal C_checked_values (hr.mono (by decide)) (by rfl) (passes_call (takes_of rfl rfl rfl rfl) (fun _ _ _ _ h => h)) (pa_cons (pv 0) pa_nil)))
      (pss_cons (ps_if (pt_cmpR op_ne (pe_callB call_len_seq (by rfl) B.b_len PySem.boot_len (pa_cons (pv 1) pa_nil)) (pe_callB call_len_seq (by rfl) B.b_len PySem.boot_len (pa_cons (pe_ix ix_list (pv 2) pe_int (fun _ _ => rfl)) pa_nil)) (nomark _)) 
          (pss_one (ps_raise rfl (takes_of rfl rfl rfl rfl) (pmk_own0 PySem.F.excBase_ValueError E_BadVersions.xC E_BadVersions.gC E_BadVersions.kC (raises_own E_BadVersions.bC E_BadVersions.tC) (by rfl)))) pss_nil)
      (pss_cons (ps_for (passes_of rfl) rfl (pi_any (pv 1)) (pg_name (i := 3) sc_reading.nd rfl (.inl rfl)) 
          (pss_one (ps_if (pt_not (pt_chain op_le op_lt pe_int (pv 3) (pe_callB call_len_seq (by rfl) B.b_len PySem.boot_len (pa_cons (pv 2) pa_nil)))) 
              (pss_one (ps_raise rfl (takes_of rfl rfl rfl rfl) (pmk_own0 PySem.F.excBase_ValueError E_BadVersions.xC E_BadVersions.gC E_BadVersions.kC (raises_own E_BadVersions.bC E_BadVersions.tC) (by rfl)))) pss_nil)))
      (pss_one (ps_ret (pe_callTy call_tuple_of (by rfl) B.b_tuple (by decide +kernel) (pa_cons (pe_lc (own := [("cell", 4), ("version", 3)]) (g := gTup K 2 (gCons (gName 4) (gCons (gName 3) gNil))) (by rfl) sc_reading.nd (pi_enumS (by rfl) B.b_enumerate (pa_cons (pv 1) pa_nil)) (blkOk_by (own := [("cell", 4), ("version", 3)]) (N := N_reading) (sc := (defScope s_reading)) (by decide +kernel)) (fun _ _ _ _ _ => (k_pg_tup (K := K) (pg_tup (by rfl) (pgs_cons (pg_name (i := 4) sc_reading.nd rfl (.inl rfl)) (pgs_cons (pg_name (i := 3) sc_reading.nd rfl (.inl rfl)) pgs_nil))) rfl)) (fun _ _ _ _ _ => pts_nil) (fun _ _ _ _ _ => (pe_ix (k_ix_tup (K := K) rfl) (pe_ix (k_ix_list (K := K) rfl) (pv 2) (pv 3) (fun _ _ => rfl)) (pv 4) (fun _ _ => rfl)))) pa_nil))))))), ?_⟩
    refine ⟨_, rfl, a, vals, rows, rfl, ha, hv, h1000, fun hbad H1 D rvals s1 nD hD hrv => ?_, qB⟩
    obtain ⟨ne0, ne1, _⟩ := bad_none hbad
    have hb1 := hb.same s1
    have lr := pd_length hrv
    have h0 : 0 < rows.length := List.length_pos_iff.mpr ne0
    obtain ⟨x0, hx0, t0, et0, ht0⟩ := pd_get' hrv (List.getElem?_eq_getElem h0)
    subst et0
    have g0 : rows.getD 0 [] = rows[0] := by
      rw [List.getD_eq_getElem?_getD, List.getElem?_eq_getElem h0]
      rfl
    have bad : ¬ versOk rows k → ∀ H', Same H1 H' → E (.ref cV) none H' := fun z H' s => qV hbad z H' (s1.trans s)
    refine ⟨_, rfl, b, _, rfl, hb1, ?_⟩
    refine ⟨_, rfl, D, _, 0, _, rfl, rfl, sqL hD, atI_nat (j := 0) hx0, t0, _, rfl, .inr ht0, rfl, _, rfl, ?_⟩
    refine iteB (fun e => ?_) (fun e => ?_)
    · refine bad (fun z => ?_) H1 (Same.refl _)
      have := z.1
      rw [g0] at this
      rw [List.length_map, List.length_map, this] at e
      simp at e
    · have el : k.length = rows[0].length := by
        have e' : ((k.length : Nat) : Int) = (rows[0].length : Nat) := by simpa using e
        omega
      refine ⟨_, rfl, b, _, rfl, hb1, fun J wj => for_it wj (fun i σ H' => ∃ v3, σ = [some (.ref a), some (.ref b), some (.ref D), v3, none] ∧ Same H1 H' ∧ ∀ x ∈ k.take i, 0 ≤ x ∧ x < (rows.length : Int)) ⟨none, rfl, Same.refl _, fun x hx => by simp at hx⟩ (fun i σ H' _ hP => ?_) ?_ ?_⟩
      · obtain ⟨_, _, s2, _⟩ := hP
        exact ⟨hb1.same s2, s2⟩
      · rintro i x σ H2 H3 hi ⟨v3, rfl, s2, hall⟩ ⟨rfl, hx⟩
        rw [List.length_map] at hi
        have ex : x = .int (k.getD i 0) := (int_at hx).2
        subst ex
        have hmem : k.getD i 0 ∈ k := by
          rw [List.getD_eq_getElem?_getD, List.getElem?_eq_getElem hi]
          exact List.getElem_mem hi
        refine ⟨_, rfl, _, _, rfl, rfl, _, rfl, ?_⟩
        refine ite2 (fun e1 => ?_) (fun e1 => ?_)
        · refine ⟨_, rfl, D, _, rfl, .inl (sqL (s2 _ _ hD)), _, _, rfl, rfl, _, rfl, ?_⟩
          refine iteB (fun e2 => ?_) (fun e2 => ?_)
          · refine bad (fun z => ?_) H3 s2
            have h1 := (z.2 _ hmem).2
            rw [← lr] at h1
            rw [decide_eq_true h1] at e2
            cases e2
          · refine ⟨_, rfl, s2, fun y hy => ?_⟩
            have h1 : k.getD i 0 < (rvals.length : Int) := by
              by_cases h : k.getD i 0 < (rvals.length : Int)
              · exact h
              · rw [decide_eq_false h] at e2
                cases e2
            rw [take_snoc k i hi] at hy
            rcases List.mem_append.mp hy with h | h
            · exact hall y h
            · have : y = k.getD i 0 := by simpa using h
              rw [this, ← lr]
              exact ⟨of_decide_eq_true e1, h1⟩
        · refine ⟨_, rfl, ?_⟩
          refine iteT ?_
          refine bad (fun z => e1 (decide_eq_true (z.2 _ hmem).1)) H3 s2
      · rintro σ H2 ⟨v3, rfl, s2, hall⟩
        rw [List.length_map, List.take_length] at hall
        have hok : versOk rows k := ⟨by rw [g0]; exact el, hall⟩
        have hin := versOk_in hok ne0
        have hb2 := hb1.same s2
        refine ⟨_, rfl, b, _, rfl, hb2, fun J wj D2 nD2 => lc_it wj (fun i H' => Same H2 H' ∧ H' D2 = some (.lst (((List.range i).map fun i => (rows.getD (k.getD i 0).toNat []).getD i 0).map V.int))) ⟨same_new nD2, upd_same⟩ (fun i H' _ hP => ⟨hb2.same hP.1, hP.1⟩) ?_ ?_⟩
        · rintro i x H3 H4 hi ⟨s3, hD2⟩ ⟨T, u, v, rfl, nT, rfl, eu, ev⟩
          rw [List.length_map] at hi
          have eu' : u = .int ((i : Nat) : Int) := (Option.some.inj eu).symm
          have ev' : v = .int (k.getD i 0) := (int_at ev).2
          subst eu' ev'
          obtain ⟨h1, h2⟩ := hin.get hi
          have hlt : (k.getD i 0).toNat < rows.length := by omega
          obtain ⟨y, hy, tr, etr, htr⟩ := pd_get' hrv (List.getElem?_eq_getElem hlt)
          subst etr
          have eg : rows.getD (k.getD i 0).toNat [] = rows[(k.getD i 0).toNat] := by
            rw [List.getD_eq_getElem?_getD, List.getElem?_eq_getElem hlt]
            rfl
          have hlen : rows[(k.getD i 0).toNat].length = rows[0].length := by
            have := bad_len' hbad (List.getElem_mem hlt)
            rw [g0] at this
            exact this
          have s4 := same_new (o := .tup [.int ((i : Nat) : Int), .int (k.getD i 0)]) nT
          have s14 := s2.trans (s3.trans s4)
          refine ⟨T, _, rfl, sqT upd_same, rfl, _, _, rfl, _, _, rfl, rfl, rfl, ?_⟩
          refine ⟨_, rfl, _, rfl, D, _, _, _, rfl, rfl, sqL (s14 _ _ hD), at_of (j := (k.getD i 0).toNat) (by omega) hy, _, rfl, tr, _, _, _, rfl, rfl, same_t s14 htr, at_int (j := i) rfl (by omega), ?_⟩
          refine ⟨_, s4 _ _ hD2, by rw [List.length_map, List.length_map, List.length_range]; exact small1000 (by omega), fun c o e => ?_, ?_⟩
          · rw [upd_ne (ne_of_none e nD2)]
            exact s4 _ _ (s3 _ _ e)
          · rw [upd_same, List.range_succ, List.map_append, List.map_append, ← eg]
            rfl
        · rintro H3 ⟨s3, hD2⟩
          rw [List.length_map] at hD2
          refine ⟨D2, _, rfl, .inl ⟨sqL hD2, fun p np => ?_⟩⟩
          have s4 := s1.trans (s2.trans s3)
          exact q hbad hok _ p (s4.trans (same_new np)) (s4.free np) upd_same
end
end Dg
namespace Dg
open PySem PySem.Spec PyProof.Rows L2
local macro_rules | `(tactic| walk_at "rd1") => `(tactic| first | refine ⟨_, rfl, ?_⟩ | refine ⟨_, _, rfl, rfl, ?_⟩)
local macro_rules | `(tactic| walk_at "rd") => `(tactic| repeat walk_at "rd1")
section
variable {P : Program} {w : World} {K : PySem.W.Frag} {mg : Str → Option Value} {base : Heap}
abbrev s_turned_values : Stmt := topS 11
abbrev N_turned_values : List Str := ["many", "cells", "version", "last", "below", "above"]
abbrev P_turned_values : List Str := ["many", "cells", "version", "last"]
theorem sc_turned_values : FnScope N_turned_values P_turned_values (defScope s_turned_values) := ⟨rfl, rfl, rfl, by decide +kernel, rfl, by decide +kernel, by decide +kernel⟩
def spTurned (K : PySem.W.Frag) : Sp := fun vs H Q _ => ∃ (c : Addr) (n : Nat) (cs : List Int) (p last : Int), vs = [.int n, .ref c, .int p, .int last] ∧ SqT K H c (cs.map V.int) ∧ n ≤ 1000 ∧ (cs.length = 1 ∨ cs.length = 2) ∧ (∀ x ∈ cs, 0 ≤ x ∧ x < (n : Int)) ∧ 0 ≤ p ∧ p ≤ last ∧ last < 1000 ∧
  (∀ H' D vals, Same H H' → H D = none → H' D = some (.lst vals) → Paired (RowAt K H') vals (turnV n cs p last) → Q (.ref D) H')
theorem ok_turned {f : Addr} {fd : FuncData} (F : Fun K "turned_values" "turned_values" s_turned_values f fd) (B : Bi mg) : FnOk P w K mg base CX0 1 f fd P_turned_values (spTurned K) := by
  refine F.ok sc_turned_values (fun vs H Q E h => ?_) (fun cdv A outer s H vs Q E hr h => ?_)
  · obtain ⟨c, n, cs, p, last, rfl, _⟩ := h
    rfl
  · obtain ⟨c, n, cs, p, last, rfl, hc, hn, hlen, hcs, p0, pl, l1000, q⟩ := h
    refine ⟨_, (pss_cons (ps_set (i := 4) sc_turned_values.nd rfl (.inl rfl) (pe_op op_rep (pe_lst (pa_cons pe_int pa_nil)) (pv 0)))
      (pss_cons (ps_set (i := 5) sc_turned_values.nd rfl (.inl rfl) (pe_op op_rep (pe_lst (pa_cons pe_int pa_nil)) (pv 0)))
      (pss_cons (ps_asg pe_int (pg_sub (pv 5) (pe_ix ix_tup (pv 1) pe_int (fun _ _ => rfl)) set_list))
      (C8.pss_cut (ps_if (pt_cmpR op_eq (pe_callB call_len_seq (by rfl) B.b_len PySem.boot_len (pa_cons (pv 1) pa_nil)) pe_int (nomark _)) 
          (pss_one (ps_asg pe_int (pg_sub (pv 4) (pe_ix ix_tup (pv 1) pe_int (fun _ _ => rfl)) set_list))) pss_nil)
      (pss_one (ps_ret (pe_op op_cat (pe_op op_rep (pe_lst (pa_cons (pe_callTy call_tuple_of (by rfl) B.b_tuple (by decide +kernel) (pa_cons (pv 4) pa_nil)) pa_nil)) (pv 2)) (pe_op op_rep (pe_lst (pa_cons (pe_callTy call_tuple_of (by rfl) B.b_tuple (by decide +kernel) (pa_cons (pv 5) pa_nil)) pa_nil)) (pe_op op_sub (pe_op op_add (pv 3) pe_int) (pv 2)))))))))), ?_⟩
    refine ⟨by show 1 ≤ sizeLine; decide, fun p1 np1 => ⟨_, rfl, p1, _, _, rfl, rfl, upd_same, by omega, by omega, by show 1 * _ ≤ _; rw [Nat.one_mul]; exact Nat.le_of_lt (small1000 (by omega)), fun p2 np2 => ?_⟩⟩
    rw [rep_one, Int.toNat_natCast]
    refine ⟨by show 1 ≤ sizeLine; decide, fun p3 np3 => ⟨_, rfl, p3, _, _, rfl, rfl, upd_same, by omega, by omega, by show 1 * _ ≤ _; rw [Nat.one_mul]; exact Nat.le_of_lt (small1000 (by omega)), fun p4 np4 => ?_⟩⟩
    rw [rep_one, Int.toNat_natCast]
    have s1 := same_new (o := .lst [V.int 0]) np1
    have s2 := same_new (o := .lst (List.replicate n (V.int 0))) np2
    have s3 := same_new (o := .lst [V.int 0]) np3
    have s4 := same_new (o := .lst (List.replicate n (V.int 0))) np4
    have s14 := s1.trans (s2.trans (s3.trans s4))
    have h0 : 0 < cs.length := by omega
    have hx0 := hcs _ (getD_in h0)
    have n42 : p2 ≠ p4 := ne_of_none (s3 _ _ upd_same) np4
    have h2 : _ = some (HO.lst _) := s3 _ _ (upd_same (H := upd H p1 (.lst [V.int 0])) (a := p2) (o := .lst (List.replicate n (V.int 0))))
    refine ⟨_, rfl, _, rfl, c, _, 0, _, rfl, rfl, same_t s14 hc, at_int (j := 0) rfl h0, p4, _, _, (cs.getD 0 0).toNat, rfl, rfl, upd_same, ?_, ?_⟩
    · rw [List.length_replicate]
      exact ix_of hx0.1 (by omega)
    rw [upd_upd]
    refine ⟨fun σ' H' => σ' = [some (.int n), some (.ref c), some (.int p), some (.int last), some (.ref p2), some (.ref p4)] ∧ Same H H' ∧ H' p2 = some (.lst ((lowV n cs).map V.int)) ∧ H' p4 = some (.lst ((highV n cs).map V.int)), ?_, ?_⟩
    · have f2 : H p2 = none := s1.free np2
      have f4 : H p4 = none := (s1.trans (s2.trans s3)).free np4
      refine ⟨_, rfl, c, _, rfl, .inr (same_t (same_updF (s1.trans (s2.trans s3)) f4) hc), rfl, _, rfl, ?_⟩
      refine ite2 (fun e => ?_) (fun e => ?_)
      · have e' : cs.length = 2 := by
          have := V.int.inj (of_decide_eq_true e)
          rw [List.length_map] at this
          omega
        have hx1 := hcs _ (getD_in (k := cs) (i := 1) (by omega))
        refine ⟨_, rfl, _, rfl, c, _, 1, _, rfl, rfl, same_t (same_updF (s1.trans (s2.trans s3)) f4) hc, at_int (j := 1) rfl (by omega), p2, List.replicate n (V.int 0), _, (cs.getD 1 0).toNat, rfl, rfl, ?_, ?_, ?_⟩
        · rw [upd_ne n42]
          exact h2
        · rw [List.length_replicate]
          exact ix_of hx1.1 (by omega)
        refine ⟨rfl, same_updF (same_updF (s1.trans (s2.trans s3)) f4) f2, ?_, ?_⟩
        · rw [upd_same, set_ints]
          unfold lowV
          rw [if_pos e']
        · rw [upd_ne (Ne.symm n42), upd_same, set_ints]
          rfl
      · have e' : ¬ cs.length = 2 := fun z => e (by rw [List.length_map, z]; rfl)
        refine ⟨rfl, same_updF (s1.trans (s2.trans s3)) f4, ?_, ?_⟩
        · rw [upd_ne n42, h2]
          unfold lowV
          rw [if_neg e', List.map_replicate]
        · rw [upd_same, set_ints]
          rfl
    · rintro σ' H' ⟨rfl, s5, e2, e4⟩
      refine ⟨_, rfl, p2, _, rfl, .inl ⟨sqL e2, fun t1 nt1 => ?_⟩⟩
      have s6 := same_new (o := .tup ((lowV n cs).map V.int)) nt1
      refine ⟨by show 1 ≤ sizeLine; decide, fun l1 nl1 => ⟨_, rfl, l1, p, [V.ref t1], rfl, rfl, upd_same, by omega, by omega, by show 1 * _ ≤ _; rw [Nat.one_mul]; exact Nat.le_of_lt (small1000 (by omega)), fun l2 nl2 => ?_⟩⟩
      rw [rep_one]
      have s7 := same_new (o := .lst [V.ref t1]) nl1
      have s8 := same_new (o := .lst (List.replicate p.toNat (V.ref t1))) nl2
      have s68 := s6.trans (s7.trans s8)
      refine ⟨_, rfl, p4, _, rfl, .inl ⟨sqL (s68 _ _ e4), fun t2 nt2 => ?_⟩⟩
      have s9 := same_new (o := .tup ((highV n cs).map V.int)) nt2
      refine ⟨by show 1 ≤ sizeLine; decide, fun l3 nl3 => ?_⟩
      refine ⟨_, rfl, _, _, rfl, rfl, _, rfl, _, _, rfl, rfl, l3, last + 1 - p, [V.ref t2], rfl, rfl, upd_same, by omega, by omega, by show 1 * _ ≤ _; rw [Nat.one_mul]; exact Nat.le_of_lt (small1000 (by omega)), fun l4 nl4 => ?_⟩
      rw [rep_one]
      have s10 := same_new (o := .lst [V.ref t2]) nl3
      have s11 := same_new (o := .lst (List.replicate (last + 1 - p).toNat (V.ref t2))) nl4
      have s911 := s9.trans (s10.trans s11)
      refine ⟨_, _, _, _, rfl, rfl, s911 _ _ upd_same, upd_same, ?_, fun l5 nl5 => ?_⟩
      · rw [List.length_replicate, List.length_replicate]
        exact Nat.le_of_lt (small1000 (by omega))
      have s12 := same_new (o := .lst (List.replicate p.toNat (V.ref t1) ++ List.replicate (last + 1 - p).toNat (V.ref t2))) nl5
      have sAll := s68.trans (s911.trans s12)
      refine q _ _ _ (s5.trans sAll) ((s5.trans (s68.trans s911)).free nl5) upd_same (pd_app (pd_rep ?_ _) (pd_rep ?_ _))
      · exact sqT ((s7.trans (s8.trans (s911.trans s12))) _ _ upd_same)
      · exact sqT ((s10.trans (s11.trans s12)) _ _ upd_same)
abbrev s_shown : Stmt := topS 9
abbrev N_shown : List Str := ["one", "other", "found", "cells", "version", "last"]
abbrev P_shown : List Str := ["one", "other"]
theorem sc_shown : FnScope N_shown P_shown (defScope s_shown) := ⟨rfl, rfl, rfl, by decide +kernel, rfl, by decide +kernel, by decide +kernel⟩
def spShown (K : PySem.W.Frag) (cV : Addr) : Sp := fun vs H Q E => ∃ (a b : Addr) (k l : List Int) (m : Nat), vs = [.ref a, .ref b] ∧ Sq K H a (k.map V.int) ∧ Sq K H b (l.map V.int) ∧ k.length ≤ 1000 ∧ AllIn k m ∧ AllIn l m ∧ m < 1000 ∧
  (k.length = l.length ∧ k ≠ [] → (faultV k l = none → ∀ H', Same H H' → Q .non H') ∧
    (∀ cs p last, faultV k l = some (cs, p) → last ∈ k ++ l → (∀ y ∈ k ++ l, y ≤ last) → ∀ H' D vals, Same H H' → H D = none → H' D = some (.lst vals) → Paired (RowAt K H') vals (turnV k.length cs p last) → Q (.ref D) H')) ∧
  (¬ (k.length = l.length ∧ k ≠ []) → E (.ref cV) none H)
theorem ok_shown {f cV : Addr} {fd : FuncData} (F : Fun K "shown" "shown" s_shown f fd) (B : Bi mg) (C_check_lengths : Cal P w K mg base (L2.CX P w) 1 "check_lengths" P_check_lengths (spCheck K cV))
    (C_fault : Cal P w K mg base CX0 2 "fault" P_fault (spFault K)) (C_turned_values : Cal P w K mg base CX0 1 "turned_values" P_turned_values (spTurned K)) : FnOk P w K mg base (L2.CX P w) 3 f fd P_shown (spShown K cV) := by
  refine F.okX sc_shown (fun vs H Q E h => ?_) (fun cdv A outer s H vs Q E hr h => ?_)
  · obtain ⟨a, b, k, l, m, rfl, _⟩ := h
    rfl
  · obtain ⟨a, b, k, l, m, rfl, ha, hb, h1000, hk, hl, hm, q, qe⟩ := h
    refine ⟨_, (pss_cons (ps_expr (pe_cal C_check_lengths (hr.mono (by decide)) (by rfl) (passes_call (takes_of rfl rfl rfl rfl) (fun _ _ _ _ h => h)) (pa_cons (pv 0) (pa_cons (pv 1) pa_nil))))
      (pss_cons (ps_set (i := 2) sc_shown.nd rfl (.inl rfl) (pe_cal C_fault (hr.mono (by decide)) (by rfl) pass0 (pa_cons (pv 0) (pa_cons (pv 1) pa_nil))))
      (pss_cons (ps_if (pt_cmpR op_isN (pv 2) pe_non (nomark _)) 
          (pss_one (ps_ret pe_non)) pss_nil)
      (pss_cons (ps_asg (pv 2) (pg_tup (by rfl) (pgs_cons (pg_name (i := 3) sc_shown.nd rfl (.inl rfl)) (pgs_cons (pg_name (i := 4) sc_shown.nd rfl (.inl rfl)) pgs_nil))))
      (pss_cons (ps_set (i := 5) sc_shown.nd rfl (.inl rfl) (pe_callB (call_max2 rfl) (by rfl) B.b_max (by decide +kernel) (pa_cons (pe_callB (cr_maxA rfl) (by rfl) B.b_max (by decide +kernel) (pa_cons (pv 0) pa_nil)) (pa_cons (pe_callB (cr_maxA rfl) (by rfl) B.b_max (by decide +kernel) (pa_cons (pv 1) pa_nil)) pa_nil))))
      (pss_one (ps_ret (pe_cal C_turned_values (hr.mono (by decide)) (by rfl) pass0 (pa_cons (pe_callB call_len_seq (by rfl) B.b_len PySem.boot_len (pa_cons (pv 0) pa_nil)) (pa_cons (pv 3) (pa_cons (pv 4) (pa_cons (pv 5) pa_nil)))))))))))), ?_⟩
    refine ⟨_, rfl, _, rfl, a, b, _, _, rfl, ha, hb, fun hkl => ?_, fun hkl => ?_⟩
    · rw [List.length_map, List.length_map] at hkl
      have hk2 : k ≠ [] := fun z => hkl.2 (by rw [z]; rfl)
      have q2 := q ⟨hkl.1, hk2⟩
      have k0 : 0 < k.length := List.length_pos_iff.mpr hk2
      refine ⟨_, rfl, _, rfl, a, b, k, l, rfl, ha, hb, hkl.1, h1000, fun h0 H' s1 => ?_, fun cs p h0 H' t r s1 e1 e2 => ?_⟩
      · refine ⟨_, rfl, rfl, _, rfl, ?_⟩
        exact iteT (q2.1 h0 H' s1)
      · refine ⟨_, rfl, rfl, _, rfl, ?_⟩
        refine iteF ?_
        refine ⟨_, rfl, t, _, rfl, sqT e1, rfl, _, _, rfl, _, _, rfl, rfl, ?_⟩
        refine ⟨_, rfl, a, k, rfl, ha.same s1, k0, fun m1 h1 h2 => ⟨_, rfl, b, l, rfl, hb.same s1, by omega, fun m2 h3 h4 => ⟨m1, m2, rfl, ?_⟩⟩⟩
        generalize hlast : (if m2 > m1 then m2 else m1) = last
        have l1 : last ∈ k ++ l := by
          rw [List.mem_append, ← hlast]
          split
          · exact .inr h3
          · exact .inl h1
        have l2 : ∀ y ∈ k ++ l, y ≤ last := by
          intro y hy
          rw [← hlast]
          rcases List.mem_append.mp hy with z | z
          · have := h2 y z
            split <;> omega
          · have := h4 y z
            split <;> omega
        have l0 : 0 ≤ last ∧ last ≤ (m : Int) := by
          rcases List.mem_append.mp l1 with z | z
          · exact hk _ z
          · exact hl _ z
        have hkl' : AllIn k (last.toNat : Int) := fun y hy => ⟨(hk y hy).1, by have := l2 y (List.mem_append_left _ hy); omega⟩
        have hll' : AllIn l (last.toNat : Int) := fun y hy => ⟨(hl y hy).1, by have := l2 y (List.mem_append_right _ hy); omega⟩
        obtain ⟨⟨p1, p2⟩, hc⟩ := fault_some hkl'.inV hll'.inV rfl hkl.1.symm h0
        have hcs : (cs.length = 1 ∨ cs.length = 2) ∧ ∀ x ∈ cs, 0 ≤ x ∧ x < (k.length : Int) := by
          rcases hc with ⟨c, hcn, rfl, _⟩ | ⟨c, d, hcd, hdn, rfl, _⟩
          · refine ⟨.inl rfl, fun x hx => ?_⟩
            have : x = c := by simpa using hx
            omega
          · refine ⟨.inr rfl, fun x hx => ?_⟩
            have : x = c ∨ x = d := by simpa using hx
            omega
        refine ⟨_, rfl, a, _, rfl, ha.same s1, _, rfl, _, rfl, _, rfl, r, k.length, cs, p, last, ?_, sqT e2, h1000, hcs.1, hcs.2, by omega, by omega, by omega, fun H2 D vals s2 nD hD hv => ?_⟩
        · rw [List.length_map]
          rfl
        · exact q2.2 cs p last h0 l1 l2 H2 D vals (s1.trans s2) (s1.free nD) hD hv
    · refine qe fun z => hkl ?_
      rw [List.length_map, List.length_map]
      exact ⟨z.1, fun y => z.2 (List.map_eq_nil_iff.mp y)⟩
end
end Dg
namespace Dg
open PySem PySem.Spec PyProof.Rows L2
local macro_rules | `(tactic| walk_at "rd1") => `(tactic| first | refine ⟨_, rfl, ?_⟩ | refine ⟨_, _, rfl, rfl, ?_⟩)
local macro_rules | `(tactic| walk_at "rd") => `(tactic| repeat walk_at "rd1")
section
variable {P : Program} {w : World} {K : PySem.W.Frag} {mg : Str → Option Value} {base : Heap}
abbrev s_is_as_told : Stmt := topS 19
abbrev N_is_as_told : List Str := ["values", "cells", "most", "first", "last", "moved", "low", "high", "p", "cell", "row"]
abbrev P_is_as_told : List Str := ["values", "cells", "most"]
theorem sc_is_as_told : FnScope N_is_as_told P_is_as_told (defScope s_is_as_told) := ⟨rfl, rfl, rfl, by decide +kernel, rfl, by decide +kernel, by decide +kernel⟩
def spTold (K : PySem.W.Frag) : Sp := fun vs H Q _ => ∃ (D : Addr) (n : Nat) (cs : List Int) (p last : Int) (vals : List V), vs = [.ref D, .int n, .int last] ∧ H D = some (.lst vals) ∧ Paired (RowAt K H) vals (turnV n cs p last) ∧ n ≤ 1000 ∧ Cells n cs ∧ 1 ≤ p ∧ p ≤ last ∧ last < 1000 ∧
  (∀ H', Same H H' → Q (.bl true) H')
theorem ok_told {f : Addr} {fd : FuncData} (F : Fun K "_law_is_as_told" "_law_is_as_told" s_is_as_told f fd) (B : Bi mg) : FnOk P w K mg base CX0 1 f fd P_is_as_told (spTold K) := by
  refine F.ok sc_is_as_told (fun vs H Q E h => ?_) (fun cdv A outer s H vs Q E hr h => ?_)
  · obtain ⟨D, n, cs, p, last, vals, rfl, _⟩ := h
    rfl
  · obtain ⟨D, n, cs, p, last, vals, rfl, hD, hv, hn, hcs, p1, pl, l1000, q⟩ := h
    refine ⟨_, (pss_cons (ps_if (PW.pt (pw_or (pt_not (pt_val (pe_callB call_isi (by rfl) B.b_isinstance (by decide +kernel) (pa_cons (pv 0) (pa_cons (pe_bltn (by rfl) B.b_list boot_list (rel_ty _)) pa_nil))))) (pw_or1 (pt_cmpR op_ne (pe_callB call_len_seq (by rfl) B.b_len PySem.boot_len (pa_cons (pv 0) pa_nil)) (pe_op op_add (pv 2) pe_int) (nomark _))))) 
          (pss_one (ps_ret pe_bl)) pss_nil)
      (pss_cons (ps_if (pt_cmpR (op_neD hr.units) (pe_lc (own := [("row", 10)]) (g := gName 10) (by rfl) sc_is_as_told.nd (pi_list (pv 0)) (blkOk_by (own := [("row", 10)]) (N := N_is_as_told) (sc := (defScope s_is_as_told)) (by decide +kernel)) (fun _ _ _ _ _ => (pg_name (i := 10) sc_is_as_told.nd rfl (.inl rfl))) (fun _ _ _ _ _ => (pts_one (PW.pt (pw_or (pt_not (pt_val (pe_callB (k_call_isi (K := K) rfl) (by rfl) B.b_isinstance (by decide +kernel) (pa_cons (pv 10) (pa_cons (pe_bltn (by rfl) B.b_tuple boot_tuple (rel_ty _)) pa_nil))))) (pw_or1 (pt_cmpR op_ne (pe_callB (k_call_len_seq (K := K) rfl) (by rfl) B.b_len PySem.boot_len (pa_cons (pv 10) pa_nil)) (pv 1) (nomark _))))))) (fun _ _ _ _ _ => (pv 10))) (pe_lst pa_nil) (nomark _)) 
          (pss_one (ps_ret pe_bl)) pss_nil)
      (pss_cons (ps_asg (pe_tup (pa_cons (pe_ix ix_list (pv 0) pe_int (fun _ _ => rfl)) (pa_cons (pe_ix ix_list (pv 0) (pe_un un_neg pe_int) (fun _ _ => rfl)) pa_nil))) (pg_tup (by rfl) (pgs_cons (pg_name (i := 3) sc_is_as_told.nd rfl (.inr rfl)) (pgs_cons (pg_name (i := 4) sc_is_as_told.nd rfl (.inr rfl)) pgs_nil))))
      (pss_cons (ps_setLc (i := 5) (own := [("cell", 9)]) (g := gName 9) (by rfl) sc_is_as_told.nd rfl rfl (sw_true rfl rfl rfl (by decide +kernel)) (pi_range1 (by rfl) B.b_range (pa_cons (pv 1) pa_nil)) (blkOk_by (own := [("cell", 9)]) (N := N_is_as_told) (sc := (defScope s_is_as_told)) (by decide +kernel)) (fun _ _ _ _ _ => (pg_name (i := 9) sc_is_as_told.nd rfl (.inl rfl))) (fun _ _ _ _ _ => (pts_one (pt_cmpR op_ne (pe_ix (k_ix_tup (K := K) rfl) (pv 3) (pv 9) (fun _ _ => rfl)) (pe_ix (k_ix_tup (K := K) rfl) (pv 4) (pv 9) (fun _ _ => rfl)) (nomark _)))) (fun _ _ _ _ _ => (pv 9)))
      (pss_cons (ps_if (pt_cmpR op_notIn_seq (pe_callB call_len_seq (by rfl) B.b_len PySem.boot_len (pa_cons (pv 5) pa_nil)) (pe_tup (pa_cons pe_int (pa_cons pe_int pa_nil))) (by rfl)) 
          (pss_one (ps_ret pe_bl)) pss_nil)
      (pss_cons (ps_asg (pe_tup (pa_cons (pe_op op_rep (pe_lst (pa_cons pe_int pa_nil)) (pv 1)) (pa_cons (pe_op op_rep (pe_lst (pa_cons pe_int pa_nil)) (pv 1)) pa_nil))) (pg_tup (by rfl) (pgs_cons (pg_name (i := 6) sc_is_as_told.nd rfl (.inr rfl)) (pgs_cons (pg_name (i := 7) sc_is_as_told.nd rfl (.inl rfl)) pgs_nil))))
      (pss_cons (ps_asg pe_int (pg_sub (pv 7) (pe_ix ix_list (pv 5) pe_int (fun _ _ => rfl)) set_list))
      (C8.pss_cut (ps_if (pt_cmpR op_eq (pe_callB call_len_seq (by rfl) B.b_len PySem.boot_len (pa_cons (pv 5) pa_nil)) pe_int (nomark _)) 
          (pss_one (ps_asg pe_int (pg_sub (pv 6) (pe_ix ix_list (pv 5) pe_int (fun _ _ => rfl)) set_list))) pss_nil)
      (pss_cons (ps_set (i := 8) sc_is_as_told.nd rfl (.inl rfl) (pe_callB call_len_seq (by rfl) B.b_len PySem.boot_len (pa_cons (pe_lc (own := [("row", 10)]) (g := gName 10) (by rfl) sc_is_as_told.nd (pi_list (pv 0)) (blkOk_by (own := [("row", 10)]) (N := N_is_as_told) (sc := (defScope s_is_as_told)) (by decide +kernel)) (fun _ _ _ _ _ => (pg_name (i := 10) sc_is_as_told.nd rfl (.inl rfl))) (fun _ _ _ _ _ => (pts_one (pt_cmpR (k_op_eqD (K := K) rfl hr.units) (pv 10) (pe_callTy (k_call_tuple_of (K := K) rfl) (by rfl) B.b_tuple (by decide +kernel) (pa_cons (pv 6) pa_nil)) (nomark _)))) (fun _ _ _ _ _ => (pv 10))) pa_nil)))
      (pss_one (ps_ret (pe_and (pe_cmpR op_gt (pv 8) pe_int (nomark _)) (pe_one (pe_cmpR (op_eqD hr.units) (pv 0) (pe_op op_cat (pe_op op_rep (pe_lst (pa_cons (pe_callTy call_tuple_of (by rfl) B.b_tuple (by decide +kernel) (pa_cons (pv 6) pa_nil)) pa_nil)) (pv 8)) (pe_op op_rep (pe_lst (pa_cons (pe_callTy call_tuple_of (by rfl) B.b_tuple (by decide +kernel) (pa_cons (pv 7) pa_nil)) pa_nil)) (pe_op op_sub (pe_op op_add (pv 2) pe_int) (pv 8)))) (nomark _))))))))))))))), ?_⟩
    have lv : vals.length = last.toNat + 1 := by rw [pd_length hv, turn_len (by omega) pl]
    refine ⟨_, rfl, _, _, _, _, _, rfl, .ty _, .base (.lst hD), kit_ty kitb_ll, _, rfl, ?_⟩
    refine iteF ?_
    refine ⟨_, rfl, D, _, rfl, .inl (sqL hD), _, rfl, _, _, rfl, rfl, rfl, _, rfl, ?_⟩
    rw [lv, show V.int ((last.toNat + 1 : Nat) : Int) = V.int (last + 1) from congrArg V.int (by omega), decide_eq_true rfl]
    refine iteF ?_
    refine ⟨_, rfl, D, rfl, ⟨_, sqL hD⟩, fun D1 nD1 => lc_list (K := K) (a := D) (xs := vals) (fun u H' => Same H H' ∧ H' D1 = some (.lst [])) ⟨same_new nD1, upd_same⟩ (fun u H' _ hP => sqL (hP.1 _ _ hD)) ?_ ?_⟩
    · rintro u x H1 hx ⟨s1, hD1⟩
      obtain ⟨r, hr', ar, ex, hT⟩ := pd_get hv hx
      subst ex
      have lr : r.length = n := turn_row_len (List.mem_of_getElem? hr')
      refine ⟨rfl, ?_⟩
      refine ⟨_, rfl, _, _, _, _, _, rfl, .ty _, tyx_T (same_t s1 hT), kit_ty kitb_tt, _, rfl, iteF ?_⟩
      refine ⟨_, rfl, ar, _, rfl, .inr (same_t s1 hT), _, rfl, rfl, _, rfl, ?_⟩
      rw [List.length_map, lr, decide_eq_true rfl]
      exact iteF ⟨s1, hD1⟩
    rintro H1 ⟨s1, hD1⟩
    refine ⟨Nat.zero_le _, fun D2 nD2 => ?_⟩
    have s2 := same_new (o := .lst []) nD2
    refine ⟨.list [], .list [], .lst (sqL (s2 _ _ hD1)) .nil, .lst (sqL upd_same) .nil, rfl, rfl, _, rfl, ?_⟩
    rw [eqv_nil]
    refine iteF ?_
    have s12 := s1.trans s2
    generalize upd H1 D2 (.lst []) = H2 at s12
    have hv2 := rows_same s12 hv
    obtain ⟨x0, hx0, a0, ea0, ht0⟩ := pd_get' hv2 (turn_get (n := n) (cs := cs) (by omega) pl 0 (Nat.zero_le _))
    obtain ⟨x9, hx9, a9, ea9, ht9⟩ := pd_get' hv2 (turn_get (n := n) (cs := cs) (by omega) pl last.toNat (Nat.le_refl _))
    subst ea0 ea9
    rw [if_pos (by omega)] at ht0
    rw [if_neg (by omega)] at ht9
    refine ⟨_, rfl, D, _, 0, _, rfl, rfl, sqL (s12 _ _ hD), atI_nat (j := 0) hx0, ?_⟩
    refine ⟨_, rfl, _, rfl, D, _, -1, _, rfl, rfl, sqL (s12 _ _ hD), at_last' (by rw [lv]; exact hx9), by show 2 ≤ sizeLine; decide, fun t1 nt1 => ?_⟩
    have s3 := same_new (o := .tup [.ref a0, .ref a9]) nt1
    refine ⟨t1, _, rfl, sqT upd_same, rfl, _, _, rfl, _, _, rfl, rfl, ?_⟩
    have s13 := s12.trans s3
    have hv3 := rows_same s3 hv2
    have ht0' := same_t s3 ht0
    have ht9' := same_t s3 ht9
    generalize upd H2 t1 (.tup [.ref a0, .ref a9]) = H3 at s13 hv3 ht0' ht9'
    refine ⟨_, rfl, _, rfl, by omega, by omega, fun D3 nD3 => lc_range (lo := 0) (n := n) (fun i H' => Same H3 H' ∧ H' D3 = some (.lst ((((List.range i).filter fun i : Nat => !decide ((lowV n cs).getD i 0 = (highV n cs).getD i 0)).map (fun i : Nat => (i : Int))).map V.int))) ⟨same_new nD3, upd_same⟩ ?_ ?_⟩
    · rintro i H4 hi ⟨s4, hD3⟩
      refine ⟨rfl, _, rfl, _, rfl, a0, _, _, _, rfl, rfl, same_t s4 ht0', at_int (ns := lowV n cs) (j := i) (by omega) (by rw [low_len]; exact hi), ?_⟩
      refine ⟨_, rfl, _, rfl, a9, _, _, _, rfl, rfl, same_t s4 ht9', at_int (ns := highV n cs) (j := i) (by omega) (by rw [high_len]; exact hi), rfl, _, rfl, ?_⟩
      have lz : ((List.range i).filter fun i : Nat => !decide ((lowV n cs).getD i 0 = (highV n cs).getD i 0)).length ≤ n := Nat.le_trans (List.length_filter_le _ _) (by rw [List.length_range]; omega)
      refine iteB (fun e => ?_) (fun e => ?_)
      · have e' : (!decide ((lowV n cs).getD i 0 = (highV n cs).getD i 0)) = true := by simpa using e
        refine ⟨_, rfl, _, hD3, by rw [List.length_map, List.length_map]; exact small1000 (by omega), fun b o e => ?_, ?_⟩
        · rw [upd_ne (ne_of_none e nD3)]
          exact s4 b o e
        · rw [upd_same, List.range_succ, List.filter_append, List.filter_cons_of_pos (by exact e'), List.filter_nil, List.map_append, List.map_append, Int.zero_add]
          rfl
      · have e' : (!decide ((lowV n cs).getD i 0 = (highV n cs).getD i 0)) = false := by simpa using e
        refine ⟨s4, ?_⟩
        rw [List.range_succ, List.filter_append, List.filter_cons_of_neg (by rw [e']; decide), List.filter_nil, List.append_nil]
        exact hD3
    rintro H4 ⟨s4, hD3⟩
    rw [moved_is hcs] at hD3
    refine ⟨_, rfl, D3, _, rfl, .inl (sqL hD3), by show 2 ≤ sizeLine; decide, fun t2 nt2 => ⟨t2, _, rfl, .inr (sqT upd_same), rfl, rfl, _, rfl, ?_⟩⟩
    have hcl : cs.length = 1 ∨ cs.length = 2 := by
      cases hcs
      · exact .inl rfl
      · exact .inr rfl
    have s5 := same_new (o := .tup [.int 1, .int 2]) nt2
    have hin : (if true = true then !inV (V.int ((cs.map V.int).length : Int)) [V.int 1, V.int 2] else inV (V.int ((cs.map V.int).length : Int)) [V.int 1, V.int 2]) = false := by
      rw [List.length_map]
      rcases hcl with z | z <;> rw [z] <;> decide
    refine iteB (fun e => absurd (hin.symm.trans e) (by decide)) (fun _ => ?_)
    have s45 := s4.trans s5
    have hD3' := s5 _ _ hD3
    generalize upd H4 t2 (.tup [.int 1, .int 2]) = H5 at s45 hD3'
    refine ⟨by show 1 ≤ sizeLine; decide, fun q1 nq1 => ⟨_, rfl, q1, _, _, rfl, rfl, upd_same, by omega, by omega, by show 1 * _ ≤ _; rw [Nat.one_mul]; exact Nat.le_of_lt (small1000 (by omega)), fun q2 nq2 => ?_⟩⟩
    rw [rep_one, Int.toNat_natCast]
    refine ⟨by show 1 ≤ sizeLine; decide, fun q3 nq3 => ⟨_, rfl, q3, _, _, rfl, rfl, upd_same, by omega, by omega, by show 1 * _ ≤ _; rw [Nat.one_mul]; exact Nat.le_of_lt (small1000 (by omega)), fun q4 nq4 => ?_⟩⟩
    rw [rep_one, Int.toNat_natCast]
    have z1 := same_new (o := .lst [V.int 0]) nq1
    have z2 := same_new (o := .lst (List.replicate n (V.int 0))) nq2
    have z3 := same_new (o := .lst [V.int 0]) nq3
    have z4 := same_new (o := .lst (List.replicate n (V.int 0))) nq4
    have z14 := z1.trans (z2.trans (z3.trans z4))
    have w2 : _ = some (HO.lst _) := z4 _ _ (z3 _ _ (upd_same (H := upd H5 q1 (.lst [V.int 0])) (a := q2) (o := .lst (List.replicate n (V.int 0)))))
    have f2 : H5 q2 = none := z1.free nq2
    have f4 : H5 q4 = none := (z1.trans (z2.trans z3)).free nq4
    have n42 : q2 ≠ q4 := ne_of_none (z3 _ _ upd_same) nq4
    refine ⟨by show 2 ≤ sizeLine; decide, fun t3 nt3 => ?_⟩
    have z5 := same_new (o := .tup [.ref q2, .ref q4]) nt3
    refine ⟨t3, _, rfl, sqT upd_same, rfl, _, _, rfl, _, _, rfl, rfl, ?_⟩
    have z15 := z14.trans z5
    have w4 := z5 _ _ (upd_same (a := q4) (o := HO.lst (List.replicate n (V.int 0))))
    have w2' := z5 _ _ w2
    have h0 : 0 < cs.length := by omega
    have hb := hcs.bound
    have hx0 := hb _ (getD_in h0)
    generalize hH6 : upd (upd (upd (upd (upd H5 q1 (.lst [V.int 0])) q2 (.lst (List.replicate n (V.int 0)))) q3 (.lst [V.int 0])) q4 (.lst (List.replicate n (V.int 0)))) t3 (.tup [.ref q2, .ref q4]) = H6 at z5 z15 w4 w2'
    refine ⟨_, rfl, _, rfl, D3, _, 0, _, rfl, rfl, sqL (z15 _ _ hD3'), at_int (ns := cs) (j := 0) rfl h0, q4, List.replicate n (V.int 0), _, (cs.getD 0 0).toNat, rfl, rfl, w4, ?_, ?_⟩
    · rw [List.length_replicate]
      exact ix_of hx0.1 (by omega)
    have y1 : Same H5 (upd H6 q4 (.lst ((List.replicate n (V.int 0)).set (cs.getD 0 0).toNat (V.int 1)))) := same_updF z15 f4
    refine ⟨fun σ' H' => ∃ v8 v9 v10, σ' = [some (.ref D), some (.int n), some (.int last), some (.ref a0), some (.ref a9), some (.ref D3), some (.ref q2), some (.ref q4), v8, v9, v10] ∧ Same H5 H' ∧ H' q2 = some (.lst ((lowV n cs).map V.int)) ∧ H' q4 = some (.lst ((highV n cs).map V.int)), ?_, ?_⟩
    · refine ⟨_, rfl, D3, _, rfl, .inl (sqL (y1 _ _ hD3')), rfl, _, rfl, ?_⟩
      refine ite2 (fun e => ?_) (fun e => ?_)
      · have e' : cs.length = 2 := by
          have := V.int.inj (of_decide_eq_true e)
          rw [List.length_map] at this
          omega
        have hx1 := hb _ (getD_in (k := cs) (i := 1) (by omega))
        refine ⟨_, rfl, _, rfl, D3, _, 1, _, rfl, rfl, sqL (y1 _ _ hD3'), at_int (ns := cs) (j := 1) rfl (by omega), q2, List.replicate n (V.int 0), _, (cs.getD 1 0).toNat, rfl, rfl, ?_, ?_, ?_⟩
        · rw [upd_ne n42]
          exact w2'
        · rw [List.length_replicate]
          exact ix_of hx1.1 (by omega)
        refine ⟨_, _, _, rfl, same_updF y1 f2, ?_, ?_⟩
        · rw [upd_same, set_ints]
          unfold lowV
          rw [if_pos e']
        · rw [upd_ne (Ne.symm n42), upd_same, set_ints]
          rfl
      · have e' : ¬ cs.length = 2 := fun z => e (by rw [List.length_map, z]; rfl)
        refine ⟨_, _, _, rfl, y1, ?_, ?_⟩
        · rw [upd_ne n42, w2']
          unfold lowV
          rw [if_neg e', List.map_replicate]
        · rw [upd_same, set_ints]
          rfl
    rintro σ' H7 ⟨v8, v9, v10, rfl, s7, e2, e4⟩
    have s07 : Same H H7 := s13.trans (s45.trans s7)
    have hD7 := s07 _ _ hD
    have hv7 := rows_same s07 hv
    refine ⟨_, rfl, D, rfl, ⟨_, sqL hD7⟩, fun D4 nD4 => lc_list (K := K) (a := D) (xs := vals) (fun u H' => ∃ avals : List V, Same H7 H' ∧ H' D4 = some (.lst avals) ∧ avals.length = min u p.toNat) ⟨[], same_new nD4, upd_same, by rw [Nat.zero_min]; rfl⟩ (fun u H' _ hP => ?_) ?_ ?_⟩
    · obtain ⟨_, z, _⟩ := hP
      exact sqL (z _ _ hD7)
    · rintro u x H8 hx ⟨avals, s8, hD4, la⟩
      have hu : u < vals.length := (List.getElem?_eq_some_iff.mp hx).1
      obtain ⟨r, hr', ar, ex, hT⟩ := pd_get hv7 hx
      subst ex
      rw [turn_get (by omega) pl u (by omega)] at hr'
      have er := Option.some.inj hr'
      refine ⟨rfl, ?_⟩
      refine ⟨_, rfl, _, rfl, q2, _, rfl, .inl ⟨sqL (s8 _ _ e2), fun t4 nt4 => ?_⟩⟩
      have s9 := same_new (o := .tup ((lowV n cs).map V.int)) nt4
      refine ⟨tupD r, tupD (lowV n cs), dp_row ⟨ar, rfl, same_t (s8.trans s9) hT⟩, dp_row ⟨t4, rfl, sqT upd_same⟩, okD_shaped (okD_tup 0 r) (by decide), okD_shaped (okD_tup 0 _) (by decide), _, rfl, ?_⟩
      rw [eqv_tups, ← er]
      by_cases g : (u : Int) < p
      · rw [if_pos g, decide_eq_true rfl]
        refine iteT ?_
        refine ⟨_, rfl, avals, s9 _ _ hD4, Nat.lt_of_le_of_lt (m := 1000) (by omega) (by decide), avals ++ [.ref ar], fun b o e => ?_, upd_same, ?_⟩
        · rw [upd_ne (ne_of_none e nD4)]
          exact (s8.trans s9) b o e
        · rw [List.length_append, la]
          show min u p.toNat + 1 = _
          omega
      · rw [if_neg g, decide_eq_false (low_ne_high hcs)]
        refine iteF ?_
        exact ⟨avals, s8.trans s9, s9 _ _ hD4, by rw [la]; omega⟩
    rintro H8 ⟨avals, s8, hD4, la⟩
    refine ⟨D4, _, rfl, .inl (sqL hD4), ?_⟩
    have ep : ((avals.length : Nat) : Int) = p := by rw [la]; omega
    rw [ep]
    refine ⟨_, rfl, _, _, rfl, rfl, _, rfl, ?_⟩
    rw [decide_eq_true (show p > 0 by omega)]
    refine iteT ?_
    have hD8 := s8 _ _ hD7
    have hv8 := rows_same s8 hv7
    refine ⟨_, rfl, _, rfl, q2, _, rfl, .inl ⟨sqL (s8 _ _ e2), fun t5 nt5 => ?_⟩⟩
    have s9 := same_new (o := .tup ((lowV n cs).map V.int)) nt5
    refine ⟨by show 1 ≤ sizeLine; decide, fun l1 nl1 => ⟨_, rfl, l1, p, [V.ref t5], rfl, rfl, upd_same, by omega, by omega, by show 1 * _ ≤ _; rw [Nat.one_mul]; exact Nat.le_of_lt (small1000 (by omega)), fun l2 nl2 => ?_⟩⟩
    rw [rep_one]
    have s10 := same_new (o := .lst [V.ref t5]) nl1
    have s11 := same_new (o := .lst (List.replicate p.toNat (V.ref t5))) nl2
    have s911 := s9.trans (s10.trans s11)
    refine ⟨_, rfl, q4, _, rfl, .inl ⟨sqL (s911 _ _ (s8 _ _ e4)), fun t6 nt6 => ?_⟩⟩
    have s12 := same_new (o := .tup ((highV n cs).map V.int)) nt6
    refine ⟨by show 1 ≤ sizeLine; decide, fun l3 nl3 => ?_⟩
    refine ⟨_, rfl, _, _, rfl, rfl, _, rfl, _, _, rfl, rfl, l3, last + 1 - p, [V.ref t6], rfl, rfl, upd_same, by omega, by omega, by show 1 * _ ≤ _; rw [Nat.one_mul]; exact Nat.le_of_lt (small1000 (by omega)), fun l4 nl4 => ?_⟩
    rw [rep_one]
    have s13' := same_new (o := .lst [V.ref t6]) nl3
    have s14 := same_new (o := .lst (List.replicate (last + 1 - p).toNat (V.ref t6))) nl4
    have s1214 := s12.trans (s13'.trans s14)
    refine ⟨_, _, _, _, rfl, rfl, s1214 _ _ upd_same, upd_same, ?_, fun l5 nl5 => ?_⟩
    · rw [List.length_replicate, List.length_replicate]
      exact Nat.le_of_lt (small1000 (by omega))
    have s15 := same_new (o := .lst (List.replicate p.toNat (V.ref t5) ++ List.replicate (last + 1 - p).toNat (V.ref t6))) nl5
    have sAll := s911.trans (s1214.trans s15)
    have hv9 := rows_same sAll hv8
    refine ⟨lstD (turnV n cs p last), lstD (turnV n cs p last), .lst (sqL (sAll _ _ hD8)) (dp_rows hv9), .lst (sqL upd_same) (dp_rows (pd_app (pd_rep ?_ _) (pd_rep ?_ _))), okD_shaped (okD_list (okD_tups 0 _)) (by decide), okD_shaped (okD_list (okD_tups 0 _)) (by decide), ?_⟩
    · exact sqT ((s10.trans (s11.trans (s1214.trans s15))) _ _ upd_same)
    · exact sqT ((s13'.trans (s14.trans s15)) _ _ upd_same)
    rw [SeqAt.eqv_refl (lstD _) (okD_list (okD_tups 0 _)).1]
    exact q _ (s07.trans (s8.trans sAll))
end
end Dg
namespace Dg
open PySem PySem.Spec PyProof.Rows L2
local macro_rules | `(tactic| walk_at "rd1") => `(tactic| first | refine ⟨_, rfl, ?_⟩ | refine ⟨_, _, rfl, rfl, ?_⟩)
local macro_rules | `(tactic| walk_at "rd") => `(tactic| repeat walk_at "rd1")
section
variable {P : Program} {w : World} {K : PySem.W.Frag} {mg : Str → Option Value} {base : Heap}
abbrev s_is_refused : Stmt := topS 21
abbrev N_is_refused : List Str := ["one", "other"]
abbrev P_is_refused : List Str := ["one", "other"]
theorem sc_is_refused : FnScope N_is_refused P_is_refused (defScope s_is_refused) := ⟨rfl, rfl, rfl, by decide +kernel, rfl, by decide +kernel, by decide +kernel⟩
def spRefused (K : PySem.W.Frag) : Sp := fun vs H Q _ => ∃ (a b : Addr) (k l : List Int) (m : Nat), vs = [.ref a, .ref b] ∧ Sq K H a (k.map V.int) ∧ Sq K H b (l.map V.int) ∧ k.length ≤ 1000 ∧ AllIn k m ∧ AllIn l m ∧ m < 1000 ∧ ¬ (k.length = l.length ∧ k ≠ []) ∧ Q (.bl true) H
theorem ok_refused {f cV : Addr} {fd : FuncData} (F : Fun K "_law_is_refused" "_law_is_refused" s_is_refused f fd) (B : Bi mg) (E_BadVersions : Ec K mg "BadVersions" cV)
    (C_shown : Cal P w K mg base (L2.CX P w) 3 "shown" P_shown (spShown K cV)) : FnOk P w K mg base CX0 4 f fd P_is_refused (spRefused K) := by
  refine F.ok sc_is_refused (fun vs H Q E h => ?_) (fun cdv A outer s H vs Q E hr h => ?_)
  · obtain ⟨a, b, k, l, m, rfl, _⟩ := h
    rfl
  · obtain ⟨a, b, k, l, m, rfl, ha, hb, h1000, hk, hl, hm, hn, q⟩ := h
    refine ⟨_, (pss_cons (ps_try_only rfl rfl ⟨rfl, by decide, .inl E_BadVersions.gC⟩ takes0 (fun W pn xe tk po => 
          (pss_one (ps_expr (pe_calS C_shown (hr.mono (by decide)) (by rfl) (fun σ => passAt tk σ) (pa_cons (pv 0) (pa_cons (pv 1) pa_nil)))))) (fun a oe cls d pn hz hf => 
          (pss_one (ps_ret pe_bl))))
      (pss_one (ps_ret pe_bl))), ?_⟩
    refine ⟨_, rfl, _, rfl, a, b, k, l, m, rfl, ha, hb, h1000, hk, hl, hm, fun z => absurd z hn, fun _ => ?_⟩
    refine ⟨true, E_BadVersions.te, fun _ a0 n0 => ?_, fun z => Bool.noConfusion z⟩
    exact q
abbrev s_pick : Stmt := topS 17
abbrev N_pick : List Str := ["pen", "options"]
abbrev P_pick : List Str := ["pen", "options"]
theorem sc_pick : FnScope N_pick P_pick (defScope s_pick) := ⟨rfl, rfl, rfl, by decide +kernel, rfl, by decide +kernel, by decide +kernel⟩
def spPick : Sp := fun vs H Q _ => ∃ (p o c : Addr) (b : Int) (xs : List V), vs = [.ref p, .ref o] ∧ H o = some (.lst xs) ∧ Pen H p c b ∧ 0 < xs.length ∧ xs.length ≤ 1000 ∧ b < 2 ^ 60 ∧
  ∀ (r : Nat) x H', xs[r]? = some x → Pen H' p c (b + 1) → SameB p H H' → Q x H'
theorem ok_pick {f : Addr} {fd : FuncData} (F : Fun K "_law_pick" "_law_pick" s_pick f fd) (B : Bi mg) (C_draw : Cal P w K mg base CX0 1 "_law_draw" P_draw spDraw) : FnOk P w K mg base CX0 2 f fd P_pick spPick := by
  refine F.ok sc_pick (fun vs H Q E h => ?_) (fun cdv A outer s H vs Q E hr h => ?_)
  · obtain ⟨p, o, c, b, xs, rfl, _⟩ := h
    rfl
  · obtain ⟨p, o, c, b, xs, rfl, ho, hp, x0, x1000, hb, q⟩ := h
    refine ⟨_, (pss_one (ps_ret (pe_ix ix_list (pv 1) (pe_cal C_draw (hr.mono (by decide)) (by rfl) pass0 (pa_cons (pv 0) (pa_cons (pe_callB call_len_seq (by rfl) B.b_len PySem.boot_len (pa_cons (pv 1) pa_nil)) pa_nil))) (fun _ _ => rfl)))), ?_⟩
    refine ⟨_, rfl, _, rfl, _, rfl, o, _, rfl, .inl (sqL ho), p, c, xs.length, b, rfl, hp, by omega, by omega, by omega, fun r H1 r0 r1 p1 s1 => ?_⟩
    have hlt : r.toNat < xs.length := by omega
    refine ⟨o, xs, r, xs[r.toNat], rfl, rfl, sqL (s1.lst hp ho), at_of (j := r.toNat) (by omega) (List.getElem?_eq_getElem hlt), ?_⟩
    exact q r.toNat _ H1 (List.getElem?_eq_getElem hlt) p1 s1
abbrev s_is_above : Stmt := topS 20
abbrev N_is_above : List Str := ["one", "two", "a", "b"]
abbrev P_is_above : List Str := ["one", "two"]
theorem sc_is_above : FnScope N_is_above P_is_above (defScope s_is_above) := ⟨rfl, rfl, rfl, by decide +kernel, rfl, by decide +kernel, by decide +kernel⟩
def spAbove (K : PySem.W.Frag) : Sp := fun vs H Q _ => ∃ (a b : Addr) (k l : List Int), vs = [.ref a, .ref b] ∧ SqT K H a (k.map V.int) ∧ SqT K H b (l.map V.int) ∧ k.length = l.length ∧ lexL l k = true ∧ ∀ H', Same H H' → Q (.bl true) H'
theorem ok_above {f : Addr} {fd : FuncData} (F : Fun K "_law_is_above" "_law_is_above" s_is_above f fd) (B : Bi mg) : FnOk P w K mg base CX0 1 f fd P_is_above (spAbove K) := by
  refine F.ok sc_is_above (fun vs H Q E h => ?_) (fun cdv A outer s H vs Q E hr h => ?_)
  · obtain ⟨a, b, k, l, rfl, _⟩ := h
    rfl
  · obtain ⟨a, b, k, l, rfl, ha, hb, hl, hlex, q⟩ := h
    refine ⟨_, (pss_cons (ps_for PassesOwn.never rfl (RZ.pi_zipA (by rfl) B.b_zip (pa_cons (pv 0) (pa_cons (pv 1) pa_nil))) (pg_tup (by rfl) (pgs_cons (pg_name (i := 2) sc_is_above.nd rfl (.inl rfl)) (pgs_cons (pg_name (i := 3) sc_is_above.nd rfl (.inl rfl)) pgs_nil))) 
          (pss_one (ps_if (pt_cmpR op_ne (pv 2) (pv 3) (nomark _)) 
              (pss_one (ps_ret (pe_cmpR op_gt (pv 2) (pv 3) (nomark _)))) pss_nil)))
      (pss_one (ps_ret pe_bl))), ?_⟩
    refine ⟨_, rfl, _, rfl, a, b, _, _, rfl, .inr ⟨ha, hb, RZ.for_zipT (K := K) (a := a) (b := b) (xs := k.map V.int) (ys := l.map V.int) (by rw [List.length_map, List.length_map, hl]) (fun i σ H' => ∃ v2 v3, σ = [some (.ref a), some (.ref b), v2, v3] ∧ Same H H' ∧ ∀ j, j < i → l.getD j 0 = k.getD j 0) ⟨none, none, rfl, Same.refl _, fun j hj => absurd hj (Nat.not_lt_zero _)⟩ (fun i σ H' hP => ?_) ?_ ?_⟩⟩
    · obtain ⟨_, _, _, s1, _⟩ := hP
      exact ⟨same_t s1 ha, same_t s1 hb⟩
    · rintro i x y T σ H1 hx hy ⟨v2, v3, rfl, s1, heq⟩ nT
      have ex := int_at hx
      have ey := int_at hy
      rw [ex.2, ey.2]
      have s2 := same_new (o := .tup [V.int (k.getD i 0), V.int (l.getD i 0)]) nT
      have hat := lex_at i hl.symm hlex heq
      refine ⟨T, _, rfl, sqT upd_same, rfl, _, _, rfl, _, _, rfl, rfl, ?_⟩
      refine ⟨_, rfl, _, rfl, rfl, _, rfl, ?_⟩
      refine iteB (fun e => ?_) (fun e => ?_)
      · have hne : l.getD i 0 ≠ k.getD i 0 := fun z => by
          rw [z] at e
          simp at e
        refine ⟨_, rfl, _, rfl, _, _, rfl, rfl, ?_⟩
        have := hat.2 hne
        show Q (V.bl (decide (l.getD i 0 < k.getD i 0))) _
        rw [decide_eq_true this]
        exact q _ (s1.trans s2)
      · have heq2 : k.getD i 0 = l.getD i 0 := by
          have e' : decide (V.int (k.getD i 0) = V.int (l.getD i 0)) = true := by simpa using e
          exact V.int.inj (of_decide_eq_true e')
        refine ⟨_, _, rfl, s1.trans s2, fun j hj => ?_⟩
        by_cases z : j = i
        · rw [z]
          exact heq2.symm
        · exact heq j (by omega)
    · rintro σ H1 ⟨v2, v3, rfl, s1, heq⟩
      rw [List.length_map] at heq
      have := (lex_at k.length hl.symm hlex heq).1
      omega
end
end Dg
namespace Dg
open PySem PySem.Spec PyProof.Rows L2
local macro_rules | `(tactic| walk_at "rd1") => `(tactic| first | refine ⟨_, rfl, ?_⟩ | refine ⟨_, _, rfl, rfl, ?_⟩)
local macro_rules | `(tactic| walk_at "rd") => `(tactic| repeat walk_at "rd1")
section
variable {P : Program} {w : World} {K : PySem.W.Frag} {mg : Str → Option Value} {base : Heap}
abbrev s_new_pair : Stmt := topS 18
abbrev N_new_pair : List Str := ["pen", "cells", "most", "k", "one", "other", "way", "at"]
abbrev P_new_pair : List Str := ["pen", "cells", "most"]
theorem sc_new_pair : FnScope N_new_pair P_new_pair (defScope s_new_pair) := ⟨rfl, rfl, rfl, by decide +kernel, rfl, by decide +kernel, by decide +kernel⟩
def spPair : Sp := fun vs H Q _ => ∃ (p c : Addr) (b : Int) (n m : Nat), vs = [.ref p, .int n, .int m] ∧ Pen H p c b ∧ 1 ≤ n ∧ n ≤ 60 ∧ m ≤ 60 ∧ b < 2 ^ 59 ∧
  ∀ H' t a e k l, SameB p H H' → Pen H' p c (b + 200) → H' t = some (.tup [.ref a, .ref e]) → H' a = some (.lst (k.map V.int)) → H' e = some (.lst (l.map V.int)) → k.length = n → l.length = n → AllIn k m → AllIn l m → Q (.ref t) H'
theorem ok_pair {f : Addr} {fd : FuncData} (F : Fun K "_law_new_pair" "_law_new_pair" s_new_pair f fd) (B : Bi mg) (C_draw : Cal P w K mg base CX0 1 "_law_draw" P_draw spDraw) (C_pick : Cal P w K mg base CX0 2 "_law_pick" P_pick spPick) : FnOk P w K mg base CX0 3 f fd P_new_pair spPair := by
  refine F.ok sc_new_pair (fun vs H Q E h => ?_) (fun cdv A outer s H vs Q E hr h => ?_)
  · obtain ⟨p, c, b, n, m, rfl, _⟩ := h
    rfl
  · obtain ⟨p, c, b, n, m, rfl, hp, hn1, hn, hm, hb, q⟩ := h
    refine ⟨_, (pss_cons (ps_setLc (i := 4) (own := [("k", 3)]) (g := gName 3) (by rfl) sc_new_pair.nd rfl rfl (sw_true rfl rfl rfl (by decide +kernel)) (pi_range1 (by rfl) B.b_range (pa_cons (pv 1) pa_nil)) (blkOk_by (own := [("k", 3)]) (N := N_new_pair) (sc := (defScope s_new_pair)) (by decide +kernel)) (fun _ _ _ _ _ => (pg_name (i := 3) sc_new_pair.nd rfl (.inl rfl))) (fun _ _ _ _ _ => pts_nil) (fun _ _ _ _ _ => (pe_cal C_draw (hr.mono (by decide)) (by rfl) pass0 (pa_cons (pv 0) (pa_cons (pe_op op_add (pv 2) pe_int) pa_nil)))))
      (pss_cons (ps_setLc (i := 5) (own := [("k", 3)]) (g := gName 3) (by rfl) sc_new_pair.nd rfl rfl (sw_true rfl rfl rfl (by decide +kernel)) (pi_range1 (by rfl) B.b_range (pa_cons (pv 1) pa_nil)) (blkOk_by (own := [("k", 3)]) (N := N_new_pair) (sc := (defScope s_new_pair)) (by decide +kernel)) (fun _ _ _ _ _ => (pg_name (i := 3) sc_new_pair.nd rfl (.inl rfl))) (fun _ _ _ _ _ => pts_nil) (fun _ _ _ _ _ => (pe_cal C_draw (hr.mono (by decide)) (by rfl) pass0 (pa_cons (pv 0) (pa_cons (pe_op op_add (pv 2) pe_int) pa_nil)))))
      (pss_cons (ps_set (i := 6) sc_new_pair.nd rfl (.inl rfl) (pe_cal C_draw (hr.mono (by decide)) (by rfl) pass0 (pa_cons (pv 0) (pa_cons pe_int pa_nil))))
      (C8.pss_cut (ps_if (pt_cmpR op_eq (pv 6) pe_int (nomark _)) 
          (pss_one (ps_par (i := 4) (j := 5) (by rfl) sc_new_pair.nd rfl rfl (by decide) rfl rfl (pa_cons (pe_callB cr_sorted (by rfl) B.b_sorted (by decide +kernel) (pa_cons (pv 4) pa_nil)) (pa_cons (pe_revL (pe_callB cr_sorted (by rfl) B.b_sorted (by decide +kernel) (pa_cons (pv 5) pa_nil))) pa_nil)) (by rfl))) pss_nil)
      (C8.pss_cut (ps_if (pt_cmpR op_gt (pv 6) pe_int (nomark _)) 
          (pss_cons (ps_set (i := 5) sc_new_pair.nd rfl (.inl rfl) (pe_callTy call_list_of (by rfl) B.b_list (by decide +kernel) (pa_cons (pv 4) pa_nil)))
          (pss_one (ps_for PassesOwn.never rfl (pi_range1 (by rfl) B.b_range (pa_cons (pv 6) pa_nil)) (pg_name (i := 3) sc_new_pair.nd rfl (.inl rfl)) 
              (pss_cons (ps_set (i := 7) sc_new_pair.nd rfl (.inl rfl) (pe_cal C_draw (hr.mono (by decide)) (by rfl) pass0 (pa_cons (pv 0) (pa_cons (pv 1) pa_nil))))
              (pss_one (ps_asg (pe_callB (call_max2 rfl) (by rfl) B.b_max (by decide +kernel) (pa_cons pe_int (pa_cons (pe_callB (call_min2 rfl) (by rfl) B.b_min (by decide +kernel) (pa_cons (pv 2) (pa_cons (pe_callTy call_int1 (by rfl) B.b_int (by decide +kernel) (pa_cons (pe_op op_add (pe_ix ix_list (pv 5) (pv 7) (fun _ _ => rfl)) (pe_cal C_pick (hr.mono (by decide)) (by rfl) pass0 (pa_cons (pv 0) (pa_cons (pe_lst (pa_cons pe_int (pa_cons pe_int (pa_cons pe_int (pa_cons (pe_un un_neg pe_int) pa_nil))))) pa_nil)))) pa_nil)) pa_nil))) pa_nil))) (pg_sub (pv 5) (pv 7) set_list))))))) pss_nil)
      (pss_one (ps_ret (pe_tup (pa_cons (pv 4) (pa_cons (pv 5) pa_nil)))))))))), ?_⟩
    refine ⟨_, rfl, _, rfl, by omega, by omega, fun D nD => lc_range (lo := 0) (n := n) (fun i H' => ∃ ns : List Int, SameB p H H' ∧ Pen H' p c (b + i) ∧ H' D = some (.lst (ns.map V.int)) ∧ ns.length = i ∧ AllIn ns m) ⟨[], SameB.of (same_new nD), by simpa using hp.same (same_new nD), upd_same, rfl, fun x hx => by cases hx⟩ ?_ ?_⟩
    · rintro i H1 hi ⟨ns, s1, p1, hD, hl, ha⟩
      obtain ⟨nDp, nDc⟩ := hp.fresh nD
      refine ⟨rfl, _, rfl, _, rfl, _, _, rfl, rfl, p, c, (m : Int) + 1, b + i, rfl, p1, by omega, by omega, by omega, fun r H2 r0 r1 p2 s2 => ?_⟩
      refine ⟨_, s2.lst p1 hD, by rw [List.length_map]; exact small1000 (by omega), ns ++ [r], (s1.trans s2).upd nD, ?_, ?_, by rw [List.length_append, hl]; rfl, ha.snoc r0 (by omega)⟩
      · exact (p2.upd nDp nDc).mono (by omega)
      · rw [upd_same, List.map_append]
        rfl
    rintro H2 ⟨ns, s2, p2, hD, hl, ha⟩
    refine ⟨_, rfl, _, rfl, by omega, by omega, fun D2 nD2 => lc_range (lo := 0) (n := n) (fun i H' => ∃ ms : List Int, SameB p H2 H' ∧ Pen H' p c (b + n + i) ∧ H' D2 = some (.lst (ms.map V.int)) ∧ ms.length = i ∧ AllIn ms m) ⟨[], SameB.of (same_new nD2), by simpa using p2.same (same_new nD2), upd_same, rfl, fun x hx => by cases hx⟩ ?_ ?_⟩
    · rintro i H3 hi ⟨ms, s3, p3, hD2, hl2, ha2⟩
      obtain ⟨n1, n2⟩ := p2.fresh nD2
      refine ⟨rfl, _, rfl, _, rfl, _, _, rfl, rfl, p, c, (m : Int) + 1, b + n + i, rfl, p3, by omega, by omega, by omega, fun r H4 r0 r1 p4 s4 => ?_⟩
      refine ⟨_, s4.lst p3 hD2, by rw [List.length_map]; exact small1000 (by omega), ms ++ [r], (s3.trans s4).upd nD2, ?_, ?_, by rw [List.length_append, hl2]; rfl, ha2.snoc r0 (by omega)⟩
      · exact (p4.upd n1 n2).mono (by omega)
      · rw [upd_same, List.map_append]
        rfl
    rintro H1 ⟨ms, s1, p1, hD21, hl2, ha2⟩
    refine ⟨_, rfl, p, c, 6, b + n + n, rfl, p1, by decide, by decide, by omega, fun w1 H3 w0 w5 p3 s3 => ?_⟩
    have sH3 : SameB p H H3 := s2.trans (s1.trans s3)
    have hD3 := s3.lst p1 (s1.lst p2 hD)
    have hD2 := s3.lst p1 hD21
    refine ⟨fun σ' H' => ∃ a e k l, σ' = [some (.ref p), some (.int n), some (.int m), none, some (.ref a), some (.ref e), some (.int w1), none] ∧ SameB p H H' ∧ Pen H' p c (b + 121) ∧ H' a = some (.lst (k.map V.int)) ∧ H' e = some (.lst (l.map V.int)) ∧ k.length = n ∧ l.length = n ∧ AllIn k m ∧ AllIn l m, ?_, ?_⟩
    · refine ⟨_, rfl, rfl, _, rfl, ?_⟩
      refine ite2 (fun e => ?_) (fun e => ?_)
      · refine ⟨_, rfl, D, ns, rfl, sqL hD3, by omega, fun ns' p5 perm pw n5 => ?_⟩
        have s5 := same_new (o := .lst (ns'.map V.int)) n5
        refine ⟨_, rfl, D2, ms, rfl, sqL (s5 _ _ hD2), by omega, fun ms' p6 perm2 pw2 n6 => ?_⟩
        have s6 := same_new (o := .lst (ms'.map V.int)) n6
        refine ⟨p6, _, rfl, sqL upd_same, fun p7 n7 => ?_⟩
        have s7 := same_new (o := .lst (ms'.map V.int).reverse) n7
        refine ⟨_, _, rfl, p5, p7, ns', ms'.reverse, rfl, sH3.trans (SameB.of (s5.trans (s6.trans s7))), (p3.same (s5.trans (s6.trans s7))).mono (by omega), s7 _ _ (s6 _ _ upd_same), ?_, by rw [perm.length_eq, hl], by rw [List.length_reverse, perm2.length_eq, hl2], fun x hx => ha x (perm.mem_iff.mp hx), fun x hx => ha2 x (perm2.mem_iff.mp (List.mem_reverse.mp hx))⟩
        rw [upd_same, List.map_reverse]
      · exact ⟨D, D2, ns, ms, rfl, sH3, p3.mono (by omega), hD3, hD2, hl, hl2, ha, ha2⟩
    rintro σ' H4 ⟨a, e, k, l, rfl, s4, p4, hka, hle, nk, nl, hk, hl⟩
    refine ⟨fun σ' H' => ∃ a e k l v3 v7, σ' = [some (.ref p), some (.int n), some (.int m), v3, some (.ref a), some (.ref e), some (.int w1), v7] ∧ SameB p H H' ∧ Pen H' p c (b + 200) ∧ H' a = some (.lst (k.map V.int)) ∧ H' e = some (.lst (l.map V.int)) ∧ k.length = n ∧ l.length = n ∧ AllIn k m ∧ AllIn l m, ?_, ?_⟩
    · refine ⟨_, rfl, _, _, rfl, rfl, _, rfl, ?_⟩
      refine ite2 (fun g => ?_) (fun g => ?_)
      · refine ⟨_, rfl, a, _, rfl, .inl (sqL hka), fun e2 n2 => ?_⟩
        have s5 := same_new (o := .lst (k.map V.int)) n2
        have hne : a ≠ e2 := ne_of_none hka n2
        obtain ⟨ne1, ne2⟩ := p4.fresh n2
        refine ⟨_, rfl, _, rfl, by omega, by omega, for_range (lo := 0) (n := w1.toNat) (fun i σ H' => ∃ l v3 v7, σ = [some (.ref p), some (.int n), some (.int m), v3, some (.ref a), some (.ref e2), some (.int w1), v7] ∧ SameB p H4 H' ∧ Pen H' p c (b + 121 + 2 * i) ∧ H' a = some (.lst (k.map V.int)) ∧ H' e2 = some (.lst (l.map V.int)) ∧ l.length = n ∧ AllIn l m)
          ⟨k, none, none, rfl, SameB.of s5, by simpa using p4.same s5, s5 _ _ hka, upd_same, nk, hk⟩ ?_ ?_⟩
        · rintro i σ H5 hi ⟨l, v3, v7, rfl, s6, p6, ha6, he6, nl6, hl6⟩
          refine ⟨_, rfl, _, rfl, p, c, (n : Int), b + 121 + 2 * i, rfl, p6, by omega, by omega, by omega, fun r H6 r0 r1 p7 s7 => ?_⟩
          have hlt : r.toNat < l.length := by omega
          have he7 := s7.lst p6 he6
          obtain ⟨g0, g1⟩ := hl6.get hlt
          refine ⟨_, rfl, _, rfl, _, rfl, e2, _, _, _, rfl, rfl, sqL he7, at_int (j := r.toNat) (by omega) hlt, _, rfl, _, rfl, by show 4 ≤ sizeLine; decide, fun o no => ?_⟩
          have s8 := same_new (o := .lst [.int 1, .int 1, .int 2, .int (-1)]) no
          refine ⟨p, o, c, b + 121 + 2 * i + 1, _, rfl, upd_same, p7.same s8, by decide, by decide, by omega, fun r2 x H7 hx p9 s9 => ?_⟩
          have hv : ∃ v : Int, x = .int v := by
            match r2, hx with
            | 0, h => exact ⟨_, (Option.some.inj h).symm⟩
            | 1, h => exact ⟨_, (Option.some.inj h).symm⟩
            | 2, h => exact ⟨_, (Option.some.inj h).symm⟩
            | 3, h => exact ⟨_, (Option.some.inj h).symm⟩
            | _ + 4, h => cases h
          obtain ⟨v, rfl⟩ := hv
          have s79 : SameB p H5 H7 := s7.trans ((SameB.of s8).trans s9)
          have he9 := s79.lst p6 he6
          refine ⟨_, _, rfl, rfl, .inl ⟨_, rfl, _, _, rfl, _, _, rfl, ?_⟩⟩
          refine ⟨_, rfl, _, rfl, e2, _, _, r.toNat, rfl, rfl, he9, ?_, ?_⟩
          · rw [List.length_map]
            exact ix_of r0 (by omega)
          · generalize hz : (if l.getD r.toNat 0 + v < (m : Int) then l.getD r.toNat 0 + v else (m : Int)) = z
            have hzm : z ≤ (m : Int) := by
              rw [← hz]
              split <;> omega
            refine ⟨l.set r.toNat (if z > 0 then z else 0), some (.int (0 + (i : Int))), some (.int r), ?_, (s6.trans s79).upd n2, (p9.upd ne1 ne2).mono (by omega), ?_, ?_, by rw [List.length_set]; exact nl6, hl6.set _ ?_ ?_⟩
            · rfl
            · rw [upd_ne hne]
              exact s79.lst p6 ha6
            · rw [upd_same, List.map_set]
            · split <;> omega
            · split <;> omega
        · rintro σ H5 ⟨l, v3, v7, rfl, s6, p6, ha6, he6, nl6, hl6⟩
          exact ⟨a, e2, k, l, v3, v7, rfl, s4.trans s6, p6.mono (by omega), ha6, he6, nk, nl6, hk, hl6⟩
      · exact ⟨a, e, k, l, none, none, rfl, s4, p4.mono (by omega), hka, hle, nk, nl, hk, hl⟩
    rintro σ' H5 ⟨a, e, k, l, v3, v7, rfl, s5, p5, hka, hle, nk, nl, hk, hl⟩
    refine ⟨_, rfl, _, rfl, by show 2 ≤ sizeLine; decide, fun t nt => ?_⟩
    have s6 := same_new (o := .tup [.ref a, .ref e]) nt
    exact q _ t a e k l (s5.trans (SameB.of s6)) (p5.same s6) upd_same (s6 _ _ hka) (s6 _ _ hle) nk nl hk hl
end
end Dg
namespace Dg
open PySem PySem.Spec PyProof.Rows L2
local macro_rules | `(tactic| walk_at "rd1") => `(tactic| first | refine ⟨_, rfl, ?_⟩ | refine ⟨_, _, rfl, rfl, ?_⟩)
local macro_rules | `(tactic| walk_at "rd") => `(tactic| repeat walk_at "rd1")
section
variable {P : Program} {w : World} {K : PySem.W.Frag} {mg : Str → Option Value} {base : Heap}
abbrev s_law : Stmt := topS 22
abbrev N_law : List Str := ["script", "pen", "turn", "cells", "most", "one", "other", "kept", "told", "is_none", "top", "low", "high", "k"]
abbrev P_law : List Str := ["script"]
theorem sc_law : FnScope N_law P_law (defScope s_law) := ⟨rfl, rfl, rfl, by decide +kernel, rfl, by decide +kernel, by decide +kernel⟩
def spLaw (K : PySem.W.Frag) : Sp := fun vs H Q _ => ∃ (a : Addr) (ns : List Int), vs = [.ref a] ∧ SqL K H a (ns.map V.int) ∧ ns.length ≤ 63 ∧ ∀ H', Q (.bl true) H'
theorem pick5 {r : Nat} {x : V} (h : [V.int 1, .int 2, .int 3, .int 5, .int 60][r]? = some x) : ∃ n : Nat, x = .int n ∧ 1 ≤ n ∧ n ≤ 60 := by
  match r, h with
  | 0, h => exact ⟨1, (Option.some.inj h).symm, by decide, by decide⟩
  | 1, h => exact ⟨2, (Option.some.inj h).symm, by decide, by decide⟩
  | 2, h => exact ⟨3, (Option.some.inj h).symm, by decide, by decide⟩
  | 3, h => exact ⟨5, (Option.some.inj h).symm, by decide, by decide⟩
  | 4, h => exact ⟨60, (Option.some.inj h).symm, by decide, by decide⟩
  | _ + 5, h => cases h
theorem pick4 {r : Nat} {x : V} (h : [V.int 1, .int 2, .int 4, .int 60][r]? = some x) : ∃ n : Nat, x = .int n ∧ 1 ≤ n ∧ n ≤ 60 := by
  match r, h with
  | 0, h => exact ⟨1, (Option.some.inj h).symm, by decide, by decide⟩
  | 1, h => exact ⟨2, (Option.some.inj h).symm, by decide, by decide⟩
  | 2, h => exact ⟨4, (Option.some.inj h).symm, by decide, by decide⟩
  | 3, h => exact ⟨60, (Option.some.inj h).symm, by decide, by decide⟩
  | _ + 4, h => cases h
theorem ok_law {f cB cV : Addr} {fd : FuncData} (F : Fun K "law" "law" s_law f fd) (B : Bi mg) (C_begun_pen : Cal P w K mg base CX0 1 "_law_begun_pen" P_begun_pen (spBegun K)) (C_pick : Cal P w K mg base CX0 2 "_law_pick" P_pick spPick)
    (C_new_pair : Cal P w K mg base CX0 3 "_law_new_pair" P_new_pair spPair) (C_is_as_told : Cal P w K mg base CX0 1 "_law_is_as_told" P_is_as_told (spTold K)) (C_is_above : Cal P w K mg base CX0 1 "_law_is_above" P_is_above (spAbove K))
    (C_is_at_most : Cal P w K mg base (L2.CX P w) 3 "is_at_most" P_is_at_most (spAtMost K cV)) (C_shown : Cal P w K mg base (L2.CX P w) 3 "shown" P_shown (spShown K cV)) (C_reading : Cal P w K mg base (L2.CX P w) 4 "reading" P_reading (spReading K cB cV)) (C_is_refused : Cal P w K mg base CX0 4 "_law_is_refused" P_is_refused (spRefused K)) :
    FnOk P w K mg base CX0 5 f fd P_law (spLaw K) := by
  refine F.ok sc_law (fun vs H Q E h => ?_) (fun cdv A outer s H vs Q E hr h => ?_)
  · obtain ⟨a, ns, rfl, _⟩ := h
    rfl
  · obtain ⟨a, ns, rfl, ha, h63, q⟩ := h
    refine ⟨_, (pss_cons (ps_set (i := 1) sc_law.nd rfl (.inl rfl) (pe_cal C_begun_pen (hr.mono (by decide)) (by rfl) pass0 (pa_cons (pv 0) pa_nil)))
      (pss_cons (ps_for PassesOwn.never rfl (pi_range1 (by rfl) B.b_range (pa_cons pe_int pa_nil)) (pg_name (i := 2) sc_law.nd rfl (.inl rfl)) 
          (pss_cons (ps_par (i := 3) (j := 4) (by rfl) sc_law.nd rfl rfl (by decide) rfl rfl (pa_cons (pe_cal C_pick (hr.mono (by decide)) (by rfl) pass0 (pa_cons (pv 1) (pa_cons (pe_lst (pa_cons pe_int (pa_cons pe_int (pa_cons pe_int (pa_cons pe_int (pa_cons pe_int pa_nil)))))) pa_nil))) (pa_cons (pe_cal C_pick (hr.mono (by decide)) (by rfl) pass0 (pa_cons (pv 1) (pa_cons (pe_lst (pa_cons pe_int (pa_cons pe_int (pa_cons pe_int (pa_cons pe_int pa_nil))))) pa_nil))) pa_nil)) (by rfl))
          (pss_cons (ps_asg (pe_cal C_new_pair (hr.mono (by decide)) (by rfl) pass0 (pa_cons (pv 1) (pa_cons (pv 3) (pa_cons (pv 4) pa_nil)))) (pg_tup (by rfl) (pgs_cons (pg_name (i := 5) sc_law.nd rfl (.inl rfl)) (pgs_cons (pg_name (i := 6) sc_law.nd rfl (.inl rfl)) pgs_nil))))
          (pss_cons (ps_set (i := 7) sc_law.nd rfl (.inl rfl) (pe_lst (pa_cons (pe_callTy call_list_of (by rfl) B.b_list (by decide +kernel) (pa_cons (pv 5) pa_nil)) (pa_cons (pe_callTy call_list_of (by rfl) B.b_list (by decide +kernel) (pa_cons (pv 6) pa_nil)) pa_nil))))
          (C8.pss_cut (ps_par (i := 8) (j := 9) (by rfl) sc_law.nd rfl rfl (by decide) rfl rfl (pa_cons (pe_cal C_shown (hr.mono (by decide)) (by rfl) passL (pa_cons (pv 5) (pa_cons (pv 6) pa_nil))) (pa_cons (pe_cal C_is_at_most (hr.mono (by decide)) (by rfl) passL (pa_cons (pv 5) (pa_cons (pv 6) pa_nil))) pa_nil)) (by rfl))
          (pss_cons (ps_if (PW.pt (pw_or (pt_cmpR (op_neD hr.units) (pe_lst (pa_cons (pv 5) (pa_cons (pv 6) pa_nil))) (pv 7) (nomark _)) (pw_or1 (pt_cmpR op_ne (pe_cmpR op_isN (pv 8) pe_non (nomark _)) (pv 9) (nomark _))))) 
              (pss_one (ps_ret pe_bl)) pss_nil)
          (C8.pss_cut (ps_if (pt_cmpR op_notN (pv 8) pe_non (nomark _)) 
              (pss_cons (ps_set (i := 10) sc_law.nd rfl (.inl rfl) (pe_callB (cr_max rfl) (by rfl) B.b_max (by decide +kernel) (pa_cons (pe_lc (own := [("k", 13)]) (g := gName 13) (by rfl) sc_law.nd (pi_list (pe_op op_cat (pv 5) (pv 6))) (blkOk_by (own := [("k", 13)]) (N := N_law) (sc := (defScope s_law)) (by decide +kernel)) (fun _ _ _ _ _ => (pg_name (i := 13) sc_law.nd rfl (.inl rfl))) (fun _ _ _ _ _ => pts_nil) (fun _ _ _ _ _ => (pe_callTy call_int1 (by rfl) B.b_int (by decide +kernel) (pa_cons (pv 13) pa_nil)))) pa_nil)))
              (pss_cons (ps_if (pt_not (pt_val (pe_cal C_is_as_told (hr.mono (by decide)) (by rfl) pass0 (pa_cons (pv 8) (pa_cons (pv 3) (pa_cons (pv 10) pa_nil)))))) 
                  (pss_one (ps_ret pe_bl)) pss_nil)
              (pss_cons (ps_if (pt_not (pt_val (pe_cal C_is_above (hr.mono (by decide)) (by rfl) pass0 (pa_cons (pe_cal C_reading (hr.mono (by decide)) (by rfl) passL (pa_cons (pv 8) (pa_cons (pv 5) pa_nil))) (pa_cons (pe_cal C_reading (hr.mono (by decide)) (by rfl) passL (pa_cons (pv 8) (pa_cons (pe_callTy call_tuple_of (by rfl) B.b_tuple (by decide +kernel) (pa_cons (pv 6) pa_nil)) pa_nil))) pa_nil))))) 
                  (pss_one (ps_ret pe_bl)) pss_nil)
              (pss_cons (ps_expr (pe_bm PySem.F.plainAttrs_list PySem.F.slot_list_append PySem.F.type_list_append mt_append (pv 8) (pa_cons pe_str pa_nil)))
              (pss_one (ps_if (pt_not (pt_val (pe_cal C_is_as_told (hr.mono (by decide)) (by rfl) pass0 (pa_cons (pe_cal C_shown (hr.mono (by decide)) (by rfl) passL (pa_cons (pv 5) (pa_cons (pv 6) pa_nil))) (pa_cons (pv 3) (pa_cons (pv 10) pa_nil)))))) 
                  (pss_one (ps_ret pe_bl)) pss_nil)))))) pss_nil)
          (pss_cons (ps_if (pt_cmpR op_notN (pe_cal C_shown (hr.mono (by decide)) (by rfl) passL (pa_cons (pv 5) (pa_cons (pe_callTy call_tuple_of (by rfl) B.b_tuple (by decide +kernel) (pa_cons (pv 5) pa_nil)) pa_nil))) pe_non (nomark _)) 
              (pss_one (ps_ret pe_bl)) pss_nil)
          (pss_cons (ps_for PassesOwn.never rfl (pi_tup (pe_tup (pa_cons (pe_tup (pa_cons (pe_callTy call_tuple_of (by rfl) B.b_tuple (by decide +kernel) (pa_cons (pv 5) pa_nil)) (pa_cons (pv 6) pa_nil))) (pa_cons (pe_tup (pa_cons (pv 5) (pa_cons (pe_callTy call_tuple_of (by rfl) B.b_tuple (by decide +kernel) (pa_cons (pv 6) pa_nil)) pa_nil))) pa_nil)))) (pg_tup (by rfl) (pgs_cons (pg_name (i := 11) sc_law.nd rfl (.inl rfl)) (pgs_cons (pg_name (i := 12) sc_law.nd rfl (.inl rfl)) pgs_nil))) 
              (pss_one (ps_if (pt_cmpR op_ne (pe_cmpR op_isN (pe_cal C_shown (hr.mono (by decide)) (by rfl) passL (pa_cons (pv 11) (pa_cons (pv 12) pa_nil))) pe_non (nomark _)) (pv 9) (nomark _)) 
                  (pss_one (ps_ret pe_bl)) pss_nil)))
          (pss_one (ps_if (PW.pt (pw_or (pt_not (pt_val (pe_cal C_is_refused (hr.mono (by decide)) (by rfl) pass0 (pa_cons (pv 5) (pa_cons (pe_slice sl_list (pv 6) (po_some pe_int) po_none) pa_nil))))) (pw_or1 (pt_not (pt_val (pe_cal C_is_refused (hr.mono (by decide)) (by rfl) pass0 (pa_cons (pe_lst pa_nil) (pa_cons (pe_lst pa_nil) pa_nil)))))))) 
              (pss_one (ps_ret pe_bl)) pss_nil)))))))))))
      (pss_one (ps_ret (pe_and (pe_cmpR (op_eqD hr.units) (pe_cal C_shown (hr.mono (by decide)) (by rfl) passL (pa_cons (pe_lst (pa_cons pe_int pa_nil)) (pa_cons (pe_lst (pa_cons pe_int pa_nil)) pa_nil))) (pe_lst (pa_cons (pe_tup (pa_cons pe_int pa_nil)) (pa_cons (pe_tup (pa_cons pe_int pa_nil)) pa_nil))) (nomark _)) (pe_one (pe_cmpR (op_eqD hr.units) (pe_cal C_shown (hr.mono (by decide)) (by rfl) passL (pa_cons (pe_lst (pa_cons pe_int (pa_cons pe_int pa_nil))) (pa_cons (pe_lst (pa_cons pe_int (pa_cons pe_int pa_nil))) pa_nil))) (pe_lst (pa_cons (pe_tup (pa_cons pe_int (pa_cons pe_int pa_nil))) (pa_cons (pe_tup (pa_cons pe_int (pa_cons pe_int pa_nil))) pa_nil))) (nomark _)))))))), ?_⟩
    refine ⟨_, rfl, a, ns, rfl, ha, h63, fun H1 p s1 np c hp => ?_⟩
    refine ⟨12, rfl, by decide, by decide, for_range (lo := 0) (n := 12) (fun i σ H' => ∃ v2 v3 v4 v5 v6 v7 v8 v9 v10 v11 v12 v13, σ = [some (.ref a), some (.ref p), v2, v3, v4, v5, v6, v7, v8, v9, v10, v11, v12, v13] ∧ Pen H' p c (300 * i))
      ⟨none, none, none, none, none, none, none, none, none, none, none, none, rfl, hp.mono (by omega)⟩ ?_ ?_⟩
    · rintro i σ H2 hi ⟨v2, v3, v4, v5, v6, v7, v8, v9, v10, v11, v12, v13, rfl, hp2⟩
      refine ⟨_, rfl, by show 5 ≤ sizeLine; decide, fun o1 no1 => ?_⟩
      have s3 := same_new (o := .lst [.int 1, .int 2, .int 3, .int 5, .int 60]) no1
      refine ⟨p, o1, c, 300 * i, _, rfl, upd_same, hp2.same s3, by decide, by decide, by omega, fun r1 x1 H4 hx1 hp4 _ => ?_⟩
      obtain ⟨n, rfl, hn1, hn⟩ := pick5 hx1
      refine ⟨_, rfl, by show 4 ≤ sizeLine; decide, fun o2 no2 => ?_⟩
      have s5 := same_new (o := .lst [.int 1, .int 2, .int 4, .int 60]) no2
      refine ⟨p, o2, c, 300 * i + 1, _, rfl, upd_same, hp4.same s5, by decide, by decide, by omega, fun r2 x2 H6 hx2 hp6 _ => ?_⟩
      obtain ⟨m, rfl, hm1, hm⟩ := pick4 hx2
      refine ⟨_, _, rfl, ?_⟩
      refine ⟨_, rfl, _, rfl, _, rfl, p, c, 300 * i + 1 + 1, n, m, rfl, hp6, hn1, hn, hm, by omega, fun H7 t ao ae k l s7 hp7 ht7 hao hae nk nl hk hl => ?_⟩
      refine ⟨t, _, rfl, sqT ht7, rfl, _, _, rfl, _, _, rfl, rfl, ?_⟩
      have hkl : k.length = l.length := by omega
      have hkn : k ≠ [] := fun z => by
        rw [z] at nk
        have : 0 = n := nk
        omega
      refine ⟨_, rfl, ao, _, rfl, .inl (sqL hao), fun e1 ne1 => ?_⟩
      have s8 := same_new (o := .lst (k.map V.int)) ne1
      refine ⟨_, rfl, ae, _, rfl, .inl (sqL (s8 _ _ hae)), fun e2 ne2 => ?_⟩
      have s9 := same_new (o := .lst (l.map V.int)) ne2
      refine ⟨by show 2 ≤ sizeLine; decide, fun e3 ne3 => ?_⟩
      have s10 := same_new (o := .lst [.ref e1, .ref e2]) ne3
      have s710 := s8.trans (s9.trans s10)
      have k3 : _ = some (HO.lst _) := upd_same (H := upd (upd H7 e1 (.lst (k.map V.int))) e2 (.lst (l.map V.int))) (a := e3) (o := .lst [.ref e1, .ref e2])
      have k1 : _ = some (HO.lst _) := s10 _ _ (s9 _ _ (upd_same (H := H7) (a := e1) (o := .lst (k.map V.int))))
      have k2 : _ = some (HO.lst _) := s10 _ _ (upd_same (H := upd H7 e1 (.lst (k.map V.int))) (a := e2) (o := .lst (l.map V.int)))
      generalize upd (upd (upd H7 e1 (.lst (k.map V.int))) e2 (.lst (l.map V.int))) e3 (.lst [.ref e1, .ref e2]) = H8 at s710 k1 k2 k3
      have hao8 := s710 _ _ hao
      have hae8 := s710 _ _ hae
      have keptD : ∀ {H' : Hp} {e4 : Addr}, Same H8 H' → H' e4 = some (.lst [.ref ao, .ref ae]) → Dp K H' (.ref e4) (.list [.list (k.map .int), .list (l.map .int)]) ∧ Dp K H' (.ref e3) (.list [.list (k.map .int), .list (l.map .int)]) := fun sx h4 =>
        ⟨.lst (sqL h4) (.cons (.lst (sqL (sx _ _ hao8)) (dp_ints k)) (.cons (.lst (sqL (sx _ _ hae8)) (dp_ints l)) .nil)), .lst (sqL (sx _ _ k3)) (.cons (.lst (sqL (sx _ _ k1)) (dp_ints k)) (.cons (.lst (sqL (sx _ _ k2)) (dp_ints l)) .nil))⟩
      have okK : okD 2 (.list [.list (k.map .int), .list (l.map .int)]) := okD_list fun d hd => by
        rcases List.mem_cons.mp hd with z | z
        · rw [z]
          exact okD_list (okD_ints 0 k)
        · rcases List.mem_cons.mp z with z | z
          · rw [z]
            exact okD_list (okD_ints 0 l)
          · cases z
      have hp8 := hp7.same s710
      refine ⟨fun σ' H' => ∃ told : V, σ' = [some (.ref a), some (.ref p), some (.int (0 + (i : Int))), some (.int n), some (.int m), some (.ref ao), some (.ref ae), some (.ref e3), some told, some (.bl (faultV k l).isNone), v10, v11, v12, v13] ∧ Same H8 H' ∧
        ((told = .non ∧ faultV k l = none) ∨ ∃ cs pp last D vals, told = .ref D ∧ faultV k l = some (cs, pp) ∧ last ∈ k ++ l ∧ (∀ y ∈ k ++ l, y ≤ last) ∧ H8 D = none ∧ H' D = some (.lst vals) ∧ Paired (RowAt K H') vals (turnV n cs pp last)), ?_, ?_⟩
      · refine ⟨_, rfl, _, rfl, ao, ae, k, l, m, rfl, .inl (sqL hao8), .inl (sqL hae8), by omega, hk, hl, by omega, fun _ => ⟨fun h0 H9 s9 => ?_, fun cs pp last h0 hl1 hl2 H9 D vals s9 nD hD hv => ?_⟩, fun z => absurd ⟨hkl, hkn⟩ z⟩
        · refine ⟨_, rfl, _, rfl, ao, ae, k, l, rfl, .inl (sqL (s9 _ _ hao8)), .inl (sqL (s9 _ _ hae8)), by omega, fun _ H10 s10 => ?_, fun z => absurd ⟨hkl, hkn⟩ z⟩
          exact ⟨_, _, rfl, _, rfl, s9.trans s10, .inl ⟨rfl, h0⟩⟩
        · refine ⟨_, rfl, _, rfl, ao, ae, k, l, rfl, .inl (sqL (s9 _ _ hao8)), .inl (sqL (s9 _ _ hae8)), by omega, fun _ H10 s10 => ?_, fun z => absurd ⟨hkl, hkn⟩ z⟩
          rw [nk] at hv
          exact ⟨_, _, rfl, _, rfl, s9.trans s10, .inr ⟨cs, pp, last, D, vals, rfl, h0, hl1, hl2, nD, s10 _ _ hD, rows_same s10 hv⟩⟩
      rintro σ' H9 ⟨told, rfl, s9, htold⟩
      have hdec : decide (told = .non) = (faultV k l).isNone := by
        rcases htold with ⟨rfl, h0⟩ | ⟨cs, pp, last, D, vals, rfl, h0, _⟩
        · rw [h0]
          rfl
        · rw [h0]
          rfl
      generalize hisn : (faultV k l).isNone = isn at hdec
      refine ⟨_, rfl, _, rfl, by show 2 ≤ sizeLine; decide, fun e4 ne4 => ?_⟩
      have s10 := same_new (o := .lst [.ref ao, .ref ae]) ne4
      obtain ⟨d1, d2⟩ := keptD (s9.trans s10) upd_same
      refine ⟨_, rfl, _, _, d1, d2, okD_shaped okK (by decide), okD_shaped okK (by decide), _, rfl, ?_⟩
      rw [SeqAt.eqv_refl _ okK.1]
      refine iteF ?_
      refine ⟨_, rfl, rfl, _, rfl, rfl, _, rfl, ?_⟩
      rw [hdec, decide_eq_true rfl]
      refine iteF ?_
      have s810 := s9.trans s10
      refine ⟨fun σ' H' => ∃ v8 v10, σ' = [some (.ref a), some (.ref p), some (.int (0 + (i : Int))), some (.int n), some (.int m), some (.ref ao), some (.ref ae), some (.ref e3), v8, some (.bl isn), v10, v11, v12, v13] ∧ Same H8 H', ?_, ?_⟩
      · rcases htold with ⟨rfl, h0⟩ | ⟨cs, pp, last, D, vals, rfl, h0, hl1, hl2, nD8, hD9, hv9⟩
        · refine ⟨_, rfl, rfl, _, rfl, iteF ?_⟩
          exact ⟨_, _, rfl, s810⟩
        · refine ⟨_, rfl, rfl, _, rfl, iteT ?_⟩
          have hD10 := s10 _ _ hD9
          have hv10 := rows_same s10 hv9
          have hao10 := s810 _ _ hao8
          have hae10 := s810 _ _ hae8
          generalize upd H9 e4 (.lst [.ref ao, .ref ae]) = H10 at s810 hD10 hv10 hao10 hae10
          have hmem : ∀ y ∈ k ++ l, 0 ≤ y ∧ y ≤ (m : Int) := by
            intro y hy
            rcases List.mem_append.mp hy with z | z
            · exact hk _ z
            · exact hl _ z
          have l0 := hmem _ hl1
          have hkL : AllIn k last := fun y hy => ⟨(hk y hy).1, hl2 y (List.mem_append_left _ hy)⟩
          have hlL : AllIn l last := fun y hy => ⟨(hl y hy).1, hl2 y (List.mem_append_right _ hy)⟩
          have elast : last = ((last.toNat : Nat) : Int) := by omega
          have hkI : InV k last.toNat := AllIn.inV (by rw [← elast]; exact hkL)
          have hlI : InV l last.toNat := AllIn.inV (by rw [← elast]; exact hlL)
          obtain ⟨hcells, p1, p2⟩ := fault_cells hkI hlI nk nl h0
          have pl : pp ≤ last := by omega
          refine ⟨_, rfl, _, rfl, ao, ae, _, _, rfl, rfl, hao10, hae10, by rw [List.length_map, List.length_map]; exact Nat.le_of_lt (small1000 (by omega)), fun e5 ne5 => ?_⟩
          have s11 := same_new (o := .lst (k.map V.int ++ l.map V.int)) ne5
          rw [← List.map_append]
          have he5 : upd H10 e5 (.lst ((k ++ l).map V.int)) e5 = some (.lst ((k ++ l).map V.int)) := upd_same
          rw [← List.map_append] at s11
          generalize upd H10 e5 (.lst ((k ++ l).map V.int)) = H11 at s11 he5
          have lkl : (k ++ l).length ≤ 120 := by
            rw [List.length_append]
            omega
          refine ⟨e5, rfl, ⟨_, sqL he5⟩, fun D5 nD5 => lc_list (K := K) (a := e5) (xs := (k ++ l).map V.int) (fun u H' => Same H11 H' ∧ H' D5 = some (.lst (((k ++ l).take u).map V.int))) ⟨same_new nD5, upd_same⟩ (fun u H' _ hP => sqL (hP.1 _ _ he5)) ?_ ?_⟩
          · rintro u x H12 hx ⟨s12, hD5⟩
            obtain ⟨hu, ex⟩ := int_at hx
            subst ex
            refine ⟨rfl, _, rfl, .inl ⟨_, rfl, ?_⟩⟩
            refine ⟨_, hD5, by rw [List.length_map, List.length_take]; exact small1000 (by omega), fun b o e => ?_, ?_⟩
            · rw [upd_ne (ne_of_none e nD5)]
              exact s12 b o e
            · rw [upd_same, take_snoc (k ++ l) u hu, List.map_append]
              rfl
          rintro H12 ⟨s12, hD5⟩
          rw [List.length_map, List.take_length] at hD5
          refine ⟨D5, k ++ l, rfl, sqL hD5, by rw [List.length_append]; omega, fun top h1 h2 => ?_⟩
          have etop : top = last := Int.le_antisymm (hl2 _ h1) (h2 _ hl1)
          subst etop
          have s1112 := s11.trans s12
          refine ⟨_, rfl, _, rfl, _, rfl, D, n, cs, pp, top, vals, rfl, s1112 _ _ hD10, rows_same s1112 hv10, by omega, hcells, p1, pl, by omega, fun H13 s13 => ?_⟩
          refine ⟨_, rfl, iteF ?_⟩
          have s1013 := s1112.trans s13
          have hD13 := s1013 _ _ hD10
          have hv13 := rows_same s1013 hv10
          have hao13 := s1013 _ _ hao10
          have hae13 := s1013 _ _ hae10
          have hbad := turn_bad (last := top) hcells p1 pl
          have tlen : (turnV n cs pp top).length ≤ 1000 := by
            rw [turn_len (by omega) pl]
            omega
          have hva : ∀ {H' : Hp}, Same H13 H' → Paired (ValAt K H') vals (turnV n cs pp top) := fun sx => pd_mono (rows_same sx hv13) fun _ _ ⟨a', ea', h'⟩ => ⟨a', ea', .inr h'⟩
          refine ⟨_, rfl, _, rfl, D, ao, vals, turnV n cs pp top, k, rfl, .inl (sqL hD13), hva (Same.refl _), tlen, .inl (sqL hao13), by omega, fun j z => absurd (hbad.symm.trans z) (fun z => by cases z), fun _ _ H14 pr1 s14 _ hpr1 => ?_, fun _ z => absurd (turn_versOk p1 pl hkL nk) z⟩
          refine ⟨_, rfl, _, rfl, ae, _, rfl, .inl ⟨sqL (s14 _ _ hae13), fun e6 ne6 => ?_⟩⟩
          have s15 := same_new (o := .tup (l.map V.int)) ne6
          refine ⟨D, e6, vals, turnV n cs pp top, l, rfl, .inl (sqL (s15 _ _ (s14 _ _ hD13))), hva (s14.trans s15), tlen, .inr (sqT upd_same), by omega, fun j z => absurd (hbad.symm.trans z) (fun z => by cases z), fun _ _ H16 pr2 s16 _ hpr2 => ?_, fun _ z => absurd (turn_versOk p1 pl hlL nl) z⟩
          refine ⟨pr1, pr2, rowV (turnV n cs pp top) k, rowV (turnV n cs pp top) l, rfl, sqT (s16 _ _ (s15 _ _ hpr1)), sqT hpr2, by unfold rowV; rw [List.length_map, List.length_map, List.length_range, List.length_range, hkl], turn_above hkI hlI nk nl h0 elast, fun H17 s17 => ?_⟩
          refine ⟨_, rfl, iteF ?_⟩
          have s1317 := s14.trans (s15.trans (s16.trans s17))
          have hD17 := s1317 _ _ hD13
          have lv : vals.length ≤ 1000 := by
            rw [pd_length hv13]
            exact tlen
          refine ⟨_, rfl, .inl ⟨rfl, _, sqL hD17⟩, ?_⟩
          refine ⟨D, _, _, rfl, rfl, hD17, small1000 (by omega), ?_⟩
          have s817 : Same H8 (upd H17 D (.lst (vals ++ [.str "late"]))) := same_updF (s810.trans (s1013.trans s1317)) nD8
          generalize upd H17 D (.lst (vals ++ [.str "late"])) = H18 at s817
          refine ⟨_, rfl, _, rfl, ao, ae, k, l, m, rfl, .inl (sqL (s817 _ _ hao8)), .inl (sqL (s817 _ _ hae8)), by omega, hk, hl, by omega, fun _ => ⟨fun z => absurd (h0.symm.trans z) (fun z => by cases z), fun cs2 pp2 last2 z hx1 hx2 H19 D2 vals2 s19 nD2 hD2 hv2 => ?_⟩, fun z => absurd ⟨hkl, hkn⟩ z⟩
          have e2 := Option.some.inj (h0.symm.trans z)
          cases e2
          have elast2 : last2 = top := Int.le_antisymm (h2 _ hx1) (hx2 _ h1)
          subst elast2
          rw [nk] at hv2
          refine ⟨_, rfl, _, rfl, D2, n, cs, pp, last2, vals2, rfl, hD2, hv2, by omega, hcells, p1, pl, by omega, fun H20 s20 => ?_⟩
          refine ⟨_, rfl, iteF ?_⟩
          exact ⟨_, _, rfl, s817.trans (s19.trans s20)⟩
      rintro σ' H11 ⟨w8, w10, rfl, s811⟩
      have hao11 := s811 _ _ hao8
      have hae11 := s811 _ _ hae8
      refine ⟨_, rfl, _, rfl, ao, _, rfl, .inl ⟨sqL hao11, fun g1 ng1 => ?_⟩⟩
      have s12 := same_new (o := .tup (k.map V.int)) ng1
      refine ⟨ao, g1, k, k, m, rfl, .inl (sqL (s12 _ _ hao11)), .inr (sqT upd_same), by omega, hk, hk, by omega, fun _ => ⟨fun _ H13 s13 => ?_, fun cs pp last z => absurd (fault_self.symm.trans z) (fun z => by cases z)⟩, fun z => absurd ⟨rfl, hkn⟩ z⟩
      refine ⟨rfl, _, rfl, iteF ?_⟩
      have s1113 := s12.trans s13
      have hao13 := s1113 _ _ hao11
      have hae13 := s1113 _ _ hae11
      have s813 := s811.trans s1113
      refine ⟨_, rfl, ao, _, rfl, .inl ⟨sqL hao13, fun f1 nf1 => ?_⟩⟩
      have t1 := same_new (o := .tup (k.map V.int)) nf1
      refine ⟨_, rfl, by show 2 ≤ sizeLine; decide, fun f2 nf2 => ?_⟩
      have t2 := same_new (o := .tup [.ref f1, .ref ae]) nf2
      refine ⟨_, rfl, _, rfl, ae, _, rfl, .inl ⟨sqL (t2 _ _ (t1 _ _ hae13)), fun f3 nf3 => ?_⟩⟩
      have t3 := same_new (o := .tup (l.map V.int)) nf3
      refine ⟨by show 2 ≤ sizeLine; decide, fun f4 nf4 => ?_⟩
      have t4 := same_new (o := .tup [.ref ao, .ref f3]) nf4
      refine ⟨by show 2 ≤ sizeLine; decide, fun f5 nf5 => ?_⟩
      have t5 := same_new (o := .tup [.ref f2, .ref f4]) nf5
      have q1 : _ = some (HO.tup _) := t5 _ _ (t4 _ _ (t3 _ _ (t2 _ _ (upd_same (H := H13) (a := f1) (o := .tup (k.map V.int))))))
      have q2 : _ = some (HO.tup _) := t5 _ _ (t4 _ _ (t3 _ _ (upd_same (a := f2) (o := HO.tup [.ref f1, .ref ae]))))
      have q3 : _ = some (HO.tup _) := t5 _ _ (t4 _ _ (upd_same (a := f3) (o := HO.tup (l.map V.int))))
      have q4 : _ = some (HO.tup _) := t5 _ _ (upd_same (a := f4) (o := HO.tup [.ref ao, .ref f3]))
      have t15 := t1.trans (t2.trans (t3.trans (t4.trans t5)))
      generalize hH14 : upd (upd (upd (upd (upd H13 f1 (.tup (k.map V.int))) f2 (.tup [.ref f1, .ref ae])) f3 (.tup (l.map V.int))) f4 (.tup [.ref ao, .ref f3])) f5 (.tup [.ref f2, .ref f4]) = H14 at q1 q2 q3 q4 t15
      have q5 : H14 f5 = some (.tup [.ref f2, .ref f4]) := by
        rw [← hH14]
        exact upd_same
      have hao14 := t15 _ _ hao13
      have hae14 := t15 _ _ hae13
      have s814 := s813.trans t15
      refine ⟨f5, rfl, ⟨_, sqT q5⟩, for_tup (K := K) (a := f5) (xs := [.ref f2, .ref f4]) (fun _ σ H' => ∃ v11 v12, σ = [some (.ref a), some (.ref p), some (.int (0 + (i : Int))), some (.int n), some (.int m), some (.ref ao), some (.ref ae), some (.ref e3), w8, some (.bl isn), w10, v11, v12, v13] ∧ Same H14 H') ⟨_, _, rfl, Same.refl _⟩ (fun _ σ H' _ hP => ?_) ?_ ?_⟩
      · obtain ⟨_, _, _, z⟩ := hP
        exact same_t z (sqT q5)
      · rintro u x σ H15 hx ⟨v11, v12, rfl, s15⟩
        have hxx : ∃ T b1 b2 : Addr, x = .ref T ∧ H14 T = some (.tup [.ref b1, .ref b2]) ∧ Sq K H14 b1 (k.map V.int) ∧ Sq K H14 b2 (l.map V.int) := by
          match u, hx with
          | 0, h => exact ⟨f2, f1, ae, (Option.some.inj h).symm, q2, .inr (sqT q1), .inl (sqL hae14)⟩
          | 1, h => exact ⟨f4, ao, f3, (Option.some.inj h).symm, q4, .inl (sqL hao14), .inr (sqT q3)⟩
          | _ + 2, h => cases h
        obtain ⟨T, b1, b2, rfl, hT, hb1, hb2⟩ := hxx
        refine ⟨T, _, rfl, sqT (s15 _ _ hT), rfl, _, _, rfl, _, _, rfl, rfl, ?_⟩
        refine ⟨_, rfl, _, rfl, b1, b2, k, l, m, rfl, hb1.same s15, hb2.same s15, by omega, hk, hl, by omega, fun _ => ⟨fun h0 H16 s16 => ?_, fun cs pp last h0 _ _ H16 D vals s16 _ _ _ => ?_⟩, fun z => absurd ⟨hkl, hkn⟩ z⟩
        · have en : isn = true := by rw [← hisn, h0]; rfl
          subst en
          refine ⟨rfl, _, rfl, rfl, _, rfl, iteF ?_⟩
          exact ⟨_, _, rfl, s15.trans s16⟩
        · have en : isn = false := by rw [← hisn, h0]; rfl
          subst en
          refine ⟨rfl, _, rfl, rfl, _, rfl, iteF ?_⟩
          exact ⟨_, _, rfl, s15.trans s16⟩
      rintro σ H15 ⟨v11, v12, rfl, s15⟩
      have s815 := s814.trans s15
      have hao15 := s815 _ _ hao8
      have hae15 := s815 _ _ hae8
      refine ⟨_, rfl, _, rfl, 1, rfl, ae, _, rfl, sqL hae15, fun g2 ng2 => ?_⟩
      have s16 := same_new (o := .lst (cutV (l.map V.int) (some 1) none)) ng2
      have hg2 : upd H15 g2 (.lst (cutV (l.map V.int) (some 1) none)) g2 = some (.lst ((l.drop 1).map V.int)) := by
        rw [upd_same, show (1 : Int) = ((1 : Nat) : Int) from rfl, cut_from, ← List.map_drop]
      refine ⟨ao, g2, k, l.drop 1, m, rfl, .inl (sqL (s16 _ _ hao15)), .inl (sqL hg2), by omega, hk, fun y hy => hl y (List.mem_of_mem_drop hy), by omega, fun z => ?_, ?_⟩
      · have := z.1
        rw [List.length_drop] at this
        omega
      refine ⟨_, rfl, iteF ?_⟩
      refine ⟨Nat.zero_le _, fun g3 ng3 => ?_⟩
      have s17 := same_new (o := .lst []) ng3
      refine ⟨Nat.zero_le _, fun g4 ng4 => ?_⟩
      have s18 := same_new (o := .lst []) ng4
      refine ⟨g3, g4, [], [], 0, rfl, .inl (sqL (s18 _ _ upd_same)), .inl (sqL upd_same), by decide, fun y hy => (by cases hy), fun y hy => (by cases hy), by decide, fun z => z.2 rfl, ?_⟩
      refine ⟨_, rfl, iteF ?_⟩
      exact ⟨_, _, _, _, _, _, _, _, _, _, _, _, rfl, (hp8.same (s815.trans (s16.trans (s17.trans s18)))).mono (by omega)⟩
    · rintro σ H2 ⟨v2, v3, v4, v5, v6, v7, v8, v9, v10, v11, v12, v13, rfl, hp2⟩
      refine ⟨by show 1 ≤ sizeLine; decide, fun g1 n1 => ?_⟩
      have s3 := same_new (o := .lst [.int 1]) n1
      refine ⟨by show 1 ≤ sizeLine; decide, fun g2 n2 => ?_⟩
      have s4 := same_new (o := .lst [.int 0]) n2
      refine ⟨g1, g2, [1], [0], 1, rfl, .inl (sqL (s4 _ _ upd_same)), .inl (sqL upd_same), by decide, fun y hy => ?_, fun y hy => ?_, by decide, fun _ => ⟨fun z => absurd z (by decide), fun cs pp last z h1 h2 H5 D vals s5 _ hD hv => ?_⟩, fun z => absurd ⟨rfl, by decide⟩ z⟩
      · have : y = 1 := by simpa using hy
        omega
      · have : y = 0 := by simpa using hy
        omega
      have el : last = 1 := by
        have a1 : last = 1 ∨ last = 0 := by simpa using h1
        have a2 := h2 1 (by decide)
        omega
      subst el
      have ez := Option.some.inj ((show faultV [1] [0] = some ([0], 1) by decide).symm.trans z)
      cases ez
      rw [show turnV ([1] : List Int).length [0] 1 1 = [[0], [1]] by decide] at hv
      refine ⟨by show 1 ≤ sizeLine; decide, fun g3 n3 => ?_⟩
      have s6 := same_new (o := .tup [.int 0]) n3
      refine ⟨by show 1 ≤ sizeLine; decide, fun g4 n4 => ?_⟩
      have s7 := same_new (o := .tup [.int 1]) n4
      refine ⟨by show 2 ≤ sizeLine; decide, fun g5 n5 => ?_⟩
      have s8 := same_new (o := .lst [.ref g3, .ref g4]) n5
      have s68 := s6.trans (s7.trans s8)
      refine ⟨lstD [[0], [1]], lstD [[0], [1]], .lst (sqL (s68 _ _ hD)) (dp_rows (rows_same s68 hv)), .lst (sqL upd_same) (dp_rows (.cons ⟨g3, rfl, sqT (s8 _ _ (s7 _ _ upd_same))⟩ (.cons ⟨g4, rfl, sqT (s8 _ _ upd_same)⟩ .nil))), okD_shaped (okD_list (okD_tups 0 _)) (by decide), okD_shaped (okD_list (okD_tups 0 _)) (by decide), ?_⟩
      rw [SeqAt.eqv_refl (lstD _) (okD_list (okD_tups 0 _)).1]
      refine ⟨_, rfl, iteT ?_⟩
      generalize upd (upd (upd H5 g3 (.tup [.int 0])) g4 (.tup [.int 1])) g5 (.lst [.ref g3, .ref g4]) = H6
      refine ⟨by show 2 ≤ sizeLine; decide, fun g6 n6 => ?_⟩
      have s9 := same_new (o := .lst [.int 0, .int 0]) n6
      refine ⟨by show 2 ≤ sizeLine; decide, fun g7 n7 => ?_⟩
      have s10 := same_new (o := .lst [.int 0, .int 1]) n7
      refine ⟨g6, g7, [0, 0], [0, 1], 1, rfl, .inl (sqL (s10 _ _ upd_same)), .inl (sqL upd_same), by decide, fun y hy => ?_, fun y hy => ?_, by decide, fun _ => ⟨fun z => absurd z (by decide), fun cs pp last z h1 h2 H11 D2 vals2 s11 _ hD2 hv2 => ?_⟩, fun z => absurd ⟨rfl, by decide⟩ z⟩
      · have : y = 0 := by simpa using hy
        omega
      · have : y = 0 ∨ y = 1 := by simpa using hy
        omega
      have el : last = 1 := by
        have a1 : last = 0 ∨ last = 1 := by simpa using h1
        have a2 := h2 1 (by decide)
        omega
      subst el
      have ez := Option.some.inj ((show faultV [0, 0] [0, 1] = some ([0, 1], 1) by decide).symm.trans z)
      cases ez
      rw [show turnV ([0, 0] : List Int).length [0, 1] 1 1 = [[0, 1], [1, 0]] by decide] at hv2
      refine ⟨by show 2 ≤ sizeLine; decide, fun g3 n3 => ?_⟩
      have s6 := same_new (o := .tup [.int 0, .int 1]) n3
      refine ⟨by show 2 ≤ sizeLine; decide, fun g4 n4 => ?_⟩
      have s7 := same_new (o := .tup [.int 1, .int 0]) n4
      refine ⟨by show 2 ≤ sizeLine; decide, fun g5 n5 => ?_⟩
      have s8 := same_new (o := .lst [.ref g3, .ref g4]) n5
      have s68 := s6.trans (s7.trans s8)
      refine ⟨lstD [[0, 1], [1, 0]], lstD [[0, 1], [1, 0]], .lst (sqL (s68 _ _ hD2)) (dp_rows (rows_same s68 hv2)), .lst (sqL upd_same) (dp_rows (.cons ⟨g3, rfl, sqT (s8 _ _ (s7 _ _ upd_same))⟩ (.cons ⟨g4, rfl, sqT (s8 _ _ upd_same)⟩ .nil))), okD_shaped (okD_list (okD_tups 0 _)) (by decide), okD_shaped (okD_list (okD_tups 0 _)) (by decide), ?_⟩
      rw [SeqAt.eqv_refl (lstD _) (okD_list (okD_tups 0 _)).1]
      exact q _
end
end Dg
namespace Dg
open PySem PySem.Spec PyProof.Rows L2
theorem all_mk {P : Program} {w : World} {K : PySem.W.Frag} {h : Heap} {mg : Str → Option Value} {fa : Addr} (X : K.In h) (G : h.Ns mainGlobals mg) (hfa : mg "law" = some (.ref fa))
    {od0 an0 : Option Addr} {sl0 : Array (Option Value)} {oc0 kV0 dc0 pm0 cd0 ct0 : Value} {f0 : Addr}
    {od1 an1 : Option Addr} {sl1 : Array (Option Value)} {oc1 kV1 dc1 pm1 cd1 ct1 : Value} {f1 : Addr}
    {od2 an2 : Option Addr} {sl2 : Array (Option Value)} {oc2 kV2 dc2 pm2 cd2 ct2 : Value} {f2 : Addr}
    {od3 an3 : Option Addr} {sl3 : Array (Option Value)} {oc3 kV3 dc3 pm3 cd3 ct3 : Value} {f3 : Addr}
    {od4 an4 : Option Addr} {sl4 : Array (Option Value)} {oc4 kV4 dc4 pm4 cd4 ct4 : Value} {f4 : Addr}
    {od5 an5 : Option Addr} {sl5 : Array (Option Value)} {oc5 kV5 dc5 pm5 cd5 ct5 : Value} {f5 : Addr}
    {od6 an6 : Option Addr} {sl6 : Array (Option Value)} {oc6 kV6 dc6 pm6 cd6 ct6 : Value} {f6 : Addr}
    {od7 an7 : Option Addr} {sl7 : Array (Option Value)} {oc7 kV7 dc7 pm7 cd7 ct7 : Value} {f7 : Addr}
    {od8 an8 : Option Addr} {sl8 : Array (Option Value)} {oc8 kV8 dc8 pm8 cd8 ct8 : Value} {f8 : Addr}
    {od9 an9 : Option Addr} {sl9 : Array (Option Value)} {oc9 kV9 dc9 pm9 cd9 ct9 : Value} {f9 : Addr}
    {od10 an10 : Option Addr} {sl10 : Array (Option Value)} {oc10 kV10 dc10 pm10 cd10 ct10 : Value} {f10 : Addr}
    {od11 an11 : Option Addr} {sl11 : Array (Option Value)} {oc11 kV11 dc11 pm11 cd11 ct11 : Value} {f11 : Addr}
    {od12 an12 : Option Addr} {sl12 : Array (Option Value)} {oc12 kV12 dc12 pm12 cd12 ct12 : Value} {f12 : Addr}
    {od13 an13 : Option Addr} {sl13 : Array (Option Value)} {oc13 kV13 dc13 pm13 cd13 ct13 : Value} {f13 : Addr}
    {od14 an14 : Option Addr} {sl14 : Array (Option Value)} {oc14 kV14 dc14 pm14 cd14 ct14 : Value} {f14 : Addr}
    {od15 an15 : Option Addr} {sl15 : Array (Option Value)} {oc15 kV15 dc15 pm15 cd15 ct15 : Value} {f15 : Addr}
    {cE_BadVersions : Addr}
    {cE_BadValues fI_BadValues N_BadValues : Addr} {nm_BadValues q_BadValues : Str} {bs_BadValues bm_BadValues sub_BadValues : List Value} {sn_BadValues : List Str} {ab_BadValues : Bool} {col_BadValues : Option Bool} {dd_BadValues odI_BadValues anI_BadValues : Option Addr} {m0_BadValues m1_BadValues m2_BadValues m3_BadValues m5_BadValues : Option Value} {slI_BadValues : Array (Option Value)} {ocI_BadValues kVI_BadValues dcI_BadValues pmI_BadValues cdI_BadValues ctI_BadValues : Value}
    (a0 : PySem.W.nsIn K mainGlobals "_law_draw" = some (some (.ref f0)))
    (l0 : K.lookup f0 = some ⟨oc0, od0, .func (PySem.W.fnOf "_law_draw" "_law_draw" (defArgs s_draw) (defBody s_draw) (defScope s_draw) .none kV0 dc0 pm0 an0 cd0 ct0), sl0⟩)
    (c0 : PySem.W.codeIn K cd0 "_law_draw" = true)
    (k0 : PySem.W.keepIn K (.ref f0) = true)
    (a1 : PySem.W.nsIn K mainGlobals "carry_version" = some (some (.ref f1)))
    (l1 : K.lookup f1 = some ⟨oc1, od1, .func (PySem.W.fnOf "carry_version" "carry_version" (defArgs s_carry_version) (defBody s_carry_version) (defScope s_carry_version) .none kV1 dc1 pm1 an1 cd1 ct1), sl1⟩)
    (c1 : PySem.W.codeIn K cd1 "carry_version" = true)
    (k1 : PySem.W.keepIn K (.ref f1) = true)
    (a2 : PySem.W.nsIn K mainGlobals "fault" = some (some (.ref f2)))
    (l2 : K.lookup f2 = some ⟨oc2, od2, .func (PySem.W.fnOf "fault" "fault" (defArgs s_fault) (defBody s_fault) (defScope s_fault) .none kV2 dc2 pm2 an2 cd2 ct2), sl2⟩)
    (c2 : PySem.W.codeIn K cd2 "fault" = true)
    (k2 : PySem.W.keepIn K (.ref f2) = true)
    (a3 : PySem.W.nsIn K mainGlobals "check_lengths" = some (some (.ref f3)))
    (l3 : K.lookup f3 = some ⟨oc3, od3, .func (PySem.W.fnOf "check_lengths" "check_lengths" (defArgs s_check_lengths) (defBody s_check_lengths) (defScope s_check_lengths) .none kV3 dc3 pm3 an3 cd3 ct3), sl3⟩)
    (c3 : PySem.W.codeIn K cd3 "check_lengths" = true)
    (k3 : PySem.W.keepIn K (.ref f3) = true)
    (a4 : PySem.W.nsIn K mainGlobals "is_at_most" = some (some (.ref f4)))
    (l4 : K.lookup f4 = some ⟨oc4, od4, .func (PySem.W.fnOf "is_at_most" "is_at_most" (defArgs s_is_at_most) (defBody s_is_at_most) (defScope s_is_at_most) .none kV4 dc4 pm4 an4 cd4 ct4), sl4⟩)
    (c4 : PySem.W.codeIn K cd4 "is_at_most" = true)
    (k4 : PySem.W.keepIn K (.ref f4) = true)
    (a5 : PySem.W.nsIn K mainGlobals "_law_begun_pen" = some (some (.ref f5)))
    (l5 : K.lookup f5 = some ⟨oc5, od5, .func (PySem.W.fnOf "_law_begun_pen" "_law_begun_pen" (defArgs s_begun_pen) (defBody s_begun_pen) (defScope s_begun_pen) .none kV5 dc5 pm5 an5 cd5 ct5), sl5⟩)
    (c5 : PySem.W.codeIn K cd5 "_law_begun_pen" = true)
    (k5 : PySem.W.keepIn K (.ref f5) = true)
    (a6 : PySem.W.nsIn K mainGlobals "checked_values" = some (some (.ref f6)))
    (l6 : K.lookup f6 = some ⟨oc6, od6, .func (PySem.W.fnOf "checked_values" "checked_values" (defArgs s_checked_values) (defBody s_checked_values) (defScope s_checked_values) .none kV6 dc6 pm6 an6 cd6 ct6), sl6⟩)
    (c6 : PySem.W.codeIn K cd6 "checked_values" = true)
    (k6 : PySem.W.keepIn K (.ref f6) = true)
    (a7 : PySem.W.nsIn K mainGlobals "reading" = some (some (.ref f7)))
    (l7 : K.lookup f7 = some ⟨oc7, od7, .func (PySem.W.fnOf "reading" "reading" (defArgs s_reading) (defBody s_reading) (defScope s_reading) .none kV7 dc7 pm7 an7 cd7 ct7), sl7⟩)
    (c7 : PySem.W.codeIn K cd7 "reading" = true)
    (k7 : PySem.W.keepIn K (.ref f7) = true)
    (a8 : PySem.W.nsIn K mainGlobals "turned_values" = some (some (.ref f8)))
    (l8 : K.lookup f8 = some ⟨oc8, od8, .func (PySem.W.fnOf "turned_values" "turned_values" (defArgs s_turned_values) (defBody s_turned_values) (defScope s_turned_values) .none kV8 dc8 pm8 an8 cd8 ct8), sl8⟩)
    (c8 : PySem.W.codeIn K cd8 "turned_values" = true)
    (k8 : PySem.W.keepIn K (.ref f8) = true)
    (a9 : PySem.W.nsIn K mainGlobals "shown" = some (some (.ref f9)))
    (l9 : K.lookup f9 = some ⟨oc9, od9, .func (PySem.W.fnOf "shown" "shown" (defArgs s_shown) (defBody s_shown) (defScope s_shown) .none kV9 dc9 pm9 an9 cd9 ct9), sl9⟩)
    (c9 : PySem.W.codeIn K cd9 "shown" = true)
    (k9 : PySem.W.keepIn K (.ref f9) = true)
    (a10 : PySem.W.nsIn K mainGlobals "_law_is_as_told" = some (some (.ref f10)))
    (l10 : K.lookup f10 = some ⟨oc10, od10, .func (PySem.W.fnOf "_law_is_as_told" "_law_is_as_told" (defArgs s_is_as_told) (defBody s_is_as_told) (defScope s_is_as_told) .none kV10 dc10 pm10 an10 cd10 ct10), sl10⟩)
    (c10 : PySem.W.codeIn K cd10 "_law_is_as_told" = true)
    (k10 : PySem.W.keepIn K (.ref f10) = true)
    (a11 : PySem.W.nsIn K mainGlobals "_law_is_refused" = some (some (.ref f11)))
    (l11 : K.lookup f11 = some ⟨oc11, od11, .func (PySem.W.fnOf "_law_is_refused" "_law_is_refused" (defArgs s_is_refused) (defBody s_is_refused) (defScope s_is_refused) .none kV11 dc11 pm11 an11 cd11 ct11), sl11⟩)
    (c11 : PySem.W.codeIn K cd11 "_law_is_refused" = true)
    (k11 : PySem.W.keepIn K (.ref f11) = true)
    (a12 : PySem.W.nsIn K mainGlobals "_law_pick" = some (some (.ref f12)))
    (l12 : K.lookup f12 = some ⟨oc12, od12, .func (PySem.W.fnOf "_law_pick" "_law_pick" (defArgs s_pick) (defBody s_pick) (defScope s_pick) .none kV12 dc12 pm12 an12 cd12 ct12), sl12⟩)
    (c12 : PySem.W.codeIn K cd12 "_law_pick" = true)
    (k12 : PySem.W.keepIn K (.ref f12) = true)
    (a13 : PySem.W.nsIn K mainGlobals "_law_is_above" = some (some (.ref f13)))
    (l13 : K.lookup f13 = some ⟨oc13, od13, .func (PySem.W.fnOf "_law_is_above" "_law_is_above" (defArgs s_is_above) (defBody s_is_above) (defScope s_is_above) .none kV13 dc13 pm13 an13 cd13 ct13), sl13⟩)
    (c13 : PySem.W.codeIn K cd13 "_law_is_above" = true)
    (k13 : PySem.W.keepIn K (.ref f13) = true)
    (a14 : PySem.W.nsIn K mainGlobals "_law_new_pair" = some (some (.ref f14)))
    (l14 : K.lookup f14 = some ⟨oc14, od14, .func (PySem.W.fnOf "_law_new_pair" "_law_new_pair" (defArgs s_new_pair) (defBody s_new_pair) (defScope s_new_pair) .none kV14 dc14 pm14 an14 cd14 ct14), sl14⟩)
    (c14 : PySem.W.codeIn K cd14 "_law_new_pair" = true)
    (k14 : PySem.W.keepIn K (.ref f14) = true)
    (a15 : PySem.W.nsIn K mainGlobals "law" = some (some (.ref f15)))
    (l15 : K.lookup f15 = some ⟨oc15, od15, .func (PySem.W.fnOf "law" "law" (defArgs s_law) (defBody s_law) (defScope s_law) .none kV15 dc15 pm15 an15 cd15 ct15), sl15⟩)
    (c15 : PySem.W.codeIn K cd15 "law" = true)
    (k15 : PySem.W.keepIn K (.ref f15) = true)
    (aE_BadVersions : PySem.W.nsIn K mainGlobals "BadVersions" = some (some (.ref cE_BadVersions)))
    (xE_BadVersions : PySem.W.excIn K cE_BadVersions [.type "ValueError", .type "Exception", .type "BaseException", .type "object"] "ValueError.__new__" = true)
    (kE_BadVersions : PySem.W.keepIn K (.ref cE_BadVersions) = true)
    (bE_BadVersions : PySem.W.subIn K (.ref cE_BadVersions) (.type "BaseException") = some true)
    (tE_BadVersions : PySem.W.typeIn K (.ref cE_BadVersions) = some (.type "type"))
    (iE_BadVersions : PySem.W.isClsIn K cE_BadVersions = true)
    (sE_BadVersions : PySem.W.subIn K (.ref cE_BadVersions) (.ref cE_BadVersions) = some true)
    (aE_BadValues : PySem.W.nsIn K mainGlobals "BadValues" = some (some (.ref cE_BadValues)))
    (xL_BadValues : K.lookup cE_BadValues = some (excClassObj nm_BadValues q_BadValues cE_BadValues N_BadValues bs_BadValues bm_BadValues true sn_BadValues sub_BadValues ab_BadValues col_BadValues dd_BadValues m0_BadValues m1_BadValues m2_BadValues m3_BadValues m5_BadValues "ValueError.__new__"))
    (rv_BadValues : PySem.HandSPX.refsVE bm_BadValues = true)
    (sa_BadValues : PySem.W.findIn K (.ref cE_BadValues) "__setattr__" = some (some (.builtin "object.__setattr__")))
    (bE_BadValues : PySem.W.subIn K (.ref cE_BadValues) (.type "BaseException") = some true)
    (tE_BadValues : PySem.W.typeIn K (.ref cE_BadValues) = some (.type "type"))
    (kE_BadValues : PySem.W.keepIn K (.ref cE_BadValues) = true)
    (no_BadValues : PySem.W.findIn K (.ref cE_BadValues) "index" = some none)
    (in_BadValues : PySem.W.findIn K (.ref cE_BadValues) "__init__" = some (some (.ref fI_BadValues)))
    (ti_BadValues : PySem.W.typeIn K (.ref fI_BadValues) = some (.type "function"))
    (lI_BadValues : K.lookup fI_BadValues = some ⟨ocI_BadValues, odI_BadValues, .func (PySem.W.fnOf "__init__" "BadValues.__init__" (defArgs s_BadValues___init) (defBody s_BadValues___init) (defScope s_BadValues___init) .none kVI_BadValues dcI_BadValues pmI_BadValues anI_BadValues cdI_BadValues ctI_BadValues), slI_BadValues⟩)
    (cI_BadValues : PySem.W.codeIn K cdI_BadValues "BadValues.__init__" = true)
    (kI_BadValues : PySem.W.keepIn K (.ref fI_BadValues) = true)
    (ga_BadValues : PySem.W.findIn K (.ref cE_BadValues) "__getattribute__" = some (some (.builtin "BaseException.__getattribute__")))
    (gg_BadValues : PySem.W.findIn K (.ref cE_BadValues) "__getattr__" = some none)
    (hd_BadValues : PySem.W.hasDictIn K cE_BadValues = true)
    (iE_BadValues : PySem.W.isClsIn K cE_BadValues = true)
    (sE_BadValues : PySem.W.subIn K (.ref cE_BadValues) (.ref cE_BadValues) = some true)
    (z_abs : PySem.W.nsIn K mainGlobals "abs" = some none)
    (z_all : PySem.W.nsIn K mainGlobals "all" = some none)
    (z_dict : PySem.W.nsIn K mainGlobals "dict" = some none)
    (z_enumerate : PySem.W.nsIn K mainGlobals "enumerate" = some none)
    (z_int : PySem.W.nsIn K mainGlobals "int" = some none)
    (z_isinstance : PySem.W.nsIn K mainGlobals "isinstance" = some none)
    (z_len : PySem.W.nsIn K mainGlobals "len" = some none)
    (z_list : PySem.W.nsIn K mainGlobals "list" = some none)
    (z_max : PySem.W.nsIn K mainGlobals "max" = some none)
    (z_min : PySem.W.nsIn K mainGlobals "min" = some none)
    (z_range : PySem.W.nsIn K mainGlobals "range" = some none)
    (z_repr : PySem.W.nsIn K mainGlobals "repr" = some none)
    (z_sorted : PySem.W.nsIn K mainGlobals "sorted" = some none)
    (z_str : PySem.W.nsIn K mainGlobals "str" = some none)
    (z_sum : PySem.W.nsIn K mainGlobals "sum" = some none)
    (z_tuple : PySem.W.nsIn K mainGlobals "tuple" = some none)
    (z_zip : PySem.W.nsIn K mainGlobals "zip" = some none)
    (z_ValueError : PySem.W.nsIn K mainGlobals "ValueError" = some none) :
    ∃ fd : FuncData, (∀ (s : Shared) (v : Value), BindsTo s fd ⟨[v], []⟩ [("script", v)]) ∧ ∀ base : Heap, K.In base → base.Ns mainGlobals mg → FnOk P w K mg base CX0 5 fa fd ["script"] (spLaw K) := by
  have e := hfa.symm.trans (PySem.W.mg_of X G a15)
  cases e
  have F0 := fun_mk (st := s_draw) l0 c0 k0
  have b0 := F0.binds (ps := P_draw) fun _ _ _ _ _ _ us hl => match us, hl with | [_, _], _ => rfl
  have F1 := fun_mk (st := s_carry_version) l1 c1 k1
  have b1 := F1.binds (ps := P_carry_version) fun _ _ _ _ _ _ us hl => match us, hl with | [_, _, _, _], _ => rfl
  have F2 := fun_mk (st := s_fault) l2 c2 k2
  have b2 := F2.binds (ps := P_fault) fun _ _ _ _ _ _ us hl => match us, hl with | [_, _], _ => rfl
  have F3 := fun_mk (st := s_check_lengths) l3 c3 k3
  have b3 := F3.binds (ps := P_check_lengths) fun _ _ _ _ _ _ us hl => match us, hl with | [_, _], _ => rfl
  have F4 := fun_mk (st := s_is_at_most) l4 c4 k4
  have b4 := F4.binds (ps := P_is_at_most) fun _ _ _ _ _ _ us hl => match us, hl with | [_, _], _ => rfl
  have F5 := fun_mk (st := s_begun_pen) l5 c5 k5
  have b5 := F5.binds (ps := P_begun_pen) fun _ _ _ _ _ _ us hl => match us, hl with | [_], _ => rfl
  have F6 := fun_mk (st := s_checked_values) l6 c6 k6
  have b6 := F6.binds (ps := P_checked_values) fun _ _ _ _ _ _ us hl => match us, hl with | [_], _ => rfl
  have F7 := fun_mk (st := s_reading) l7 c7 k7
  have b7 := F7.binds (ps := P_reading) fun _ _ _ _ _ _ us hl => match us, hl with | [_, _], _ => rfl
  have F8 := fun_mk (st := s_turned_values) l8 c8 k8
  have b8 := F8.binds (ps := P_turned_values) fun _ _ _ _ _ _ us hl => match us, hl with | [_, _, _, _], _ => rfl
  have F9 := fun_mk (st := s_shown) l9 c9 k9
  have b9 := F9.binds (ps := P_shown) fun _ _ _ _ _ _ us hl => match us, hl with | [_, _], _ => rfl
  have F10 := fun_mk (st := s_is_as_told) l10 c10 k10
  have b10 := F10.binds (ps := P_is_as_told) fun _ _ _ _ _ _ us hl => match us, hl with | [_, _, _], _ => rfl
  have F11 := fun_mk (st := s_is_refused) l11 c11 k11
  have b11 := F11.binds (ps := P_is_refused) fun _ _ _ _ _ _ us hl => match us, hl with | [_, _], _ => rfl
  have F12 := fun_mk (st := s_pick) l12 c12 k12
  have b12 := F12.binds (ps := P_pick) fun _ _ _ _ _ _ us hl => match us, hl with | [_, _], _ => rfl
  have F13 := fun_mk (st := s_is_above) l13 c13 k13
  have b13 := F13.binds (ps := P_is_above) fun _ _ _ _ _ _ us hl => match us, hl with | [_, _], _ => rfl
  have F14 := fun_mk (st := s_new_pair) l14 c14 k14
  have b14 := F14.binds (ps := P_new_pair) fun _ _ _ _ _ _ us hl => match us, hl with | [_, _, _], _ => rfl
  have F15 := fun_mk (st := s_law) l15 c15 k15
  have E_BadVersions : Ec K mg "BadVersions" cE_BadVersions := ⟨PySem.W.mg_of X G aE_BadVersions, xE_BadVersions, kE_BadVersions, bE_BadVersions, tE_BadVersions, iE_BadVersions, sE_BadVersions⟩
  have FI_BadValues := fun_mk (st := s_BadValues___init) lI_BadValues cI_BadValues kI_BadValues
  have bI_BadValues := FI_BadValues.binds (ps := ["self", "index"]) fun _ _ _ _ _ _ us hl => match us, hl with | [_, _], _ => rfl
  have T_BadValues : OexC K cE_BadValues := ⟨⟨_, _, _, _, _, _, _, _, _, _, _, _, _, _, _, xL_BadValues, rv_BadValues⟩, sa_BadValues, bE_BadValues, tE_BadValues, kE_BadValues⟩
  have gC_BadValues : mg "BadValues" = some (.ref cE_BadValues) := PySem.W.mg_of X G aE_BadValues
  have B : Bi mg := ⟨PySem.W.mg_none_of X G z_abs, PySem.W.mg_none_of X G z_all, PySem.W.mg_none_of X G z_dict, PySem.W.mg_none_of X G z_enumerate, PySem.W.mg_none_of X G z_int, PySem.W.mg_none_of X G z_isinstance, PySem.W.mg_none_of X G z_len, PySem.W.mg_none_of X G z_list, PySem.W.mg_none_of X G z_max, PySem.W.mg_none_of X G z_min, PySem.W.mg_none_of X G z_range, PySem.W.mg_none_of X G z_repr, PySem.W.mg_none_of X G z_sorted, PySem.W.mg_none_of X G z_str, PySem.W.mg_none_of X G z_sum, PySem.W.mg_none_of X G z_tuple, PySem.W.mg_none_of X G z_zip, PySem.W.mg_none_of X G z_ValueError⟩
  refine ⟨PySem.W.fnOf "law" "law" (defArgs s_law) (defBody s_law) (defScope s_law) .none kV15 dc15 pm15 an15 cd15 ct15, fun s v => .of_eq rfl, fun base _ _ => ?_⟩
  have O_BadValues : Ef P w K mg base "BadValues" "index" cE_BadValues := ⟨T_BadValues, gC_BadValues, no_BadValues, ⟨fI_BadValues, _, in_BadValues, ti_BadValues, ok_init_BadValues FI_BadValues T_BadValues no_BadValues, bI_BadValues⟩, ⟨ga_BadValues, gg_BadValues, bE_BadValues, hd_BadValues⟩, iE_BadValues, sE_BadValues⟩
  have C_draw : Cal P w K mg base CX0 1 "_law_draw" P_draw spDraw := ⟨f0, _, ok_draw F0 B, PySem.W.mg_of X G a0, k0, b0⟩
  have C_carry_version : Cal P w K mg base CX0 1 "carry_version" P_carry_version (spCarry K) := ⟨f1, _, ok_carry F1, PySem.W.mg_of X G a1, k1, b1⟩
  have C_fault : Cal P w K mg base CX0 2 "fault" P_fault (spFault K) := ⟨f2, _, ok_fault F2 B C_carry_version, PySem.W.mg_of X G a2, k2, b2⟩
  have C_check_lengths : Cal P w K mg base (L2.CX P w) 1 "check_lengths" P_check_lengths (spCheck K cE_BadVersions) := ⟨f3, _, ok_check F3 B E_BadVersions, PySem.W.mg_of X G a3, k3, b3⟩
  have C_is_at_most : Cal P w K mg base (L2.CX P w) 3 "is_at_most" P_is_at_most (spAtMost K cE_BadVersions) := ⟨f4, _, ok_atmost F4 B C_check_lengths C_fault, PySem.W.mg_of X G a4, k4, b4⟩
  have C_begun_pen : Cal P w K mg base CX0 1 "_law_begun_pen" P_begun_pen (spBegun K) := ⟨f5, _, ok_begun F5 B, PySem.W.mg_of X G a5, k5, b5⟩
  have C_checked_values : Cal P w K mg base (L2.CX P w) 3 "checked_values" P_checked_values (spChecked K cE_BadValues) := ⟨f6, _, ok_checked F6 B O_BadValues, PySem.W.mg_of X G a6, k6, b6⟩
  have C_reading : Cal P w K mg base (L2.CX P w) 4 "reading" P_reading (spReading K cE_BadValues cE_BadVersions) := ⟨f7, _, ok_reading F7 B E_BadVersions C_checked_values, PySem.W.mg_of X G a7, k7, b7⟩
  have C_turned_values : Cal P w K mg base CX0 1 "turned_values" P_turned_values (spTurned K) := ⟨f8, _, ok_turned F8 B, PySem.W.mg_of X G a8, k8, b8⟩
  have C_shown : Cal P w K mg base (L2.CX P w) 3 "shown" P_shown (spShown K cE_BadVersions) := ⟨f9, _, ok_shown F9 B C_check_lengths C_fault C_turned_values, PySem.W.mg_of X G a9, k9, b9⟩
  have C_is_as_told : Cal P w K mg base CX0 1 "_law_is_as_told" P_is_as_told (spTold K) := ⟨f10, _, ok_told F10 B, PySem.W.mg_of X G a10, k10, b10⟩
  have C_is_refused : Cal P w K mg base CX0 4 "_law_is_refused" P_is_refused (spRefused K) := ⟨f11, _, ok_refused F11 B E_BadVersions C_shown, PySem.W.mg_of X G a11, k11, b11⟩
  have C_pick : Cal P w K mg base CX0 2 "_law_pick" P_pick spPick := ⟨f12, _, ok_pick F12 B C_draw, PySem.W.mg_of X G a12, k12, b12⟩
  have C_is_above : Cal P w K mg base CX0 1 "_law_is_above" P_is_above (spAbove K) := ⟨f13, _, ok_above F13 B, PySem.W.mg_of X G a13, k13, b13⟩
  have C_new_pair : Cal P w K mg base CX0 3 "_law_new_pair" P_new_pair spPair := ⟨f14, _, ok_pair F14 B C_draw C_pick, PySem.W.mg_of X G a14, k14, b14⟩
  exact ok_law F15 B C_begun_pen C_pick C_new_pair C_is_as_told C_is_above C_is_at_most C_shown C_reading C_is_refused
end Dg
open PySem PySem.W PyProof.Rows
set_option maxRecDepth 100000 in
set_option maxHeartbeats 0 in
theorem PySem.Challenge.cw_digitsturn_k14_whole_shown_holds : PySem.Challenge.rw_digitsturn_k14_whole_shown.Holds := by
  w_on; o_law; k_head; (case hw => w_witness2)
  k_fill
  refine L2.walk_of (l := PySem.Challenge.rw_digitsturn_k14_whole_shown) (n := 63) (k := 5) (x := "script") (CX := fun _ => L2.CX0) (sp := fun w => Dg.spLaw _) rfl (by decide) rfl ⟨rfl, by decide, by decide⟩ (fun w h Y => PySem.W.kIn_of Y) ?F (fun _ _ a ns hl _ hS => ⟨a, ns, rfl, hS, hl, fun _ => rfl⟩) (fun _ _ _ _ _ h => h)
  case F =>
    intro w mg fa h KX G hmg
    refine' Dg.all_mk KX G hmg ?a0 ?l0 ?c0 ?k0 ?a1 ?l1 ?c1 ?k1 ?a2 ?l2 ?c2 ?k2 ?a3 ?l3 ?c3 ?k3 ?a4 ?l4 ?c4 ?k4 ?a5 ?l5 ?c5 ?k5 ?a6 ?l6 ?c6 ?k6 ?a7 ?l7 ?c7 ?k7 ?a8 ?l8 ?c8 ?k8 ?a9 ?l9 ?c9 ?k9 ?a10 ?l10 ?c10 ?k10 ?a11 ?l11 ?c11 ?k11 ?a12 ?l12 ?c12 ?k12 ?a13 ?l13 ?c13 ?k13 ?a14 ?l14 ?c14 ?k14 ?a15 ?l15 ?c15 ?k15 ?aE_BadVersions ?xE_BadVersions ?kE_BadVersions ?bE_BadVersions ?tE_BadVersions ?iE_BadVersions ?sE_BadVersions ?aE_BadValues ?xL_BadValues ?rv_BadValues ?sa_BadValues ?bE_BadValues ?tE_BadValues ?kE_BadValues ?no_BadValues ?in_BadValues ?ti_BadValues ?lI_BadValues ?cI_BadValues ?kI_BadValues ?ga_BadValues ?gg_BadValues ?hd_BadValues ?iE_BadValues ?sE_BadValues ?z_abs ?z_all ?z_dict ?z_enumerate ?z_int ?z_isinstance ?z_len ?z_list ?z_max ?z_min ?z_range ?z_repr ?z_sorted ?z_str ?z_sum ?z_tuple ?z_zip ?z_ValueError
    (case a0 => k_is)
    (case l0 => k_is)
    (case c0 => k_is)
    (case k0 => k_is)
    (case a1 => k_is)
    (case l1 => k_is)
    (case c1 => k_is)
    (case k1 => k_is)
    (case a2 => k_is)
    (case l2 => k_is)
    (case c2 => k_is)
    (case k2 => k_is)
    (case a3 => k_is)
    (case l3 => k_is)
    (case c3 => k_is)
    (case k3 => k_is)
    (case a4 => k_is)
    (case l4 => k_is)
    (case c4 => k_is)
    (case k4 => k_is)
    (case a5 => k_is)
    (case l5 => k_is)
    (case c5 => k_is)
    (case k5 => k_is)
    (case a6 => k_is)
    (case l6 => k_is)
    (case c6 => k_is)
    (case k6 => k_is)
    (case a7 => k_is)
    (case l7 => k_is)
    (case c7 => k_is)
    (case k7 => k_is)
    (case a8 => k_is)
    (case l8 => k_is)
    (case c8 => k_is)
    (case k8 => k_is)
    (case a9 => k_is)
    (case l9 => k_is)
    (case c9 => k_is)
    (case k9 => k_is)
    (case a10 => k_is)
    (case l10 => k_is)
    (case c10 => k_is)
    (case k10 => k_is)
    (case a11 => k_is)
    (case l11 => k_is)
    (case c11 => k_is)
    (case k11 => k_is)
    (case a12 => k_is)
    (case l12 => k_is)
    (case c12 => k_is)
    (case k12 => k_is)
    (case a13 => k_is)
    (case l13 => k_is)
    (case c13 => k_is)
    (case k13 => k_is)
    (case a14 => k_is)
    (case l14 => k_is)
    (case c14 => k_is)
    (case k14 => k_is)
    (case a15 => k_is)
    (case l15 => k_is)
    (case c15 => k_is)
    (case k15 => k_is)
    (case aE_BadVersions => k_is)
    (case xE_BadVersions => first | k_exc | k_is)
    (case kE_BadVersions => k_is)
    (case bE_BadVersions => k_is)
    (case tE_BadVersions => k_is)
    (case iE_BadVersions => k_is)
    (case sE_BadVersions => first | rfl | k_is)
    (case aE_BadValues => k_is)
    (case xL_BadValues => k_is)
    (case rv_BadValues => rfl)
    (case sa_BadValues => k_is)
    (case bE_BadValues => k_is)
    (case tE_BadValues => k_is)
    (case kE_BadValues => k_is)
    (case no_BadValues => k_is)
    (case in_BadValues => k_is)
    (case ti_BadValues => k_is)
    (case lI_BadValues => k_is)
    (case cI_BadValues => k_is)
    (case kI_BadValues => k_is)
    (case ga_BadValues => k_is)
    (case gg_BadValues => k_is)
    (case hd_BadValues => k_is)
    (case iE_BadValues => k_is)
    (case sE_BadValues => first | rfl | k_is)
    (case z_abs => k_is)
    (case z_all => k_is)
    (case z_dict => k_is)
    (case z_enumerate => k_is)
    (case z_int => k_is)
    (case z_isinstance => k_is)
    (case z_len => k_is)
    (case z_list => k_is)
    (case z_max => k_is)
    (case z_min => k_is)
    (case z_range => k_is)
    (case z_repr => k_is)
    (case z_sorted => k_is)
    (case z_str => k_is)
    (case z_sum => k_is)
    (case z_tuple => k_is)
    (case z_zip => k_is)
    (case z_ValueError => k_is)

import PyProof.Rows.All
import Wide.All
import OpenK.AllK
import Wide.FinOn
import HandS.ForMost
import HandS.Wide
import HandS.TupAny
import HandS.TupMul
import HandS.Style
import HandS.Conv
import HandS.Codes
import HandS.Exc
import HandS.TryOnly
import HandS.ExcOwn
import HandS.WordsExc
import HandS.Deep
import HandS.ExcIs
import KE.GoesEnum
import KE.GoesEnumKw
import HandS.Walk
import HandS.SortKw
import HandS.ExcInit
import HandS.ExcField
import HandS.IsInst
import HandS.Zip
import HandS.TryMany
import PyProof.ReprRoads
import PyProof.ReprLen
import PyProof.FitsInt
import HandS.RaiseMore
import KE.KExcIs
import HandS.NoneIn
import PySem.Challenge.RW_digitsturn_k16_errors
set_option Elab.async false
set_option linter.all false
set_option maxRecDepth 100000
namespace Dg
open PySem PySem.Spec PyProof.Rows L2

local macro_rules | `(tactic| walk_at "rd1") => `(tactic| first | refine ⟨_, rfl, ?_⟩ | refine ⟨_, _, rfl, rfl, ?_⟩)
local macro_rules | `(tactic| walk_at "rd") => `(tactic| repeat walk_at "rd1")
structure Cal (P : Program) (w : World) (K : PySem.W.Frag) (mg : Str → Option Value) (base : Heap) (CX : CXT) (k : Nat) (x : Str) (ps : List Str) (sp : Sp) : Prop where
  ex : ∃ (f : Addr) (fd : FuncData), FnOk P w K mg base CX k f fd ps sp ∧ mg x = some (.ref f) ∧ PySem.W.keepIn K (.ref f) = true ∧ Binds K fd ps []
section
variable {X : Cx} {CX : CXT} {k : Nat} {x : Str} {ps : List Str} {sp : Sp} {E : XK} {e : Expr} {es : List Expr} {t : TA} {p pos : Pos}
theorem pe_cal (C : Cal X.prog X.w X.K X.mg X.base CX k x ps sp) (hr : Room k X.A) (hg : Gl X x) (hx : Passes CX X E)
    (ha : PA X (e :: es) t) (hdb : (x == ("__debug__" : Str)) = false := by decide) (he : starEach (e :: es) X.env = (false, eval e X.env) :: starEach es X.env := by rfl) (hpl : (backTo pos (starEach es X.env)).any (·.1) = false := by rfl) :
    PE X (.Call (.Name x p) (e :: es) [] pos) (tCall sp [] E t) := by
  obtain ⟨f, fd, F, hm, hk, hb⟩ := C.ex
  exact pe_call F hr hg hm hk hb .nil hx ha hdb he hpl
theorem pe_cal0 (C : Cal X.prog X.w X.K X.mg X.base CX k x ps sp) (hr : Room k X.A) (hg : Gl X x) (hx : Passes CX X E) (hdb : (x == ("__debug__" : Str)) = false := by decide) :
    PE X (.Call (.Name x p) [] [] pos) (tCall sp [] E tNil) := by
  obtain ⟨f, fd, F, hm, hk, hb⟩ := C.ex
  exact pe_call0 F hr hg hm hk hb .nil hx hdb
end

structure Bi (mg : Str → Option Value) : Prop where
  b_abs : mg "abs" = none
  b_all : mg "all" = none
  b_dict : mg "dict" = none
  b_enumerate : mg "enumerate" = none
  b_int : mg "int" = none
  b_isinstance : mg "isinstance" = none
  b_len : mg "len" = none
  b_list : mg "list" = none
  b_max : mg "max" = none
  b_min : mg "min" = none
  b_range : mg "range" = none
  b_repr : mg "repr" = none
  b_sorted : mg "sorted" = none
  b_str : mg "str" = none
  b_sum : mg "sum" = none
  b_tuple : mg "tuple" = none
  b_zip : mg "zip" = none
  b_ValueError : mg "ValueError" = none

def SameB (p : Addr) (H H' : Hp) : Prop := ∀ b o, H b = some o → b ≠ p → H' b = some o
theorem SameB.refl (p : Addr) (H : Hp) : SameB p H H := fun _ _ h _ => h
theorem SameB.trans {p : Addr} {H H1 H2 : Hp} (a : SameB p H H1) (b : SameB p H1 H2) : SameB p H H2 := fun c o h n => b c o (a c o h n) n
theorem SameB.of {p : Addr} {H H' : Hp} (e : Same H H') : SameB p H H' := fun b o h _ => e b o h
theorem same_new {H : Hp} {p : Addr} {o : HO} (h : H p = none) : Same H (upd H p o) := fun b u e => by
  rw [upd_ne (ne_of_none e h)]
  exact e

theorem dp_ints {K : PySem.W.Frag} {H : Hp} : ∀ ns : List Int, DpAll K H (ns.map V.int) (ns.map .int)
  | [] => .nil
  | n :: r => .cons (.int n) (dp_ints r)
def okD (n : Nat) (d : PyData) : Prop := d.canLay0 = true ∧ d.depth ≤ n
theorem okD_shaped {n : Nat} {d : PyData} (h : okD n d) (hn : n ≤ 64) : SeqAt.shaped d = true := by
  unfold SeqAt.shaped
  rw [h.1, decide_eq_true (Nat.le_trans h.2 hn)]
  rfl
theorem okD_int (n : Nat) (i : Int) : okD n (.int i) := ⟨rfl, by simp [PyData.depth]⟩
theorem okD_none (n : Nat) : okD n .none := ⟨rfl, by simp [PyData.depth]⟩
theorem okD_str {n : Nat} {x : Str} (h : x.cps.all (· < 0x110000) = true) : okD n (.str x) := ⟨by
  simp only [PyData.canLay0, PyData.strOk]
  exact h, by simp [PyData.depth]⟩
theorem okD_all {n : Nat} : ∀ {ds : List PyData}, (∀ d ∈ ds, okD n d) → PyData.canLayAll0 ds = true ∧ PyData.depthAll ds ≤ n
  | [], _ => ⟨rfl, by simp [PyData.depthAll]⟩
  | d :: r, h => by
    obtain ⟨h1, h2⟩ := h d List.mem_cons_self
    obtain ⟨r1, r2⟩ := okD_all (ds := r) fun e he => h e (List.mem_cons_of_mem _ he)
    exact ⟨by simp only [PyData.canLayAll0, h1, r1]; rfl, by simp only [PyData.depthAll]; omega⟩
theorem okD_list {n : Nat} {ds : List PyData} (h : ∀ d ∈ ds, okD n d) : okD (n + 1) (.list ds) := by
  obtain ⟨h1, h2⟩ := okD_all h
  exact ⟨by simp only [PyData.canLay0]; exact h1, by simp only [PyData.depth]; omega⟩
theorem okD_tuple {n : Nat} {ds : List PyData} (h : ∀ d ∈ ds, okD n d) : okD (n + 1) (.tuple ds) := by
  obtain ⟨h1, h2⟩ := okD_all h
  exact ⟨by simp only [PyData.canLay0]; exact h1, by simp only [PyData.depth]; omega⟩
theorem okD_ints (n : Nat) (ns : List Int) : ∀ d ∈ ns.map PyData.int, okD n d := fun d hd => by
  obtain ⟨i, _, rfl⟩ := List.mem_map.mp hd
  exact okD_int n i
theorem shaped_ints (ns : List Int) : SeqAt.shaped (.list (ns.map .int)) = true := okD_shaped (okD_list (okD_ints 0 ns)) (by decide)
theorem shaped_tints (ns : List Int) : SeqAt.shaped (.tuple (ns.map .int)) = true := okD_shaped (okD_tuple (okD_ints 0 ns)) (by decide)
theorem eqv_nil {ds : List PyData} : PyData.eqv (.list ds) (.list []) = ds.isEmpty := by
  cases ds with
  | nil => simp only [PyData.eqv, PyData.eqvAll]; rfl
  | cons d r => simp only [PyData.eqv, PyData.eqvAll]; rfl
def penL (c : Addr) (t l : Int) : List (Key × V) := [(.inr "cells", .ref c), (.inr "turn", .int t), (.inr "left", .int l)]
theorem kct : ¬ (Sum.inr ("cells" : Str) : Key) = Sum.inr ("turn" : Str) := by decide +kernel
theorem kcl : ¬ (Sum.inr ("cells" : Str) : Key) = Sum.inr ("left" : Str) := by decide +kernel
theorem ktl : ¬ (Sum.inr ("turn" : Str) : Key) = Sum.inr ("left" : Str) := by decide +kernel
theorem klt : ¬ (Sum.inr ("left" : Str) : Key) = Sum.inr ("turn" : Str) := by decide +kernel
theorem sct : ¬ ("cells" : Str) = ("turn" : Str) := by decide +kernel
theorem scl : ¬ ("cells" : Str) = ("left" : Str) := by decide +kernel
theorem stl : ¬ ("turn" : Str) = ("left" : Str) := by decide +kernel
theorem slt : ¬ ("left" : Str) = ("turn" : Str) := by decide +kernel
theorem pen_cells (c : Addr) (t l : Int) : valV (penL c t l) (Sum.inr ("cells" : Str) : Key) = some (.ref c) := by
  unfold penL
  rw [valV_pos rfl]
theorem pen_turn (c : Addr) (t l : Int) : valV (penL c t l) (Sum.inr ("turn" : Str) : Key) = some (.int t) := by
  unfold penL
  rw [valV_neg kct, valV_pos rfl]
theorem pen_left (c : Addr) (t l : Int) : valV (penL c t l) (Sum.inr ("left" : Str) : Key) = some (.int l) := by
  unfold penL
  rw [valV_neg kcl, valV_neg ktl, valV_pos rfl]
theorem pen_put_turn (c : Addr) (t l u : Int) : putK (penL c t l) (Sum.inr ("turn" : Str) : Key) (.int u) = penL c u l := by
  unfold penL putK
  simp [sct, slt]
theorem pen_put_left (c : Addr) (t l u : Int) : putK (penL c t l) (Sum.inr ("left" : Str) : Key) (.int u) = penL c t u := by
  unfold penL putK
  simp [scl, stl]
structure PenAt (H : Hp) (p c : Addr) (ns : List Int) (t l : Int) (b : Int) : Prop where
  ob : H p = some (.dK (penL c t l))
  cs : H c = some (.lst (ns.map V.int))
  t0 : 0 ≤ t
  tb : t ≤ b
  l0 : 0 ≤ l
  n63 : ns.length ≤ 63
def Pen (H : Hp) (p c : Addr) (b : Int) : Prop := ∃ ns t l, PenAt H p c ns t l b
theorem PenAt.get_cells {H : Hp} {p c : Addr} {ns : List Int} {t l b : Int} (h : PenAt H p c ns t l b) : DGet H p (.str "cells") (some (.ref c)) := by
  have e := DGet.k (k := Sum.inr ("cells" : Str)) h.ob
  rw [pen_cells] at e
  exact e
theorem PenAt.get_turn {H : Hp} {p c : Addr} {ns : List Int} {t l b : Int} (h : PenAt H p c ns t l b) : DGet H p (.str "turn") (some (.int t)) := by
  have e := DGet.k (k := Sum.inr ("turn" : Str)) h.ob
  rw [pen_turn] at e
  exact e
theorem PenAt.get_left {H : Hp} {p c : Addr} {ns : List Int} {t l b : Int} (h : PenAt H p c ns t l b) : DGet H p (.str "left") (some (.int l)) := by
  have e := DGet.k (k := Sum.inr ("left" : Str)) h.ob
  rw [pen_left] at e
  exact e
theorem PenAt.put_turn {H : Hp} {p c : Addr} {ns : List Int} {t l b : Int} (h : PenAt H p c ns t l b) (u : Int) : DPut H p (.str "turn") (.int u) (upd H p (.dK (penL c u l))) := by
  have e := DPut.k (k := Sum.inr ("turn" : Str)) (v := .int u) h.ob (by show 3 < sizeLine; decide)
  rw [pen_put_turn] at e
  exact e
theorem PenAt.put_left {H : Hp} {p c : Addr} {ns : List Int} {t l b : Int} (h : PenAt H p c ns t l b) (u : Int) : DPut H p (.str "left") (.int u) (upd H p (.dK (penL c t u))) := by
  have e := DPut.k (k := Sum.inr ("left" : Str)) (v := .int u) h.ob (by show 3 < sizeLine; decide)
  rw [pen_put_left] at e
  exact e
theorem PenAt.ne {H : Hp} {p c : Addr} {ns : List Int} {t l b : Int} (h : PenAt H p c ns t l b) : c ≠ p := ne_of h.cs h.ob (by intro z; cases z)
theorem PenAt.upd {H : Hp} {p c : Addr} {ns : List Int} {t l b u v b' : Int} (h : PenAt H p c ns t l b) (hu : 0 ≤ u) (hb : u ≤ b') (hv : 0 ≤ v) : PenAt (upd H p (.dK (penL c u v))) p c ns u v b' :=
  ⟨upd_same, by rw [upd_ne h.ne]; exact h.cs, hu, hb, hv, h.n63⟩
theorem PenAt.same {H H' : Hp} {p c : Addr} {ns : List Int} {t l b : Int} (h : PenAt H p c ns t l b) (e : Same H H') : PenAt H' p c ns t l b :=
  ⟨e _ _ h.ob, e _ _ h.cs, h.t0, h.tb, h.l0, h.n63⟩
theorem Pen.same {H H' : Hp} {p c : Addr} {b : Int} (h : Pen H p c b) (e : Same H H') : Pen H' p c b := by
  obtain ⟨ns, t, l, h⟩ := h
  exact ⟨ns, t, l, h.same e⟩
theorem Pen.mono {H : Hp} {p c : Addr} {b b' : Int} (h : Pen H p c b) (e : b ≤ b') : Pen H p c b' := by
  obtain ⟨ns, t, l, h⟩ := h
  exact ⟨ns, t, l, h.ob, h.cs, h.t0, Int.le_trans h.tb e, h.l0, h.n63⟩
theorem sameB_upd {H : Hp} {p : Addr} {o : HO} : SameB p H (L2.upd H p o) := fun b u h n => by
  rw [upd_ne n]
  exact h
def spDraw : Sp := fun vs H Q _ => ∃ (p c : Addr) (n b : Int), vs = [.ref p, .int n] ∧ Pen H p c b ∧ 0 < n ∧ n < 2 ^ 300 ∧ b < 2 ^ 60 ∧
  ∀ (r : Int) (H' : Hp), 0 ≤ r → r < n → Pen H' p c (b + 1) → SameB p H H' → Q (.int r) H'
end Dg
namespace Dg
open PySem PySem.Spec PyProof.Rows L2
def Sq (K : PySem.W.Frag) (H : Hp) (a : Addr) (xs : List V) : Prop := SqL K H a xs ∨ SqT K H a xs
theorem sqL {K : PySem.W.Frag} {H : Hp} {a : Addr} {xs : List V} (h : H a = some (.lst xs)) : SqL K H a xs := .inl (.inl h)
theorem sqT {K : PySem.W.Frag} {H : Hp} {a : Addr} {xs : List V} (h : H a = some (.tup xs)) : SqT K H a xs := .inl (.inl h)
theorem same_t {K : PySem.W.Frag} {H H' : Hp} {a : Addr} {xs : List V} (e : Same H H') (h : SqT K H a xs) : SqT K H' a xs := by
  rcases h with (h | ⟨o, h⟩) | h
  · exact .inl (.inl (e _ _ h))
  · exact .inl (.inr ⟨o, e _ _ h⟩)
  · exact .inr h
theorem Sq.same {K : PySem.W.Frag} {H H' : Hp} {a : Addr} {xs : List V} (h : Sq K H a xs) (e : Same H H') : Sq K H' a xs := by
  rcases h with h | h
  · exact .inl (e.seq h)
  · exact .inr (same_t e h)
def rIxA (K : PySem.W.Frag) : R2 := fun x y H Q => ∃ p xs i v, x = .ref p ∧ y = .int i ∧ Sq K H p xs ∧ atI xs i = some v ∧ Q v H
theorem ix_any {X : Cx} : IxR X (rIxA X.K) := by
  intro value slice pins s σ H x y v u Q I rx ry q hs
  obtain ⟨p, xs, i, w, h1, h2, h3, h4, h5⟩ := q
  refine ix_seq value slice pins s σ H x y v u Q I rx ry ?_ hs
  rcases h3 with h3 | h3
  · exact .inl ⟨p, xs, i, w, h1, h2, h3, h4, h5⟩
  · exact .inr (.inl ⟨p, xs, i, w, h1, h2, h3, h4, h5⟩)
theorem at_int {ns : List Int} {i : Int} {j : Nat} (e : i = (j : Int)) (h : j < ns.length) : atI (ns.map V.int) i = some (.int (ns.getD j 0)) := by
  refine at_of e ?_
  rw [List.getElem?_map, List.getElem?_eq_getElem h, List.getD_eq_getElem?_getD, List.getElem?_eq_getElem h]
  rfl
theorem pmk_own0 {X : Cx} {C : Addr} {bmB : List Value} {B newId initId : String} {x : Str} {p pos : Pos} (F : ExcBaseFacts B newId initId bmB) (q : PySem.W.excIn X.K C bmB newId = true) (gC : X.mg x = some (.ref C))
    (kC : PySem.W.keepIn X.K (.ref C) = true) (r : Raises X (.ref C)) (hg : Gl X x) (hdb : (x == ("__debug__" : Str)) = false := by decide) :
    PMk X (.Call (.Name x p) [] [] pos) (fun _ H Q => Q (.ref C) none H) := by
  intro pins s σ H Q I h
  refine wpAny_Call_Name_kw (ld_glob I hg gC ?_ hdb)
  refine PySem.W.callWith_K0 I.kIn kC ?_
  show wpAny _ _ (call (.ref C) []) _ _ _
  obtain ⟨bm, N, nm, qn, bs, hdct, sn, sub, ab, col, dd, k0, k1, k2, k3, k5, mN, hC, hN, hni, T⟩ := exc_obj I.kIn q
  refine wpAny_call_exc_subT F T hC hN hni (fun h' e hm => ?_) (by decide)
  exact mk_of I hm r h (I.hok.gone hm.new)
structure Ec (K : PySem.W.Frag) (mg : Str → Option Value) (x : Str) (C : Addr) : Prop where
  gC : mg x = some (.ref C)
  xC : PySem.W.excIn K C [.type "ValueError", .type "Exception", .type "BaseException", .type "object"] "ValueError.__new__" = true
  kC : PySem.W.keepIn K (.ref C) = true
  bC : PySem.W.subIn K (.ref C) (.type "BaseException") = some true
  tC : PySem.W.typeIn K (.ref C) = some (.type "type")
  iC : PySem.W.isClsIn K C = true
  sC : PySem.W.subIn K (.ref C) (.ref C) = some true
theorem exm_self {K : PySem.W.Frag} {S : Addr} (h1 : PySem.W.subIn K (.ref S) (.type "BaseException") = some true) (h2 : PySem.W.isClsIn K S = true) (h3 : PySem.W.typeIn K (.ref S) = some (.type "type")) (h4 : PySem.W.subIn K (.ref S) (.ref S) = some true) :
    PySem.W.exmOne K (.ref S) (.ref S) = some true := by
  have e1 : (PySem.W.subIn K (.ref S) (.type "BaseException") == some true) = true := by rw [h1] <;> rfl
  have e2 : ((PySem.W.clsIn K S).isSome && PySem.W.typeIn K (.ref S) == some (.type "type")) = true := by
    have h2' : (PySem.W.clsIn K S).isSome = true := h2
    rw [h2', h3] <;> rfl
  show (if (PySem.W.subIn K (.ref S) (.type "BaseException") == some true) = true then (if ((PySem.W.clsIn K S).isSome && PySem.W.typeIn K (.ref S) == some (.type "type")) = true then PySem.W.subIn K (.ref S) (.ref S) else none) else none) = some true
  rw [if_pos e1, if_pos e2]
  exact h4
theorem Ec.te {K : PySem.W.Frag} {mg : Str → Option Value} {x : Str} {C : Addr} (c : Ec K mg x C) : PySem.W.exmOne K (.ref C) (.ref C) = some true := exm_self c.bC c.iC c.tC c.sC
end Dg
namespace Dg
open PySem PySem.Spec PyProof.Rows L2
section
variable {X : Cx} {CX : CXT} {k : Nat} {x : Str} {ps : List Str} {sp : Sp} {E : L2.St → XK} {e : Expr} {es : List Expr} {t : TA} {p pos : Pos}
theorem pe_calS (C : Cal X.prog X.w X.K X.mg X.base CX k x ps sp) (hr : Room k X.A) (hg : Gl X x) (hx : ∀ σ, PassesAt CX X σ (E σ))
    (ha : PA X (e :: es) t) (hdb : (x == ("__debug__" : Str)) = false := by decide) (he : starEach (e :: es) X.env = (false, eval e X.env) :: starEach es X.env := by rfl) (hpl : (backTo pos (starEach es X.env)).any (·.1) = false := by rfl) :
    PE X (.Call (.Name x p) (e :: es) [] pos) (tCallS sp E t) := by
  obtain ⟨f, fd, F, hm, hk, hb⟩ := C.ex
  exact pe_callS F hr hg hm hk hb hx ha hdb he hpl
end
theorem iteB {c : Bool} {A B : Prop} (h1 : c = true → A) (h2 : c = false → B) : if c = true then A else B := by
  cases c with
  | true => rw [if_pos rfl]; exact h1 rfl
  | false => rw [if_neg Bool.false_ne_true]; exact h2 rfl
end Dg
namespace Dg
open PySem PySem.Spec PyProof.Rows L2
theorem pd_length {α β : Type} {F : α → β → Prop} : ∀ {xs : List α} {ys : List β}, Paired F xs ys → xs.length = ys.length
  | _, _, .nil => rfl
  | _, _, .cons _ t => congrArg (· + 1) (pd_length t)
theorem pd_mono {α β : Type} {F G : α → β → Prop} : ∀ {xs : List α} {ys : List β}, Paired F xs ys → (∀ a b, F a b → G a b) → Paired G xs ys
  | _, _, .nil, _ => .nil
  | _, _, .cons r t, f => .cons (f _ _ r) (pd_mono t f)
theorem pd_app {α β : Type} {F : α → β → Prop} : ∀ {xs xs' : List α} {ys ys' : List β}, Paired F xs ys → Paired F xs' ys' → Paired F (xs ++ xs') (ys ++ ys')
  | _, _, _, _, .nil, h => h
  | _, _, _, _, .cons r t, h => .cons r (pd_app t h)
theorem pd_get {α β : Type} {F : α → β → Prop} : ∀ {xs : List α} {ys : List β} {i : Nat} {x : α}, Paired F xs ys → xs[i]? = some x → ∃ y, ys[i]? = some y ∧ F x y
  | _, _, _, _, .nil, e => by simp at e
  | _, _, 0, _, .cons r _, e => by
    simp at e
    subst e
    exact ⟨_, rfl, r⟩
  | _, _, i + 1, x, .cons _ t, e => by
    obtain ⟨y, h1, h2⟩ := pd_get (i := i) (x := x) t (by simpa using e)
    exact ⟨y, by simpa using h1, h2⟩
theorem pd_get' {α β : Type} {F : α → β → Prop} : ∀ {xs : List α} {ys : List β} {i : Nat} {y : β}, Paired F xs ys → ys[i]? = some y → ∃ x, xs[i]? = some x ∧ F x y
  | _, _, _, _, .nil, e => by simp at e
  | _, _, 0, _, .cons r _, e => by
    simp at e
    subst e
    exact ⟨_, rfl, r⟩
  | _, _, i + 1, y, .cons _ t, e => by
    obtain ⟨x, h1, h2⟩ := pd_get' (i := i) (y := y) t (by simpa using e)
    exact ⟨x, by simpa using h1, h2⟩
theorem pd_drop {α β : Type} {F : α → β → Prop} : ∀ {xs : List α} {ys : List β} (n : Nat), Paired F xs ys → Paired F (xs.drop n) (ys.drop n)
  | _, _, 0, r => r
  | _, _, _ + 1, .nil => .nil
  | _, _, n + 1, .cons _ t => pd_drop n t
theorem pd_take {α β : Type} {F : α → β → Prop} : ∀ {xs : List α} {ys : List β} (n : Nat), Paired F xs ys → Paired F (xs.take n) (ys.take n)
  | _, _, 0, _ => .nil
  | _, _, _ + 1, .nil => .nil
  | _, _, n + 1, .cons r t => .cons r (pd_take n t)
def RowAt (K : PySem.W.Frag) (H : Hp) (v : V) (r : List Int) : Prop := ∃ a, v = .ref a ∧ SqT K H a (r.map V.int)
def LAt (K : PySem.W.Frag) (H : Hp) (v : V) (rs : List (List Int)) : Prop := ∃ a vals, v = .ref a ∧ H a = some (.lst vals) ∧ Paired (RowAt K H) vals rs
theorem RowAt.same {K : PySem.W.Frag} {H H' : Hp} (e : Same H H') {v : V} {r : List Int} (h : RowAt K H v r) : RowAt K H' v r := by
  obtain ⟨a, h1, h2⟩ := h
  exact ⟨a, h1, same_t e h2⟩
theorem LAt.same {K : PySem.W.Frag} {H H' : Hp} (e : Same H H') {v : V} {r : List (List Int)} (h : LAt K H v r) : LAt K H' v r := by
  obtain ⟨a, vals, h1, h2, h3⟩ := h
  exact ⟨a, vals, h1, e _ _ h2, pd_mono h3 fun _ _ => RowAt.same e⟩
theorem rows_same {K : PySem.W.Frag} {H H' : Hp} (e : Same H H') {vs : List V} {rs : List (List Int)} (h : Paired (RowAt K H) vs rs) : Paired (RowAt K H') vs rs := pd_mono h fun _ _ => RowAt.same e
theorem lats_same {K : PySem.W.Frag} {H H' : Hp} (e : Same H H') {vs : List V} {rs : List (List (List Int))} (h : Paired (LAt K H) vs rs) : Paired (LAt K H') vs rs := pd_mono h fun _ _ => LAt.same e
def hid (D : Addr) (H : Hp) : Hp := fun b => if b = D then none else H b
theorem hid_same {D : Addr} {H : Hp} : Same (hid D H) H := fun b o h => by
  unfold hid at h
  split at h
  · cases h
  · exact h
theorem hid_at {D b : Addr} {H : Hp} {o : HO} (h : H b = some o) (n : b ≠ D) : hid D H b = some o := by
  unfold hid
  rw [if_neg n]
  exact h
theorem hid_upd {D : Addr} {H : Hp} {o : HO} : hid D (upd H D o) = hid D H := by
  funext b
  unfold hid
  by_cases e : b = D
  · rw [if_pos e, if_pos e]
  · rw [if_neg e, if_neg e, upd_ne e]
theorem hid_mono {D : Addr} {H H' : Hp} (e : Same H H') : Same (hid D H) (hid D H') := fun b o h => by
  unfold hid at h
  split at h
  · cases h
  · rename_i n
    exact hid_at (e b o h) n
theorem hid_none {D : Addr} {H : Hp} (n : H D = none) : Same H (hid D H) := fun b o h => hid_at h (ne_of_none h n)
theorem sb_rd {p a : Addr} {H H' : Hp} {o u : HO} (e : SameB p H H') (hp : H p = some o) (d : ∀ o', o ≠ .frz o' u) (du : o ≠ u) (h : Rd H a u) : Rd H' a u := by
  rcases h with h | ⟨o', h⟩
  · exact .inl (e a _ h fun z => by
      subst z
      rw [hp] at h
      exact du (Option.some.inj h))
  · exact .inr ⟨o', e a _ h fun z => by
      subst z
      rw [hp] at h
      exact d o' (Option.some.inj h)⟩
theorem sb_l {K : PySem.W.Frag} {p a : Addr} {H H' : Hp} {kvs : List (Key × V)} {xs : List V} (e : SameB p H H') (hp : H p = some (.dK kvs)) (h : SqL K H a xs) : SqL K H' a xs := by
  rcases h with h | h
  · exact .inl (sb_rd e hp (fun _ z => by cases z) (fun z => by cases z) h)
  · exact .inr h
theorem sb_t {K : PySem.W.Frag} {p a : Addr} {H H' : Hp} {kvs : List (Key × V)} {xs : List V} (e : SameB p H H') (hp : H p = some (.dK kvs)) (h : SqT K H a xs) : SqT K H' a xs := by
  rcases h with h | h
  · exact .inl (sb_rd e hp (fun _ z => by cases z) (fun z => by cases z) h)
  · exact .inr h
theorem sb_sq {K : PySem.W.Frag} {p a : Addr} {H H' : Hp} {kvs : List (Key × V)} {xs : List V} (e : SameB p H H') (hp : H p = some (.dK kvs)) (h : Sq K H a xs) : Sq K H' a xs := by
  rcases h with h | h
  · exact .inl (sb_l e hp h)
  · exact .inr (sb_t e hp h)
theorem Pen.dk {H : Hp} {p c : Addr} {b : Int} (h : Pen H p c b) : ∃ kvs, H p = some (.dK kvs) := by
  obtain ⟨ns, t, l, h⟩ := h
  exact ⟨_, h.ob⟩
theorem SameB.l {K : PySem.W.Frag} {p a : Addr} {H H' : Hp} {b : Int} {c : Addr} {xs : List V} (e : SameB p H H') (hp : Pen H p c b) (h : SqL K H a xs) : SqL K H' a xs := by
  obtain ⟨_, q⟩ := hp.dk
  exact sb_l e q h
theorem SameB.t {K : PySem.W.Frag} {p a : Addr} {H H' : Hp} {b : Int} {c : Addr} {xs : List V} (e : SameB p H H') (hp : Pen H p c b) (h : SqT K H a xs) : SqT K H' a xs := by
  obtain ⟨_, q⟩ := hp.dk
  exact sb_t e q h
theorem SameB.lst {p a : Addr} {H H' : Hp} {b : Int} {c : Addr} {xs : List V} (e : SameB p H H') (hp : Pen H p c b) (h : H a = some (.lst xs)) : H' a = some (.lst xs) := by
  obtain ⟨_, q⟩ := hp.dk
  exact e _ _ h (ne_of h q (by intro z; cases z))
theorem SameB.tup {p a : Addr} {H H' : Hp} {b : Int} {c : Addr} {xs : List V} (e : SameB p H H') (hp : Pen H p c b) (h : H a = some (.tup xs)) : H' a = some (.tup xs) := by
  obtain ⟨_, q⟩ := hp.dk
  exact e _ _ h (ne_of h q (by intro z; cases z))
theorem RowAt.sb {K : PySem.W.Frag} {H H' : Hp} {p c : Addr} {b : Int} (e : SameB p H H') (hp : Pen H p c b) {v : V} {r : List Int} (h : RowAt K H v r) : RowAt K H' v r := by
  obtain ⟨a, h1, h2⟩ := h
  exact ⟨a, h1, e.t hp h2⟩
theorem LAt.sb {K : PySem.W.Frag} {H H' : Hp} {p c : Addr} {b : Int} (e : SameB p H H') (hp : Pen H p c b) {v : V} {r : List (List Int)} (h : LAt K H v r) : LAt K H' v r := by
  obtain ⟨a, vals, h1, h2, h3⟩ := h
  exact ⟨a, vals, h1, e.lst hp h2, pd_mono h3 fun _ _ => RowAt.sb e hp⟩
theorem sb_free {p a : Addr} {H H' : Hp} (e : SameB p H H') (h : H' a = none) (n : a ≠ p) : H a = none := by
  cases q : H a with
  | none => rfl
  | some o =>
    rw [e a o q n] at h
    cases h
theorem OpR.imp {X : Cx} {f : Value → Value → Sem Value} {r r' : R2} (h : OpR X f r) (i : ∀ x y H Q, r' x y H Q → r x y H Q) : OpR X f r' :=
  fun pins s σ H x y v u Q I rx ry q => h pins s σ H x y v u Q I rx ry (i x y H Q q)
def rCatS (K : PySem.W.Frag) : R2 := fun x y H Q => ∃ a b xs ys, x = .ref a ∧ y = .ref b ∧ SqT K H a xs ∧ SqT K H b ys ∧ xs.length + ys.length ≤ sizeLine ∧ ∀ p H', Same H H' → SqT K H' p (xs ++ ys) → Q (.ref p) H'
theorem op_catS {X : Cx} : OpR X (binaryOp .Add) (rCatS X.K) := by
  refine OpR.imp op_catA fun x y H Q h => ?_
  obtain ⟨a, b, xs, ys, h1, h2, h3, h4, h5, q⟩ := h
  refine ⟨a, b, xs, ys, h1, h2, h3, h4, h5, fun e => ?_, fun e e2 => ?_, fun e e2 p np => ?_⟩
  · refine q b H (Same.refl H) ?_
    rw [e]
    exact h4
  · refine q a H (Same.refl H) ?_
    rw [e2, List.append_nil]
    exact h3
  · exact q p _ (same_new np) (sqT upd_same)
theorem eqv_ints : ∀ (ns ms : List Int), PyData.eqvAll (ns.map .int) (ms.map .int) = decide (ns = ms)
  | [], [] => by simp [PyData.eqvAll]
  | [], _ :: _ => by simp [PyData.eqvAll]
  | _ :: _, [] => by simp [PyData.eqvAll]
  | a :: r, b :: t => by
    simp only [List.map_cons, PyData.eqvAll, eqv_ints r t, PyData.eqv]
    by_cases h : a = b <;> by_cases h' : r = t <;> simp [h, h']
theorem eqv_tints (ns ms : List Int) : PyData.eqv (.tuple (ns.map .int)) (.tuple (ms.map .int)) = decide (ns = ms) := by
  simp only [PyData.eqv]
  exact eqv_ints ns ms
theorem eqv_lints (ns ms : List Int) : PyData.eqv (.list (ns.map .int)) (.list (ms.map .int)) = decide (ns = ms) := by
  simp only [PyData.eqv]
  exact eqv_ints ns ms
def tupD (r : List Int) : PyData := .tuple (r.map .int)
theorem dp_row {K : PySem.W.Frag} {H : Hp} {v : V} {r : List Int} (h : RowAt K H v r) : Dp K H v (tupD r) := by
  obtain ⟨a, e, h⟩ := h
  subst e
  exact .tup h (dp_ints r)
theorem dp_rows {K : PySem.W.Frag} {H : Hp} : ∀ {vs : List V} {rs : List (List Int)}, Paired (RowAt K H) vs rs → DpAll K H vs (rs.map tupD)
  | _, _, .nil => .nil
  | _, _, .cons h t => .cons (dp_row h) (dp_rows t)
theorem okD_tup (n : Nat) (r : List Int) : okD (n + 1) (tupD r) := okD_tuple (okD_ints n r)
theorem okD_tups (n : Nat) (rs : List (List Int)) : ∀ d ∈ rs.map tupD, okD (n + 1) d := fun d hd => by
  obtain ⟨r, _, rfl⟩ := List.mem_map.mp hd
  exact okD_tup n r
theorem eqv_rows : ∀ (rs ss : List (List Int)), PyData.eqvAll (rs.map tupD) (ss.map tupD) = decide (rs = ss)
  | [], [] => by simp [PyData.eqvAll]
  | [], _ :: _ => by simp [PyData.eqvAll]
  | _ :: _, [] => by simp [PyData.eqvAll]
  | a :: r, b :: t => by
    have e : PyData.eqv (tupD a) (tupD b) = decide (a = b) := eqv_tints a b
    simp only [List.map_cons, PyData.eqvAll, eqv_rows r t, e]
    by_cases h : a = b <;> by_cases h' : r = t <;> simp [h, h']
theorem cut_all (xs : List V) : cutV xs none none = xs := by
  unfold cutV
  rw [HT.sIx_none, HT.sIx_none]
  simp
theorem cut_from (xs : List V) (k : Nat) : cutV xs (some (k : Int)) none = xs.drop k := by
  unfold cutV
  rw [HT.sIx_nat, HT.sIx_none]
  by_cases h : k ≤ xs.length
  · rw [Nat.min_eq_left h, List.take_of_length_le (by rw [List.length_drop]; exact Nat.le_refl _)]
  · rw [Nat.min_eq_right (by omega), List.drop_eq_nil_of_le (Nat.le_refl _), List.drop_eq_nil_of_le (by omega)]
    simp
theorem cut_to (xs : List V) (k : Nat) : cutV xs none (some (k : Int)) = xs.take k := by
  unfold cutV
  rw [HT.sIx_nat, HT.sIx_none]
  show (xs.take (min k xs.length)) = xs.take k
  by_cases h : k ≤ xs.length
  · rw [Nat.min_eq_left h]
  · rw [Nat.min_eq_right (by omega), List.take_of_length_le (Nat.le_refl _), List.take_of_length_le (by omega)]
end Dg
namespace Dg
open PySem PySem.Spec PyProof.Rows L2
section
variable {X : Cx} {K : PySem.W.Frag} (h : X.K = K)
include h
theorem k_ix_list : IxR X (rIxL K) := h ▸ ix_list
theorem k_ix_tup : IxR X (rIxT K) := h ▸ ix_tup
theorem k_ix_any : IxR X (rIxA K) := h ▸ ix_any
theorem k_op_catS : OpR X (binaryOp .Add) (rCatS K) := h ▸ op_catS
theorem k_op_in_seq : OpR X (compareOp .In) (rIn K false) := h ▸ op_in_seq
theorem k_op_notIn_seq : OpR X (compareOp .NotIn) (rIn K true) := h ▸ op_notIn_seq
theorem k_op_eqD (hu : X.A.units + 64 < cLine) : OpR X (compareOp .Eq) (rEqD K) := h ▸ op_eqD hu
theorem k_op_neD (hu : X.A.units + 64 < cLine) : OpR X (compareOp .NotEq) (rNeD K) := h ▸ op_neD hu
theorem k_call_len_seq : CallR X (.builtin "len") (fun xs H Q => ∃ p ys, xs = [.ref p] ∧ (SqL K H p ys ∨ SqT K H p ys) ∧ Q (.int ys.length) H) := h ▸ call_len_seq
theorem k_call_list_of : CallR X (.type "list") (fun xs H Q => ∃ p ys, xs = [.ref p] ∧ (SqL K H p ys ∨ SqT K H p ys) ∧ ∀ l, H l = none → Q (.ref l) (upd H l (.lst ys))) := h ▸ call_list_of
theorem k_call_tuple_of : CallR X (.type "tuple") (fun xs H Q => ∃ p ys, xs = [.ref p] ∧ ((SqL K H p ys ∧ ∀ l, H l = none → Q (.ref l) (upd H l (.tup ys))) ∨ (SqT K H p ys ∧ Q (.ref p) H))) := h ▸ call_tuple_of
theorem k_sl_list : SlR X (rSlL K) := h ▸ sl_list
theorem k_sl_tupA : SlR X (rSlA K) := h ▸ sl_tupA
end
end Dg
namespace Dg
open PySem PySem.Spec PyProof.Rows L2
theorem at_last' {α : Type} {xs : List α} {v : α} (h : xs[xs.length - 1]? = some v) : atI xs (-1) = some v := by
  have h1 : xs.getLast? = some v := by
    rw [List.getLast?_eq_getElem?]
    exact h
  rcases List.eq_nil_or_concat xs with e | ⟨s, d, e⟩
  · rw [e] at h1
    cases h1
  · rw [List.concat_eq_append] at e
    subst e
    have : d = v := by simpa using h1
    rw [this]
    exact atI_last _ _
end Dg
namespace Dg
open PySem PySem.Spec PyProof.Rows L2
theorem SameB.upd {p q : Addr} {H H' : Hp} {o : HO} (e : SameB p H H') (h : H q = none) : SameB p H (upd H' q o) := fun b u hb n => by
  rw [upd_ne (ne_of_none hb h)]
  exact e b u hb n
theorem SameB.new {p q : Addr} {H H' : Hp} {o : HO} (e : SameB p H H') (h : H' q = none) : SameB p H (L2.upd H' q o) := e.trans (SameB.of (same_new h))
theorem Pen.upd {H : Hp} {p c q : Addr} {b : Int} {o : HO} (h : Pen H p c b) (hp : q ≠ p) (hc : q ≠ c) : Pen (L2.upd H q o) p c b := by
  obtain ⟨ns, t, l, h⟩ := h
  refine ⟨ns, t, l, ?_, ?_, h.t0, h.tb, h.l0, h.n63⟩
  · rw [upd_ne hp.symm]
    exact h.ob
  · rw [upd_ne hc.symm]
    exact h.cs
theorem Pen.fresh {H : Hp} {p c q : Addr} {b : Int} (h : Pen H p c b) (hq : H q = none) : q ≠ p ∧ q ≠ c := by
  obtain ⟨ns, t, l, h⟩ := h
  exact ⟨(ne_of_none h.ob hq).symm, (ne_of_none h.cs hq).symm⟩
end Dg
namespace Dg
open PySem PySem.Spec PyProof.Rows L2
theorem call_isE2 {X : Cx} {a D : Addr} {oe : Obj} {pn : List (Addr × Obj)} {cls : Value} {d : Option Addr} (C : ExcC X.K D) (hz : Zc cls d oe) (hf : ∃ vs, oe.data = .fields vs) :
    CallR (X.suite a ((a, oe) :: pn)) (.builtin "isinstance") (fun xs H Q => cls = .ref D ∧ d = none ∧ rIsE X.K D a xs H Q) := by
  intro pins s σ H xs us Q I r h
  obtain ⟨h1, h2, h⟩ := h
  subst h1 h2
  exact call_isE C hz hf pins s σ H xs us Q I r h
structure Ei (K : PySem.W.Frag) (mg : Str → Option Value) (C T : Addr) : Prop where
  ex : ExcC K C
  g_TurnError : mg "TurnError" = some (.ref T)
  kT : PySem.W.kitOne K (.ref C) (.ref T) = some true
  kV : PySem.W.kitOne K (.ref C) (.type "ValueError") = some true
end Dg
namespace Dg
open PySem PySem.Spec PyProof.Rows L2
theorem rel_ref (a : Addr) : RelV (.ref a) (.ref a) := rfl
theorem rel_ty (n : String) : RelV (.ty n) (.type n) := rfl
theorem boot_VE : bootBuiltins "ValueError" = some (.type "ValueError") := by decide +kernel
end Dg
namespace Dg
open PySem PySem.Spec PyProof.Rows L2
def lstD (rs : List (List Int)) : PyData := .list (rs.map tupD)
theorem dp_lats {K : PySem.W.Frag} {H : Hp} : ∀ {vs : List V} {ls : List (List (List Int))}, Paired (LAt K H) vs ls → DpAll K H vs (ls.map lstD)
  | _, _, .nil => .nil
  | _, _, .cons h t => .cons (by
      obtain ⟨a, vals, e, h1, h2⟩ := h
      subst e
      exact .lst (sqL h1) (dp_rows h2)) (dp_lats t)
theorem okD_lsts (n : Nat) (ls : List (List (List Int))) : ∀ d ∈ ls.map lstD, okD (n + 2) d := fun d hd => by
  obtain ⟨r, _, rfl⟩ := List.mem_map.mp hd
  exact okD_list (okD_tups n r)
end Dg
namespace Dg
open PySem PySem.Spec PyProof.Rows L2
theorem k_pg_tup {X : Cx} {K : PySem.W.Frag} {es : List Expr} {k n : Nat} {pos : Pos} {t : List V → L2.St → Hp → (L2.St → Hp → Prop) → Prop} (h : PG X (.Tuple es k pos) (gTup X.K n t)) (e : X.K = K) : PG X (.Tuple es k pos) (gTup K n t) := e ▸ h
end Dg
namespace Dg
open PySem PySem.Spec PyProof.Rows L2
def IteG (G : List V → Hp → Prop) (k : Int) : It where
  go i H := ∃ (xs : List V) (x : V), G xs H ∧ xs[i]? = some x
  yld i H v H' := ∃ T x, v = .ref T ∧ H T = none ∧ H' = upd H T (.tup [.int (k + (i : Nat)), x]) ∧ ∀ xs, G xs H → xs[i]? = some x
  stop i H := ∃ xs : List V, G xs H ∧ xs.length ≤ i
structure Drawn (P : Program) (w : World) (K : PySem.W.Frag) (a : Addr) (G : List V → Hp → Prop) (on : Nat → Addr → Heap → Prop) (all : Array Value → Heap → Prop) : Prop where
  sees : ∀ {X : Cx} {pins : List (Addr × Obj)} {σ : L2.St} {H : Hp} {s : Shared} {xs : List V}, X.K = K → Inv X pins σ H s → G xs H → ∃ its : List Value, Vals xs its ∧ all its.toArray s.heap
  same : ∀ {X : Cx} {pins : List (Addr × Obj)} {σ : L2.St} {H : Hp} {s : Shared} {xs ys : List V}, X.K = K → Inv X pins σ H s → G xs H → G ys H → ys = xs
  draws : ∀ (A : Around) (it : Addr) (its : Array Value), A.handled = none → a ≠ it → Draws P w A it [it, a] its.size (fun i v => its[i]? = some v) fun i h => on i it h ∧ all its h
  plain : ∀ {i : Nat} {it : Addr} {h : Heap}, on i it h → ∃ o, h.get? it = some o ∧ ∀ v, o.data ≠ .cell v
  moves : ∀ {i : Nat} {it : Addr} {h h' : Heap}, on i it h → (∀ o, h.get? it = some o → h'.get? it = some o) → on i it h'
  ends : ∀ (A : Around) (it : Addr) (its : Array Value) (i : Nat), A.handled = none → its.size ≤ i → Draws P w A it [it, a] i (fun _ _ => False) fun j h => j = i ∧ on i it h ∧ all its h
theorem drawnT (P : Program) (w : World) (K : PySem.W.Frag) (a : Addr) : Drawn P w K a (fun xs H => SqT K H a xs) (fun i it h => h.IsTupleIter it a i) fun its h => h.IsTuple a its where
  sees k I q := by
    subst k
    obtain ⟨its, r, t, _⟩ := I.tuple q
    exact ⟨its, r, t⟩
  same k I p q := by
    subst k
    exact I.tuple_inj q p
  draws A it its hd ne := Draws.tuple hd it a ne its
  plain z := by
    obtain ⟨o, e, _, d⟩ := z
    refine ⟨o, e, fun v x => ?_⟩
    rw [d] at x
    cases x
  moves z k := z.at k
  ends A it its i hd le :=
    ⟨fun _ _ z => let ⟨o, e, _⟩ := z.2.1; ⟨o, e⟩, fun _ _ _ z k => ⟨z.1, z.2.1.at fun o => k it (by simp) o, z.2.2.at fun o => k a (by simp) o⟩, fun j _ _ _ lt z => absurd z.1 (Nat.ne_of_lt lt),
      fun _ _ _ z e => wpAny_nextOf_tuple_end hd z.2.1 z.2.2 (Array.getElem?_eq_none le) e⟩
theorem drawnL (P : Program) (w : World) (K : PySem.W.Frag) (a : Addr) : Drawn P w K a (fun xs H => SqL K H a xs) (fun i it h => h.IsListIter it a i) fun its h => h.IsList a its where
  sees k I q := by
    subst k
    obtain ⟨its, r, t, _⟩ := I.list q
    exact ⟨its, r, t.isList⟩
  same k I p q := by
    subst k
    exact I.list_inj q p
  draws A it its hd ne := Draws.list hd it a ne its
  plain z := by
    obtain ⟨o, e, _, d⟩ := z
    refine ⟨o, e, fun v x => ?_⟩
    rw [d] at x
    cases x
  moves z k := z.at k
  ends A it its i hd le :=
    ⟨fun _ _ z => let ⟨o, e, _⟩ := z.2.1; ⟨o, e⟩, fun _ _ _ z k => ⟨z.1, z.2.1.at fun o => k it (by simp) o, z.2.2.at fun o => k a (by simp) o⟩, fun j _ _ _ lt z => absurd z.1 (Nat.ne_of_lt lt),
      fun _ _ _ z e => wpAny_nextOf_list_end hd z.2.1 z.2.2 (Array.getElem?_eq_none le) e⟩
theorem new_pair {X : Cx} {pins : List (Addr × Obj)} {σ : L2.St} {H : Hp} {s : Shared} (I : Inv X pins σ H s) {e it : Addr} (le : e < s.heap.objs.size) (li : it < s.heap.objs.size) (free : ∀ b ∈ [e, it], FpOk X pins H b) {h2 : Heap} {tk : Nat} {n : Int} {t : Tok} {x : V} {u : Value} (ru : RelV x u)
    (rest : ∀ b o, b ≠ e → b ≠ it → s.heap.get? b = some o → h2.get? b = some o) (made : h2.get? s.heap.objs.size = some { cls := .type "tuple", data := .seq #[.int n t, u] }) :
    Inv X pins σ (upd H s.heap.objs.size (.tup [.int n, x])) { s with heap := h2, toks := tk } ∧ ∀ b ∈ [e, it], upd H s.heap.objs.size (.tup [.int n, x]) b = none := by
  have apart : ∀ b ∈ [e, it], b ≠ s.heap.objs.size := by
    simp only [List.mem_cons, List.not_mem_nil, or_false]
    intro b z
    rcases z with z | z
    · exact z ▸ Nat.ne_of_lt le
    · exact z ▸ Nat.ne_of_lt li
  constructor
  · refine I.turnedNew (ch := [e, it]) (fun b o nb q => ?_) free (Nat.le_refl _) ⟨(show 2 ≤ sizeLine by decide), [.int n t, u], .cons ⟨t, rfl⟩ (.cons ru .nil), ⟨_, made, rfl, _, rfl⟩⟩
    rw [List.mem_cons, List.mem_singleton] at nb
    exact rest b o (fun z => nb (.inl z)) (fun z => nb (.inr z)) q
  · intro b hb
    rw [upd_ne (apart b hb)]
    exact (free b hb).1
section
variable {P : Program} {w : World} {K : PySem.W.Frag} {elts : List Expr} {kk : Nat} {tpos : Pos} {a : Addr} {G : List V → Hp → Prop} {on : Nat → Addr → Heap → Prop} {all : Array Value → Heap → Prop}
def EnAt (on : Nat → Addr → Heap → Prop) (k : Int) (a e it : Addr) (i : Nat) (h : Heap) : Prop := (∃ old, IsEnum h e it (k + ((i : Nat) : Int)) old) ∧ on i it h ∧ a ≠ it ∧ e ≠ it ∧ e ≠ a
theorem turn_en (D : Drawn P w K a G on all) (k : Int) (e it : Addr) : Turn P w K (.Tuple elts kk tpos) (IteG G k) [e, it] e (EnAt on k a e it) where
  mem := List.mem_cons_self
  obj i h z b hb := by
    obtain ⟨⟨old, en⟩, on1, _⟩ := z
    rcases List.mem_cons.mp hb with y | y
    · rw [y]
      exact ⟨_, en, fun _ => Data.noConfusion⟩
    · obtain rfl := List.mem_singleton.mp y
      exact D.plain on1
  keep i h h' z kp := by
    obtain ⟨⟨old, en⟩, on1, r⟩ := z
    exact ⟨⟨old, kp e List.mem_cons_self _ en⟩, D.moves on1 (kp it (by simp)), r⟩
  item X hP hw hK calm i pins s σ H E I free z go := by
    subst hP hw
    obtain ⟨⟨old, en⟩, on1, ai, ei, ea⟩ := z
    obtain ⟨xs, x, gx, ex⟩ := go
    obtain ⟨its, vals, al⟩ := D.sees hK I gx
    obtain ⟨u, eu, ru⟩ := vals.get ex
    obtain ⟨oi, hoi, _⟩ := D.plain on1
    have le := Heap.lt_size en
    refine wpAny_pyNext_enum_itemC (D.draws X.A.in1 it its.toArray (I.ok.hd calm) ai) en ⟨on1, al⟩ (i := i) (by simpa using (List.getElem?_eq_some_iff.mp eu).1) ei (by simp [ei, ea]) fun y h1 tk ey out nxt tup _ kept => ?_
    have : its[i]? = some y := by simpa using ey
    rw [eu] at this
    cases this
    refine ⟨_, rfl, wpAny_letOwnedTupleGo_enum (s := { s with heap := h1, toks := tk + 1 }) out fun h2 en2 only => ?_⟩
    obtain ⟨I2, gone⟩ := new_pair (h2 := h2) (tk := tk + 1) I le (Heap.lt_size hoi) free ru (fun b o n1 n2 q => (only.2 b n1).trans (kept b o n1 n2 q)) ((only.2 _ (Nat.ne_of_gt le)).trans tup)
    have e1 : k + ((i + 1 : Nat) : Int) = k + (i : Int) + 1 := by omega
    exact ⟨.ref s.heap.objs.size, _, I2, rfl, ⟨_, x, rfl, I.hok.fresh (Nat.le_refl _), rfl, fun ys hy => D.same hK I gx hy ▸ ex⟩, ⟨⟨u, e1 ▸ en2⟩, D.moves nxt.1 (fun o q => (only.2 it (Ne.symm ei)).trans q), ai, ei, ea⟩, gone⟩
  done X hP hw hK calm i pins s σ H E I free z stop := by
    subst hP hw
    obtain ⟨⟨old, en⟩, on1, ai, ei, ea⟩ := z
    obtain ⟨xs, gx, lx⟩ := stop
    obtain ⟨its, vals, al⟩ := D.sees hK I gx
    obtain ⟨f0, f1, f2, f3, f4, f5⟩ := free it (List.mem_cons_of_mem _ List.mem_cons_self)
    have size : its.toArray.size ≤ i := by
      rw [List.size_toArray, ← vals.length]
      exact lx
    exact wpAny_pyNext_enum_endD (D.ends X.A.in1 it its.toArray i (I.ok.hd calm) size) en ⟨rfl, on1, al⟩ fun h' kept => ⟨rfl, I.turned (t' := s.toks) kept f0 f1 f3 f4 f5⟩
  self A i s Q E z q := by
    obtain ⟨⟨old, en⟩, _⟩ := z
    exact wpAny_pyIter_enum en q
end
theorem meets_en1 {v : Value} {o : Obj} {H : Heap → Prop} (B : Begins v o H) : Meets (Builtin.«enumerate.__new__» ⟨[.type "enumerate", v], []⟩)
    (fun _ R s => H s.heap ∧ R (.ok (.ret (.ref (s.heap.push o).objs.size))) { s with heap := (s.heap.push o).push { cls := .type "enumerate", data := .fields #[.none, .bool false, .ref s.heap.objs.size, rawInt 0, .none, .none] } }) := by
  refine .of_wp fun P w A R st ⟨hv, q⟩ => ?_
  obtain ⟨heap, g, d, tk, os⟩ := st
  have kind := sub_enumerate
  have begin1 : ∀ {B' : Around} {E N : Value → Shared → Prop}, N (.ref heap.objs.size) ⟨heap.push o, g, d, tk, os⟩ → wpAny (model P w) B' (pyIter v) N E ⟨heap, g, d, tk, os⟩ := fun n => B.iter P w _ _ _ _ hv n
  wp_walk using begin1
  refine wpAny_stack_any fun top => wpAny_pure ?_
  split
  · rename_i c _ _ _ _ _
    cases c == Value.type "enumerate" <;> (wp_walk using begin1; exact ⟨_, rfl, q⟩)
  · wp_walk using begin1
    exact ⟨_, rfl, q⟩
theorem en1_begins {prog : Program} {w : World} {A : Around} {E Q : Value → Shared → Prop} {s : Shared} {v : Value} {o : Obj} {H : Heap → Prop} (B : Begins v o H) (hv : H s.heap)
    (q : ∀ h', IsEnum h' (s.heap.objs.size + 1) s.heap.objs.size 0 .none → h'.get? s.heap.objs.size = some o → (∀ b u, s.heap.get? b = some u → h'.get? b = some u) → Q (.ref (s.heap.objs.size + 1)) { s with heap := h' }) :
    wpAny (model prog w) A (call (.type "enumerate") [v]) Q E s := by
  have n1 : (s.heap.push o).objs.size = s.heap.objs.size + 1 := Heap.size_push ..
  have made := Heap.get?_push_size (s.heap.push o) (o := { cls := .type "enumerate", data := .fields #[.none, .bool false, .ref s.heap.objs.size, rawInt 0, .none, .none] }) rfl
  rw [n1] at made
  refine callType_new F.called_enumerate (by decide) (F.typeCall_enumerate_1 _) (F.newCall_enumerate_1 _) (fun obj => F.args_object_init_2 obj _) F.entry_enumerate_new (meets_en1 B) ⟨hv, ?_⟩
  rw [n1]
  exact ⟨⟨_, made, rfl⟩, q _ made (Heap.get?_push_of_some _ (Heap.get?_push_size _ B.free)) fun b u x => Heap.get?_push_of_some _ (Heap.get?_push_of_some _ x)⟩
theorem walk_enumT {K : PySem.W.Frag} {a : Addr} {xs : List V} {k : Int} : Walk (IteG (fun xs H => SqT K H a xs) k) xs.length (fun H => SqT K H a xs) (YPair (fun i => some (.int (k + (i : Nat)))) (fun i => xs[i]?)) := by
  refine ⟨fun i _ hi q => ⟨xs, xs[i], q, by simp [hi]⟩, fun _ q => ⟨xs, q, Nat.le_refl _⟩, fun i H v H' _ q y => ?_⟩
  obtain ⟨T, x, h1, h2, h3, h4⟩ := y
  exact ⟨T, .int (k + (i : Nat)), x, h1, h2, h3, rfl, h4 xs q⟩
def iEnumS (K : PySem.W.Frag) (ta : TA) : TI := fun σ H R => ta σ H fun vs H1 => ∃ a xs, vs = [.ref a] ∧ Sq K H1 a xs ∧
  ∀ J, L2.Walk J xs.length (fun H => Sq K H a xs ∧ Same H1 H) (YPair (fun i => some (.int (i : Nat))) (fun i => xs[i]?)) → R J H1
theorem walk_enumS {K : PySem.W.Frag} {a : Addr} {xs : List V} {H1 : Hp} : (SqL K H1 a xs → L2.Walk (Ite K a) xs.length (fun H => Sq K H a xs ∧ Same H1 H) (YPair (fun i => some (.int (i : Nat))) (fun i => xs[i]?))) ∧
    (SqT K H1 a xs → L2.Walk (IteG (fun xs H => SqT K H a xs) 0) xs.length (fun H => Sq K H a xs ∧ Same H1 H) (YPair (fun i => some (.int (i : Nat))) (fun i => xs[i]?))) := by
  refine ⟨fun h => Walk.mono walk_enum (fun H g => g.2.seq h) fun _ _ _ _ _ _ y => y, fun h => Walk.mono walk_enumT (fun H g => same_t g.2 h) fun i H x H' _ _ y => ?_⟩
  obtain ⟨T, u, v, h1, h2, h3, h4, h5⟩ := y
  refine ⟨T, u, v, h1, h2, h3, ?_, h5⟩
  rw [← h4]
  simp
theorem pi_enumS {X : Cx} {e : Expr} {ta : TA} {p pos tpos : Pos} {elts : List Expr} {kk : Nat} (hg : Gl X "enumerate") (hm : X.mg "enumerate" = none) (ha : PA X [e] ta) (hs : starEach [e] X.env = [(false, eval e X.env)] := by rfl) :
    PI X (.Tuple elts kk tpos) (.Call (.Name "enumerate" p) [e] [] pos) (iEnumS X.K ta) := by
  constructor
  intro pins s σ H R I h
  refine Call_ (ld_blt I hg hm boot_enumerate (PyProof.Rows.callWith_type1 (thn (ha.run pos pins s σ H _ I h) fun us s1 z => ?_) hs rfl))
  obtain ⟨vs, H1, I1, r1, a, xs, rfl, sq, q⟩ := z
  obtain ⟨u, rfl, ru⟩ : ∃ u, us = [u] ∧ RelV (V.ref a) u := by
    cases r1 with
    | cons r rr =>
      cases rr
      exact ⟨_, rfl, r⟩
  obtain rfl : u = .ref a := ru
  let n := s1.heap.objs.size
  have young : ∀ b ∈ [n + 1, n], FpOk X pins H1 b := fun b hb => by
    have le : n ≤ b := by
      rcases List.mem_cons.mp hb with z | z
      · exact z ▸ Nat.le_add_right n 1
      · exact Nat.le_of_eq (List.mem_singleton.mp z).symm
    exact I1.fpOk le (I1.hok.fresh le)
  have old : ∀ {o : Obj}, s1.heap.get? a = some o → a ≠ n ∧ n + 1 ≠ a := fun e => by
    have := Heap.lt_size e
    exact ⟨Nat.ne_of_lt this, Nat.ne_of_gt (Nat.lt_succ_of_lt this)⟩
  rcases sq with l | t
  · obtain ⟨its, _, is, _⟩ := I1.list l
    exact call_enumerate_list is.isList fun h' en on _ kp => wpAny_pyIter_enum en ⟨n + 1, [n + 1, n], _, _, H1, rfl, I1.kept (t' := s1.toks) kp, turn_enum a (n + 1) n, ⟨⟨.none, en⟩, on, Nat.succ_ne_self _⟩, young, q _ (walk_enumS.1 l)⟩
  · obtain ⟨its, _, is, _⟩ := I1.tuple t
    have is2 : s1.heap.IsTuple a its.toArray := is
    obtain ⟨o, eo, _⟩ := is2
    exact en1_begins (begins_tuple a its.toArray) is fun h' en made kp => wpAny_pyIter_enum en
      ⟨n + 1, [n + 1, n], _, _, H1, rfl, I1.kept (t' := s1.toks) kp, turn_en (drawnT X.prog X.w X.K a) 0 (n + 1) n, ⟨⟨.none, by simpa using en⟩, ⟨_, made, rfl, rfl⟩, (old eo).1, Nat.succ_ne_self _, (old eo).2⟩, young, q _ (walk_enumS.2 t)⟩
end Dg
namespace Dg
open PySem PySem.Spec PyProof.Rows L2
def spFld (C : Addr) (fld : Str) : Sp := fun vs H Q _ => ∃ (a : Addr) (v : V), vs = [.ref a, v] ∧ H a = some (exo a C none) ∧
  ∀ dx, H dx = none → dx ≠ a → Q .non (upd (upd H dx (exd dx [(fld, v)])) a (exo a C (some dx)))
structure Ef (P : Program) (w : World) (K : PySem.W.Frag) (mg : Str → Option Value) (base : Heap) (x fld : Str) (C : Addr) : Prop where
  T : OexC K C
  gC : mg x = some (.ref C)
  no : PySem.W.findIn K (.ref C) fld = some none
  ini : ∃ (fI : Addr) (fd : FuncData), PySem.W.findIn K (.ref C) "__init__" = some (some (.ref fI)) ∧ PySem.W.typeIn K (.ref fI) = some (.type "function") ∧ FnOk P w K mg base CX0 1 fI fd ["self", fld] (spFld C fld) ∧ Binds K fd ["self", fld] []
  xf : XfC K C
  iC : PySem.W.isClsIn K C = true
  sC : PySem.W.subIn K (.ref C) (.ref C) = some true
theorem Ef.te {P : Program} {w : World} {K : PySem.W.Frag} {mg : Str → Option Value} {base : Heap} {x fld : Str} {C : Addr} (c : Ef P w K mg base x fld C) : PySem.W.exmOne K (.ref C) (.ref C) = some true := exm_self c.T.exC c.iC c.T.tyC c.sC
theorem passF {X : Cx} : Passes CX0 X (fun _ _ _ => False) := fun _ _ _ _ _ _ _ h => h.elim
theorem pmk_fld {X : Cx} {x fld : Str} {C : Addr} {e : Expr} {ta : TA} {p pos : Pos} (c : Ef X.prog X.w X.K X.mg X.base x fld C) (hr : Room 2 X.A) (hg : Gl X x) (ha : PA X [e] ta) (hdb : (x == ("__debug__" : Str)) = false := by decide)
    (he : starEach [e] X.env = (false, eval e X.env) :: starEach [] X.env := by rfl) (hpl : (backTo pos (starEach [] X.env)).any (·.1) = false := by rfl) :
    PMk X (.Call (.Name x p) [e] [] pos) (tMkO C (spFld C fld) [] ta) := by
  obtain ⟨fI, fd, iC, tI, F1, hb⟩ := c.ini
  exact pmk_oex c.T iC tI F1 hr hb .nil passF hg c.gC ha hdb he hpl
theorem mkO_in {C : Addr} {fld : Str} {v : V} {H1 : Hp} {Q : XK} (h : ∀ d, H1 d = none → Q (.ref C) (some d) (upd H1 d (.xd [(fld, v)]))) :
    [v].length ≤ 1000 ∧ ∀ a, H1 a = none → spFld C fld (.ref a :: ([v] ++ [])) (upd H1 a (exo a C none)) (fun u H2 => u = .non ∧ ∃ (d : Addr) (fs : List (Str × V)), H2 a = some (exo a C (some d)) ∧ H2 d = some (exd d fs) ∧ H1 d = none ∧ Q (.ref C) (some d) (upd (del H2 a) d (.xd fs))) (fun _ _ _ => False) := by
  refine ⟨by show 1 ≤ 1000; decide, fun a na => ⟨a, v, rfl, upd_same, fun dx nd ne => ⟨rfl, dx, [(fld, v)], upd_same, ?_, ?_, ?_⟩⟩⟩
  · rw [upd_ne ne, upd_same]
  · rw [upd_ne ne] at nd
    exact nd
  · rw [upd_ne ne] at nd
    have e : upd (del (upd (upd (upd H1 a (exo a C none)) dx (exd dx [(fld, v)])) a (exo a C (some dx))) a) dx (.xd [(fld, v)]) = upd H1 dx (.xd [(fld, v)]) := by
      funext b
      by_cases h1 : b = dx
      · rw [h1, upd_same, upd_same]
      · rw [upd_ne h1, upd_ne h1]
        by_cases h2 : b = a
        · rw [h2, del_same, na]
        · rw [del_ne h2, upd_ne h2, upd_ne h1, upd_ne h2]
    rw [e]
    exact h dx nd
end Dg
namespace Dg
open PySem PySem.Spec PyProof.Rows L2
def iAny (K : PySem.W.Frag) (tl : TE) : TI := fun σ H R => tl σ H fun x H1 => ∃ a xs, x = .ref a ∧ Sq K H1 a xs ∧ ∀ J, L2.Walk J xs.length (fun H => Sq K H a xs ∧ Same H1 H) (YAt xs) → R J H1
theorem seq_begins {X : Cx} {pins : List (Addr × Obj)} {σ : L2.St} {H : Hp} {s : Shared} {tg : Expr} {a : Addr} {R : It → Hp → Prop} (I : Inv X pins σ H s) (q : ((∃ xs, SqL X.K H a xs) ∧ R (Itl X.K a) H) ∨ ((∃ xs, SqT X.K H a xs) ∧ R (Itt X.K a) H)) :
    wpAny (model X.prog X.w) X.A (pyIter (.ref a)) (PIE X pins σ tg R) X.xe s := by
  let n := s.heap.objs.size
  have young : ∀ b ∈ [n], FpOk X pins H b := fun b z => List.mem_singleton.mp z ▸ I.fpOk (Nat.le_refl n) (I.hok.fresh (Nat.le_refl n))
  have old : ∀ (o : Obj) (b : Addr) (u : Obj), s.heap.get? b = some u → (s.heap.push o).get? b = some u := fun _ _ _ z => Heap.get?_push_of_some _ z
  rcases q with ⟨⟨xs, l⟩, q⟩ | ⟨⟨xs, t⟩, q⟩
  · obtain ⟨its, _, is, _⟩ := I.list l
    exact wpAny_pyIter_list is.isList ⟨n, [n], _, _, H, rfl, I.kept (t' := s.toks) (old _), turn_list a n, ⟨_, Heap.get?_push_size _ rfl, rfl, rfl⟩, young, q⟩
  · obtain ⟨its, _, is, _⟩ := I.tuple t
    have is2 : s.heap.IsTuple a its.toArray := is
    exact wpAny_pyIter_tuple is2 ⟨n, [n], _, _, H, rfl, I.kept (t' := s.toks) (old _), turn_tuple a n, ⟨_, Heap.get?_push_size _ rfl, rfl, rfl⟩, young, q⟩
theorem pi_any {X : Cx} {tg l : Expr} {tl : TE} (hl : PE X l tl) : PI X tg l (iAny X.K tl) := by
  constructor
  intro pins s σ H R I h
  refine thn (hl.run pins s σ H _ I h) fun v s1 z => ?_
  obtain ⟨_, H1, I1, rv, a, xs, rfl, sq, q⟩ := z
  obtain rfl : v = .ref a := rv
  refine seq_begins I1 ?_
  rcases sq with k | k
  · exact .inl ⟨⟨xs, k⟩, q _ (Walk.mono walk_list (fun H g => g.2.seq k) fun _ _ _ _ _ _ y => y)⟩
  · exact .inr ⟨⟨xs, k⟩, q _ (Walk.mono walk_tup (fun H g => same_t g.2 k) fun _ _ _ _ _ _ y => y)⟩
def ValAt (K : PySem.W.Frag) (H : Hp) (v : V) (r : List Int) : Prop := ∃ a, v = .ref a ∧ Sq K H a (r.map V.int)
theorem ValAt.same {K : PySem.W.Frag} {H H' : Hp} (e : Same H H') {v : V} {r : List Int} (h : ValAt K H v r) : ValAt K H' v r := by
  obtain ⟨a, h1, h2⟩ := h
  exact ⟨a, h1, h2.same e⟩
theorem RowAt.val {K : PySem.W.Frag} {H : Hp} {v : V} {r : List Int} (h : RowAt K H v r) : ValAt K H v r := by
  obtain ⟨a, h1, h2⟩ := h
  exact ⟨a, h1, .inr h2⟩
theorem vals_same {K : PySem.W.Frag} {H H' : Hp} (e : Same H H') {vs : List V} {rs : List (List Int)} (h : Paired (ValAt K H) vs rs) : Paired (ValAt K H') vs rs := pd_mono h fun _ _ => ValAt.same e
theorem truV_l {K : PySem.W.Frag} {H : Hp} {a : Addr} {xs : List V} (h : SqL K H a xs) : TruV K (.ref a) H (!xs.isEmpty) := .inl ⟨xs, h, rfl⟩
theorem truV_t {K : PySem.W.Frag} {H : Hp} {a : Addr} {xs : List V} (h : SqT K H a xs) : TruV K (.ref a) H (!xs.isEmpty) := .inr (.inl ⟨xs, h, rfl⟩)
end Dg
namespace Dg
open PySem PySem.Spec PyProof.Rows L2
theorem sqT_upd {K : PySem.W.Frag} {H : Hp} {D a : Addr} {o : HO} {acc xs : List V} (hD : H D = some (.lst acc)) (h : SqT K H a xs) : SqT K (upd H D o) a xs := by
  rcases h with (h | ⟨o', h⟩) | h
  · exact .inl (.inl (by rw [upd_ne (ne_of h hD (by intro z; cases z))]; exact h))
  · exact .inl (.inr ⟨o', by rw [upd_ne (ne_of h hD (by intro z; cases z))]; exact h⟩)
  · exact .inr h
theorem row_upd {K : PySem.W.Frag} {H : Hp} {D : Addr} {o : HO} {acc : List V} {v : V} {r : List Int} (hD : H D = some (.lst acc)) (h : RowAt K H v r) : RowAt K (upd H D o) v r := by
  obtain ⟨a, e, h⟩ := h
  exact ⟨a, e, sqT_upd hD h⟩
end Dg
namespace Dg
def carryV (k l : List Int) (c d : Nat) : Option Int :=
  if k.getD d 0 = l.getD d 0 then none
  else if k.getD c 0 > k.getD d 0 then some (k.getD d 0 + 1)
  else if l.getD d 0 > l.getD c 0 then some (l.getD d 0)
  else none
def stepV (k l : List Int) (n : Nat) : Option (List Int × Int) :=
  (List.range n).findSome? fun i => if k.getD i 0 > l.getD i 0 then some ([(i : Int)], k.getD i 0) else none
def pairV (k l : List Int) (d n : Nat) : Option (List Int × Int) :=
  (List.range n).findSome? fun c => (carryV k l c d).map fun p => ([(c : Int), (d : Int)], p)
def carriesV (k l : List Int) (n : Nat) : Option (List Int × Int) :=
  (List.range n).findSome? fun d => pairV k l d d
def faultV (k l : List Int) : Option (List Int × Int) :=
  match stepV k l k.length with
  | some x => some x
  | none => carriesV k l k.length
theorem range_some {α : Type} (f : Nat → Option α) (n : Nat) : (List.range (n + 1)).findSome? f = ((List.range n).findSome? f).or (f n) := by
  rw [List.range_succ, List.findSome?_append]
  congr 1
  simp
theorem range_some_first {α : Type} {f : Nat → Option α} {x : α} : ∀ (n i : Nat), i < n → (List.range i).findSome? f = none → f i = some x → (List.range n).findSome? f = some x
  | 0, _, h, _, _ => absurd h (Nat.not_lt_zero _)
  | n + 1, i, h, h0, hx => by
    rw [range_some]
    by_cases e : i = n
    · subst e
      rw [h0, hx]
      rfl
    · rw [range_some_first n i (by omega) h0 hx]
      rfl
end Dg
namespace Dg
def preP (g : Nat → Nat → Int) : Nat → Nat → Int
  | 0, _ => 0
  | i + 1, v => 2 * preP g i v + g i v
def redP (g : Nat → Nat → Int) (k : Nat → Nat) : Nat → Int
  | 0 => 0
  | i + 1 => 2 * redP g k i + g i (k i)
structure Bits (g : Nat → Nat → Int) : Prop where
  lo : ∀ i v, 0 ≤ g i v
  hi : ∀ i v, g i v ≤ 1
theorem preP_mono {g : Nat → Nat → Int} (B : Bits g) {v w : Nat} : ∀ (n i : Nat), i ≤ n → preP g n v ≤ preP g n w → preP g i v ≤ preP g i w
  | 0, i, h, hn => by
    have : i = 0 := by omega
    subst this
    exact hn
  | n + 1, i, h, hn => by
    by_cases e : i = n + 1
    · subst e
      exact hn
    · refine preP_mono B n i (by omega) ?_
      have h1 := B.lo n v
      have h2 := B.hi n w
      simp only [preP] at hn
      omega
structure Crit (k l : Nat → Nat) (n : Nat) : Prop where
  le : ∀ i, i < n → k i ≤ l i
  adj : ∀ i, i + 1 < n → k (i + 1) = l (i + 1) ∨ (k i ≤ k (i + 1) ∧ l (i + 1) ≤ l i)
theorem crit_same {g : Nat → Nat → Int} {k l : Nat → Nat} {n : Nat} (C : Crit k l n) (M : ∀ i v w, i ≤ n → v ≤ w → preP g i v ≤ preP g i w) :
    ∀ x, x < n → (∀ j, j ≤ x → g j (k j) = g j (l j)) → ∀ lo hi, k x ≤ lo → lo ≤ hi → hi ≤ l x → preP g (x + 1) lo = preP g (x + 1) hi
  | 0, hx, hd, lo, hi, h1, h2, h3 => by
    have a1 := M 1 (k 0) lo (by omega) h1
    have a2 := M 1 lo hi (by omega) h2
    have a3 := M 1 hi (l 0) (by omega) h3
    have e : preP g 1 (k 0) = preP g 1 (l 0) := by
      simp only [preP]
      rw [hd 0 (Nat.le_refl _)]
    show preP g 1 lo = preP g 1 hi
    omega
  | x + 1, hx, hd, lo, hi, h1, h2, h3 => by
    rcases C.adj x hx with e | ⟨e1, e2⟩
    · have : lo = hi := by omega
      rw [this]
    · have hk := C.le (x + 1) hx
      have e : preP g (x + 1) (k (x + 1)) = preP g (x + 1) (l (x + 1)) := crit_same C M x (by omega) (fun j hj => hd j (by omega)) _ _ e1 hk e2
      have e' : preP g (x + 2) (k (x + 1)) = preP g (x + 2) (l (x + 1)) := by
        show 2 * preP g (x + 1) (k (x + 1)) + g (x + 1) (k (x + 1)) = 2 * preP g (x + 1) (l (x + 1)) + g (x + 1) (l (x + 1))
        rw [e, hd (x + 1) (Nat.le_refl _)]
      have a1 := M (x + 2) (k (x + 1)) lo (by omega) h1
      have a2 := M (x + 2) lo hi (by omega) h2
      have a3 := M (x + 2) hi (l (x + 1)) (by omega) h3
      show preP g (x + 2) lo = preP g (x + 2) hi
      omega
theorem crit_le {g : Nat → Nat → Int} (B : Bits g) {k l : Nat → Nat} {n : Nat} (C : Crit k l n) (M : ∀ i v w, i ≤ n → v ≤ w → preP g i v ≤ preP g i w) :
    ∀ i, i ≤ n → redP g k i < redP g l i ∨ (redP g k i = redP g l i ∧ ∀ j, j < i → g j (k j) = g j (l j))
  | 0, _ => .inr ⟨rfl, fun j h => absurd h (Nat.not_lt_zero _)⟩
  | i + 1, hi => by
    have b1 := B.lo i (k i)
    have b2 := B.hi i (k i)
    have b3 := B.lo i (l i)
    have b4 := B.hi i (l i)
    have ek : redP g k (i + 1) = 2 * redP g k i + g i (k i) := rfl
    have el : redP g l (i + 1) = 2 * redP g l i + g i (l i) := rfl
    rcases crit_le B C M i (by omega) with h | ⟨h, hd⟩
    · left
      omega
    · have hk := C.le i (by omega)
      have key : g i (k i) ≤ g i (l i) := by
        have m1 := M (i + 1) (k i) (l i) hi hk
        have e1 : preP g (i + 1) (k i) = 2 * preP g i (k i) + g i (k i) := rfl
        have e2 : preP g (i + 1) (l i) = 2 * preP g i (l i) + g i (l i) := rfl
        cases i with
        | zero =>
          have z1 : preP g 0 (k 0) = 0 := rfl
          have z2 : preP g 0 (l 0) = 0 := rfl
          omega
        | succ x =>
          rcases C.adj x (by omega) with e | ⟨f1, f2⟩
          · rw [e]
            exact Int.le_refl _
          · have e := crit_same C M x (by omega) (fun j hj => hd j (by omega)) _ _ f1 hk f2
            omega
      by_cases e : g i (k i) = g i (l i)
      · right
        refine ⟨by omega, fun j hj => ?_⟩
        by_cases hj2 : j = i
        · subst hj2
          exact e
        · exact hd j (by omega)
      · left
        omega
end Dg
namespace Dg
def numV (r : List Int) : Int := r.foldl (fun a d => 2 * a + d) 0
def rowsV : Nat → List (List Int)
  | 0 => [[]]
  | n + 1 => (rowsV n).flatMap fun r => [r ++ [0], r ++ [1]]
theorem numV_snoc (r : List Int) (d : Int) : numV (r ++ [d]) = 2 * numV r + d := by
  unfold numV
  rw [List.foldl_append]
  rfl
def IsBits (n : Nat) (r : List Int) : Prop := r.length = n ∧ ∀ d ∈ r, d = 0 ∨ d = 1
theorem snoc_of {α : Type} {n : Nat} {r : List α} (h : r.length = n + 1) : ∃ s d, r = s ++ [d] ∧ s.length = n := by
  rcases List.eq_nil_or_concat r with e | ⟨s, d, e⟩
  · rw [e] at h
    simp at h
  · rw [List.concat_eq_append] at e
    refine ⟨s, d, e, ?_⟩
    rw [e] at h
    simp at h
    exact h
theorem mem_rowsV : ∀ (n : Nat) (r : List Int), r ∈ rowsV n ↔ IsBits n r
  | 0, r => by
    unfold IsBits rowsV
    constructor
    · intro h
      have e : r = [] := by simpa using h
      subst e
      exact ⟨rfl, fun d hd => by simp at hd⟩
    · intro h
      have e : r = [] := List.eq_nil_of_length_eq_zero h.1
      rw [e]
      simp
  | n + 1, r => by
    unfold rowsV
    rw [List.mem_flatMap]
    constructor
    · rintro ⟨s, hs, hr⟩
      have hb := (mem_rowsV n s).mp hs
      have hr' : r = s ++ [0] ∨ r = s ++ [1] := by simpa using hr
      rcases hr' with e | e <;> subst e
      · refine ⟨by rw [List.length_append, hb.1]; rfl, fun d hd => ?_⟩
        rcases List.mem_append.mp hd with h | h
        · exact hb.2 d h
        · left
          simpa using h
      · refine ⟨by rw [List.length_append, hb.1]; rfl, fun d hd => ?_⟩
        rcases List.mem_append.mp hd with h | h
        · exact hb.2 d h
        · right
          simpa using h
    · rintro ⟨h1, h2⟩
      obtain ⟨s, d, e, hs⟩ := snoc_of h1
      subst e
      refine ⟨s, (mem_rowsV n s).mpr ⟨hs, fun x hx => h2 x (List.mem_append_left _ hx)⟩, ?_⟩
      rcases h2 d (List.mem_append_right _ List.mem_cons_self) with e | e <;> rw [e] <;> simp
theorem rowsV_len (n : Nat) : (rowsV n).length = 2 ^ n := by
  induction n with
  | zero => rfl
  | succ n ih =>
    unfold rowsV
    rw [List.length_flatMap]
    have e : (List.map (fun a => ([a ++ [(0 : Int)], a ++ [1]] : List (List Int)).length) (rowsV n)) = List.replicate (rowsV n).length 2 := by
      rw [List.eq_replicate_iff]
      refine ⟨by rw [List.length_map], fun b hb => ?_⟩
      obtain ⟨a, _, rfl⟩ := List.mem_map.mp hb
      rfl
    rw [e, List.sum_replicate_nat, ih, Nat.pow_succ]
theorem rowsV_pw : ∀ n : Nat, (rowsV n).Pairwise fun a b => numV a < numV b
  | 0 => by
    unfold rowsV
    simp
  | n + 1 => by
    unfold rowsV
    rw [List.pairwise_flatMap]
    refine ⟨fun a _ => ?_, ?_⟩
    · simp only [List.pairwise_cons, List.mem_cons, List.mem_nil_iff, or_false, forall_eq, List.not_mem_nil, false_imp_iff, implies_true, List.Pairwise.nil, and_true]
      rw [numV_snoc, numV_snoc]
      omega
    · refine (rowsV_pw n).imp fun {a b} h x hx y hy => ?_
      have hx' : x = a ++ [0] ∨ x = a ++ [1] := by simpa using hx
      have hy' : y = b ++ [0] ∨ y = b ++ [1] := by simpa using hy
      rcases hx' with e | e <;> rcases hy' with e2 | e2 <;> rw [e, e2, numV_snoc, numV_snoc] <;> omega
def firstV (rows one : List (List Int)) : Nat := match one.getLast? with
  | none => 0
  | some r => rows.findIdx (fun x => decide (x = r))
def risV (rows : List (List Int)) : Nat → List (List (List Int))
  | 0 => [[]]
  | n + 1 => (risV rows n).flatMap fun one => (rows.drop (firstV rows one)).map fun row => one ++ [row]
structure IsRis (rows : List (List Int)) (m : Nat) (rs : List (List Int)) : Prop where
  len : rs.length = m
  mem : ∀ r ∈ rs, r ∈ rows
  up : rs.Pairwise fun a b => numV a ≤ numV b
theorem getLast_snoc {α : Type} (s : List α) (d : α) : (s ++ [d]).getLast? = some d := by simp
theorem drop_le {rows : List (List Int)} (pw : rows.Pairwise fun a b => numV a < numV b) {x y : List Int} {j : Nat} (hx : rows[j]? = some x) (hy : y ∈ rows.drop j) : numV x ≤ numV y := by
  have hj : j < rows.length := (List.getElem?_eq_some_iff.mp hx).1
  have e : rows.drop j = x :: rows.drop (j + 1) := by
    rw [List.drop_eq_getElem_cons hj]
    congr 1
    exact (List.getElem?_eq_some_iff.mp hx).2
  rw [e] at hy
  have pw2 : (rows.drop j).Pairwise fun a b => numV a < numV b := pw.sublist (List.drop_sublist _ _)
  rw [e] at pw2
  rcases List.mem_cons.mp hy with h | h
  · rw [h]
    exact Int.le_refl _
  · exact Int.le_of_lt (List.rel_of_pairwise_cons pw2 h)
theorem mem_drop {rows : List (List Int)} (pw : rows.Pairwise fun a b => numV a < numV b) {x y : List Int} {j : Nat} (hx : rows[j]? = some x) (hy : y ∈ rows) (h : numV x ≤ numV y) : y ∈ rows.drop j := by
  rw [← List.take_append_drop j rows] at hy
  rcases List.mem_append.mp hy with h1 | h1
  · exfalso
    have hj : j < rows.length := (List.getElem?_eq_some_iff.mp hx).1
    have hxd : x ∈ rows.drop j := by
      rw [List.drop_eq_getElem_cons hj, (List.getElem?_eq_some_iff.mp hx).2]
      exact List.mem_cons_self
    have pw' := pw
    rw [← List.take_append_drop j rows, List.pairwise_append] at pw'
    have := pw'.2.2 y h1 x hxd
    omega
  · exact h1
theorem find_at {rows : List (List Int)} {r : List Int} (h : r ∈ rows) : rows[rows.findIdx (fun x => decide (x = r))]? = some r := by
  have hlt : rows.findIdx (fun x => decide (x = r)) < rows.length := List.findIdx_lt_length_of_exists ⟨r, h, by simp⟩
  rw [List.getElem?_eq_getElem hlt]
  have := List.findIdx_getElem (w := hlt)
  rw [of_decide_eq_true this]
theorem mem_risV {rows : List (List Int)} (pw : rows.Pairwise fun a b => numV a < numV b) : ∀ (m : Nat) (rs : List (List Int)), rs ∈ risV rows m ↔ IsRis rows m rs
  | 0, rs => by
    unfold risV
    constructor
    · intro h
      have e : rs = [] := by simpa using h
      subst e
      exact ⟨rfl, fun r hr => by simp at hr, List.Pairwise.nil⟩
    · intro h
      rw [List.eq_nil_of_length_eq_zero h.len]
      simp
  | m + 1, rs => by
    unfold risV
    rw [List.mem_flatMap]
    constructor
    · rintro ⟨one, ho, hr⟩
      obtain ⟨row, hrow, rfl⟩ := List.mem_map.mp hr
      have H := (mem_risV pw m one).mp ho
      refine ⟨by rw [List.length_append, H.len]; rfl, fun r hr => ?_, ?_⟩
      · rcases List.mem_append.mp hr with h | h
        · exact H.mem r h
        · have e : r = row := by simpa using h
          rw [e]
          exact List.mem_of_mem_drop hrow
      · rw [List.pairwise_append]
        refine ⟨H.up, by simp, fun a ha b hb => ?_⟩
        have eb : b = row := by simpa using hb
        subst eb
        rcases List.eq_nil_or_concat one with e | ⟨s, d, e⟩
        · rw [e] at ha
          simp at ha
        · have e' : one = s ++ [d] := e.trans (List.concat_eq_append)
          have hf : firstV rows one = rows.findIdx (fun x => decide (x = d)) := by
            unfold firstV
            rw [e', getLast_snoc]
          have hd : d ∈ rows := H.mem d (by rw [e']; simp)
          have h1 : numV d ≤ numV b := drop_le pw (find_at hd) (by rw [← hf]; exact hrow)
          rw [e'] at ha
          rcases List.mem_append.mp ha with h | h
          · have up := H.up
            rw [e', List.pairwise_append] at up
            have := up.2.2 a h d List.mem_cons_self
            omega
          · have : a = d := by simpa using h
            rw [this]
            exact h1
    · rintro ⟨h1, h2, h3⟩
      obtain ⟨s, d, e, hs⟩ := snoc_of h1
      subst e
      rw [List.pairwise_append] at h3
      refine ⟨s, (mem_risV pw m s).mpr ⟨hs, fun r hr => h2 r (List.mem_append_left _ hr), h3.1⟩, List.mem_map.mpr ⟨d, ?_, rfl⟩⟩
      have hd : d ∈ rows := h2 d (by simp)
      rcases List.eq_nil_or_concat s with e | ⟨t, x, e⟩
      · unfold firstV
        rw [e]
        exact hd
      · have e' : s = t ++ [x] := e.trans (List.concat_eq_append)
        have hf : firstV rows s = rows.findIdx (fun y => decide (y = x)) := by
          unfold firstV
          rw [e', getLast_snoc]
        rw [hf]
        refine mem_drop pw (find_at (h2 x (by rw [e']; simp))) hd (h3.2.2 x (by rw [e']; simp) d List.mem_cons_self)
theorem risV_len (rows : List (List Int)) (R : Nat) (h : rows.length ≤ R) : ∀ m, (risV rows m).length ≤ R ^ m
  | 0 => by simp [risV]
  | m + 1 => by
    unfold risV
    rw [List.length_flatMap]
    have ih := risV_len rows R h m
    have key : ∀ l : List (List (List Int)), (l.map fun one => ((rows.drop (firstV rows one)).map fun row => one ++ [row]).length).sum ≤ l.length * R := by
      intro l
      induction l with
      | nil => simp
      | cons a r ih2 =>
        rw [List.map_cons, List.sum_cons, List.length_cons, Nat.succ_mul]
        have : ((rows.drop (firstV rows a)).map fun row => a ++ [row]).length ≤ R := by
          rw [List.length_map, List.length_drop]
          omega
        omega
    refine Nat.le_trans (key _) ?_
    rw [Nat.pow_succ]
    exact Nat.mul_le_mul_right _ ih
end Dg
namespace Dg
def rowV (rows : List (List Int)) (k : List Int) : List Int := (List.range k.length).map fun i => (rows.getD (k.getD i 0).toNat []).getD i 0
def digV (rows : List (List Int)) (i v : Nat) : Int := (rows.getD (min v (rows.length - 1)) []).getD i 0
def verV (k : List Int) (i : Nat) : Nat := (k.getD i 0).toNat
structure InV (k : List Int) (m : Nat) : Prop where
  lo : ∀ i, 0 ≤ k.getD i 0
  hi : ∀ i, k.getD i 0 ≤ (m : Int)
theorem num_row {rows : List (List Int)} {k : List Int} {m : Nat} (h : InV k m) (hr : rows.length = m + 1) : ∀ n, n ≤ k.length →
    numV ((List.range n).map fun i => (rows.getD (k.getD i 0).toNat []).getD i 0) = redP (digV rows) (verV k) n
  | 0, _ => rfl
  | n + 1, hn => by
    rw [List.range_succ, List.map_append, List.map_cons, List.map_nil, numV_snoc, num_row h hr n (by omega)]
    have h1 := h.lo n
    have h2 := h.hi n
    have e : min (verV k n) (rows.length - 1) = (k.getD n 0).toNat := by
      unfold verV
      omega
    show _ = 2 * redP (digV rows) (verV k) n + digV rows n (verV k n)
    unfold digV
    rw [e]
theorem num_row' {rows : List (List Int)} {k : List Int} {m : Nat} (h : InV k m) (hr : rows.length = m + 1) : numV (rowV rows k) = redP (digV rows) (verV k) k.length := num_row h hr _ (Nat.le_refl _)
theorem getD_bits {n : Nat} {r : List Int} (h : IsBits n r) (i : Nat) : 0 ≤ r.getD i 0 ∧ r.getD i 0 ≤ 1 := by
  rw [List.getD_eq_getElem?_getD]
  cases e : r[i]? with
  | none => simp
  | some d =>
    have := h.2 d (List.mem_of_getElem? e)
    simp only [Option.getD_some]
    omega
theorem dig_row {rows : List (List Int)} {m : Nat} (hr : rows.length = m + 1) (v : Nat) : ∃ r, r ∈ rows ∧ (∀ i, digV rows i v = r.getD i 0) ∧ rows[min v (rows.length - 1)]? = some r := by
  have hlt : min v (rows.length - 1) < rows.length := by omega
  refine ⟨rows[min v (rows.length - 1)], List.getElem_mem hlt, fun i => ?_, List.getElem?_eq_getElem hlt⟩
  unfold digV
  rw [List.getD_eq_getElem?_getD (l := rows), List.getElem?_eq_getElem hlt]
  rfl
theorem pre_num {g : Nat → Nat → Int} {r : List Int} {v : Nat} (h : ∀ i, g i v = r.getD i 0) : ∀ n, n ≤ r.length → preP g n v = numV (r.take n)
  | 0, _ => rfl
  | n + 1, hn => by
    have hlt : n < r.length := by omega
    have e : r.take (n + 1) = r.take n ++ [r.getD n 0] := by
      rw [List.take_add_one, List.getElem?_eq_getElem hlt, List.getD_eq_getElem?_getD, List.getElem?_eq_getElem hlt]
      rfl
    rw [e, numV_snoc, ← pre_num h n (by omega)]
    show 2 * preP g n v + g n v = _
    rw [h]
theorem ris_mono {n m : Nat} {rows : List (List Int)} (R : IsRis (rowsV n) (m + 1) rows) : ∀ i v w, i ≤ n → v ≤ w → preP (digV rows) i v ≤ preP (digV rows) i w := by
  have B : Bits (digV rows) := by
    constructor
    · intro i v
      obtain ⟨r, hr, hd, _⟩ := dig_row R.len v
      rw [hd]
      exact (getD_bits ((mem_rowsV n r).mp (R.mem r hr)) i).1
    · intro i v
      obtain ⟨r, hr, hd, _⟩ := dig_row R.len v
      rw [hd]
      exact (getD_bits ((mem_rowsV n r).mp (R.mem r hr)) i).2
  intro i v w hi hvw
  refine preP_mono B n i hi ?_
  obtain ⟨r, hr, hd, e1⟩ := dig_row R.len v
  obtain ⟨s, hs, hd2, e2⟩ := dig_row R.len w
  have lr := ((mem_rowsV n r).mp (R.mem r hr)).1
  have ls := ((mem_rowsV n s).mp (R.mem s hs)).1
  rw [pre_num hd n (by omega), pre_num hd2 n (by omega), List.take_of_length_le (by omega), List.take_of_length_le (by omega)]
  by_cases e : min v (rows.length - 1) = min w (rows.length - 1)
  · rw [e, e2] at e1
    have := Option.some.inj e1
    rw [this]
    exact Int.le_refl _
  · have up := List.pairwise_iff_getElem.mp R.up (min v (rows.length - 1)) (min w (rows.length - 1)) (List.getElem?_eq_some_iff.mp e1).1 (List.getElem?_eq_some_iff.mp e2).1 (by omega)
    rw [(List.getElem?_eq_some_iff.mp e1).2, (List.getElem?_eq_some_iff.mp e2).2] at up
    exact up
theorem ris_bits {n m : Nat} {rows : List (List Int)} (R : IsRis (rowsV n) (m + 1) rows) : Bits (digV rows) := by
  constructor
  · intro i v
    obtain ⟨r, hr, hd, _⟩ := dig_row R.len v
    rw [hd]
    exact (getD_bits ((mem_rowsV n r).mp (R.mem r hr)) i).1
  · intro i v
    obtain ⟨r, hr, hd, _⟩ := dig_row R.len v
    rw [hd]
    exact (getD_bits ((mem_rowsV n r).mp (R.mem r hr)) i).2
theorem some_none {α : Type} {f : Nat → Option α} {n : Nat} (h : (List.range n).findSome? f = none) : ∀ i, i < n → f i = none := by
  intro i hi
  rw [List.findSome?_eq_none_iff] at h
  exact h i (List.mem_range.mpr hi)
theorem some_some {α : Type} {f : Nat → Option α} {n : Nat} {x : α} (h : (List.range n).findSome? f = some x) : ∃ i, i < n ∧ f i = some x := by
  obtain ⟨i, hi, e⟩ := List.exists_of_findSome?_eq_some h
  exact ⟨i, List.mem_range.mp hi, e⟩
theorem fault_none {k l : List Int} (h : faultV k l = none) : (∀ i, i < k.length → k.getD i 0 ≤ l.getD i 0) ∧ ∀ d, d < k.length → ∀ c, c < d → carryV k l c d = none := by
  unfold faultV at h
  cases hs : stepV k l k.length with
  | some x =>
    rw [hs] at h
    cases h
  | none =>
    rw [hs] at h
    refine ⟨fun i hi => ?_, fun d hd c hc => ?_⟩
    · have := some_none hs i hi
      by_cases e : k.getD i 0 > l.getD i 0
      · rw [if_pos e] at this
        cases this
      · omega
    · have h1 : pairV k l d d = none := some_none h d hd
      have h2 := some_none h1 c hc
      cases e : carryV k l c d with
      | none => rfl
      | some p =>
        rw [e] at h2
        cases h2
theorem carry_none {k l : List Int} {c d : Nat} (h : carryV k l c d = none) : k.getD d 0 = l.getD d 0 ∨ (k.getD c 0 ≤ k.getD d 0 ∧ l.getD d 0 ≤ l.getD c 0) := by
  unfold carryV at h
  by_cases e : k.getD d 0 = l.getD d 0
  · exact .inl e
  · rw [if_neg e] at h
    by_cases e1 : k.getD c 0 > k.getD d 0
    · rw [if_pos e1] at h
      cases h
    · rw [if_neg e1] at h
      by_cases e2 : l.getD d 0 > l.getD c 0
      · rw [if_pos e2] at h
        cases h
      · exact .inr ⟨by omega, by omega⟩
theorem fault_none_le {n m : Nat} {k l : List Int} {rows : List (List Int)} (hk : InV k m) (hl : InV l m) (nk : k.length = n) (nl : l.length = n) (h : faultV k l = none) (R : IsRis (rowsV n) (m + 1) rows) : numV (rowV rows k) ≤ numV (rowV rows l) := by
  rw [num_row' hk R.len, num_row' hl R.len, nk, nl]
  obtain ⟨h1, h2⟩ := fault_none h
  have C : Crit (verV k) (verV l) n := by
    constructor
    · intro i hi
      have := h1 i (by omega)
      unfold verV
      omega
    · intro i hi
      unfold verV
      have a1 := hk.lo (i + 1)
      have a2 := hl.lo (i + 1)
      rcases carry_none (h2 (i + 1) (by omega) i (by omega)) with e | ⟨e1, e2⟩
      · left
        rw [e]
      · right
        omega
  rcases crit_le (ris_bits R) C (ris_mono R) n (Nat.le_refl _) with e | ⟨e, _⟩ <;> omega
theorem gt_up {g : Nat → Nat → Int} (B : Bits g) {k l : Nat → Nat} {i : Nat} (h : redP g l i < redP g k i) : ∀ n, i ≤ n → redP g l n < redP g k n
  | 0, hn => by
    have : i = 0 := by omega
    subst this
    exact h
  | n + 1, hn => by
    by_cases e : i = n + 1
    · subst e
      exact h
    · have ih := gt_up B h n (by omega)
      have b1 := B.hi n (l n)
      have b2 := B.lo n (k n)
      show 2 * redP g l n + g n (l n) < 2 * redP g k n + g n (k n)
      omega
theorem eq_up {g : Nat → Nat → Int} {k l : Nat → Nat} {i : Nat} (h : redP g k i = redP g l i) : ∀ n, i ≤ n → (∀ j, i ≤ j → j < n → g j (k j) = g j (l j)) → redP g k n = redP g l n
  | 0, hn, _ => by
    have : i = 0 := by omega
    subst this
    exact h
  | n + 1, hn, hd => by
    by_cases e : i = n + 1
    · subst e
      exact h
    · have ih := eq_up h n (by omega) fun j a b => hd j a (by omega)
      show 2 * redP g k n + g n (k n) = 2 * redP g l n + g n (l n)
      rw [ih, hd n (by omega) (by omega)]
def lowV (n : Nat) (cs : List Int) : List Int := if cs.length = 2 then (List.replicate n 0).set (cs.getD 1 0).toNat 1 else List.replicate n 0
def highV (n : Nat) (cs : List Int) : List Int := (List.replicate n 0).set (cs.getD 0 0).toNat 1
def turnV (n : Nat) (cs : List Int) (p last : Int) : List (List Int) := List.replicate p.toNat (lowV n cs) ++ List.replicate (last + 1 - p).toNat (highV n cs)
theorem set_bits (n j : Nat) : IsBits n ((List.replicate n (0 : Int)).set j 1) := by
  refine ⟨by simp, fun d hd => ?_⟩
  rcases List.mem_or_eq_of_mem_set hd with h | h
  · left
    exact (List.mem_replicate.mp h).2
  · right
    exact h
theorem zero_bits (n : Nat) : IsBits n (List.replicate n (0 : Int)) := ⟨by simp, fun d hd => .inl (List.mem_replicate.mp hd).2⟩
theorem low_bits (n : Nat) (cs : List Int) : IsBits n (lowV n cs) := by
  unfold lowV
  split
  · exact set_bits n _
  · exact zero_bits n
theorem getD_set0 (n j i : Nat) (hj : j < n) : ((List.replicate n (0 : Int)).set j 1).getD i 0 = if i = j then 1 else 0 := by
  rw [List.getD_eq_getElem?_getD]
  by_cases e : i = j
  · subst e
    rw [if_pos rfl, List.getElem?_set_self (by simpa using hj)]
    rfl
  · rw [if_neg e, List.getElem?_set_ne (fun z => e z.symm)]
    rw [List.getElem?_replicate]
    split <;> rfl
theorem getD_zero (n i : Nat) : (List.replicate n (0 : Int)).getD i 0 = 0 := by
  rw [List.getD_eq_getElem?_getD, List.getElem?_replicate]
  split <;> rfl
theorem turn_len {n : Nat} {cs : List Int} {p last : Int} (h0 : 0 ≤ p) (h1 : p ≤ last) : (turnV n cs p last).length = last.toNat + 1 := by
  unfold turnV
  rw [List.length_append, List.length_replicate, List.length_replicate]
  omega
theorem turn_at {n : Nat} {cs : List Int} {p last : Int} (h0 : 0 ≤ p) (h1 : p ≤ last) (v : Nat) (hv : v ≤ last.toNat) : (turnV n cs p last).getD v [] = if (v : Int) < p then lowV n cs else highV n cs := by
  unfold turnV
  rw [List.getD_eq_getElem?_getD, List.getElem?_append, List.length_replicate]
  by_cases e : v < p.toNat
  · rw [if_pos e, List.getElem?_replicate, if_pos e, if_pos (by omega)]
    rfl
  · rw [if_neg e, List.getElem?_replicate, if_pos (by omega), if_neg (by omega)]
    rfl
theorem turn_dig {n : Nat} {cs : List Int} {p last : Int} (h0 : 0 ≤ p) (h1 : p ≤ last) (i v : Nat) (hv : v ≤ last.toNat) : digV (turnV n cs p last) i v = if (v : Int) < p then (lowV n cs).getD i 0 else (highV n cs).getD i 0 := by
  unfold digV
  rw [turn_len h0 h1, show min v (last.toNat + 1 - 1) = v by omega, turn_at h0 h1 v hv]
  split <;> rfl
theorem fault_some {n m : Nat} {k l : List Int} {cs : List Int} {p : Int} (hk : InV k m) (hl : InV l m) (nk : k.length = n) (nl : l.length = n) (h : faultV k l = some (cs, p)) :
    (1 ≤ p ∧ p ≤ m) ∧ ((∃ c : Nat, c < n ∧ cs = [(c : Int)] ∧ p ≤ k.getD c 0 ∧ l.getD c 0 < p) ∨
      ∃ c d : Nat, c < d ∧ d < n ∧ cs = [(c : Int), (d : Int)] ∧ k.getD d 0 < p ∧ p ≤ l.getD d 0 ∧ k.getD c 0 ≤ l.getD c 0 ∧ (p ≤ k.getD c 0 ∨ l.getD c 0 < p)) := by
  unfold faultV at h
  cases hs : stepV k l k.length with
  | some x =>
    rw [hs] at h
    obtain ⟨i, hi, e⟩ := some_some hs
    have hx : x = (cs, p) := Option.some.inj h
    by_cases g : k.getD i 0 > l.getD i 0
    · rw [if_pos g] at e
      have e2 := (Option.some.inj e).trans hx
      have c1 : [(i : Int)] = cs := congrArg Prod.fst e2
      have c2 : k.getD i 0 = p := congrArg Prod.snd e2
      have a1 := hl.lo i
      have a2 := hk.hi i
      exact ⟨⟨by omega, by omega⟩, .inl ⟨i, by omega, c1.symm, by omega, by omega⟩⟩
    · rw [if_neg g] at e
      cases e
  | none =>
    rw [hs] at h
    have hle : ∀ i, i < k.length → k.getD i 0 ≤ l.getD i 0 := fun i hi => by
      have := some_none hs i hi
      by_cases e : k.getD i 0 > l.getD i 0
      · rw [if_pos e] at this
        cases this
      · omega
    obtain ⟨d, hd, h1⟩ := some_some (show (List.range k.length).findSome? (fun d => pairV k l d d) = some (cs, p) from h)
    obtain ⟨c, hc, h2⟩ := some_some (show (List.range d).findSome? (fun c => (carryV k l c d).map fun p => ([(c : Int), (d : Int)], p)) = some (cs, p) from h1)
    have q1 := hle d hd
    have q2 := hle c (by omega)
    have a1 := hk.lo d
    have a2 := hl.hi d
    have a3 := hk.lo c
    cases e : carryV k l c d with
    | none =>
      rw [e] at h2
      cases h2
    | some q =>
      rw [e] at h2
      have e2 : (([(c : Int), (d : Int)], q) : List Int × Int) = (cs, p) := Option.some.inj h2
      have c1 : [(c : Int), (d : Int)] = cs := congrArg Prod.fst e2
      have c2 : q = p := congrArg Prod.snd e2
      subst c2
      unfold carryV at e
      by_cases g0 : k.getD d 0 = l.getD d 0
      · rw [if_pos g0] at e
        cases e
      · rw [if_neg g0] at e
        by_cases g1 : k.getD c 0 > k.getD d 0
        · rw [if_pos g1] at e
          have := Option.some.inj e
          exact ⟨⟨by omega, by omega⟩, .inr ⟨c, d, hc, by omega, c1.symm, by omega, by omega, q2, .inl (by omega)⟩⟩
        · rw [if_neg g1] at e
          by_cases g2 : l.getD d 0 > l.getD c 0
          · rw [if_pos g2] at e
            have := Option.some.inj e
            exact ⟨⟨by omega, by omega⟩, .inr ⟨c, d, hc, by omega, c1.symm, by omega, by omega, q2, .inr (by omega)⟩⟩
          · rw [if_neg g2] at e
            cases e
theorem red_zero {g : Nat → Nat → Int} {k : Nat → Nat} : ∀ n, (∀ i, i < n → g i (k i) = 0) → redP g k n = 0
  | 0, _ => rfl
  | n + 1, h => by
    show 2 * redP g k n + g n (k n) = 0
    rw [red_zero n fun i hi => h i (by omega), h n (by omega)]
    rfl
theorem turn_bits {n : Nat} {cs : List Int} {p last : Int} : Bits (digV (turnV n cs p last)) := by
  have key : ∀ i v, 0 ≤ digV (turnV n cs p last) i v ∧ digV (turnV n cs p last) i v ≤ 1 := by
    intro i v
    unfold digV
    have : ∀ r, r ∈ turnV n cs p last → IsBits n r := by
      intro r hr
      unfold turnV at hr
      rcases List.mem_append.mp hr with h | h
      · rw [(List.mem_replicate.mp h).2]
        exact low_bits n cs
      · rw [(List.mem_replicate.mp h).2]
        exact set_bits n _
    rw [List.getD_eq_getElem?_getD (l := turnV n cs p last)]
    cases e : (turnV n cs p last)[min v ((turnV n cs p last).length - 1)]? with
    | none => simp
    | some r => exact getD_bits (this r (List.mem_of_getElem? e)) i
  exact ⟨fun i v => (key i v).1, fun i v => (key i v).2⟩
theorem fault_gt {n m : Nat} {k l : List Int} {cs : List Int} {p : Int} {last : Int} (hk : InV k m) (hl : InV l m) (nk : k.length = n) (nl : l.length = n) (h : faultV k l = some (cs, p))
    (hm : last = (m : Int)) : numV (rowV (turnV n cs p last) l) < numV (rowV (turnV n cs p last) k) := by
  subst hm
  obtain ⟨⟨p1, p2⟩, hc⟩ := fault_some hk hl nk nl h
  have tl : (turnV n cs p (m : Int)).length = m + 1 := by
    rw [turn_len (by omega) p2]
    rfl
  rw [num_row' hl tl, num_row' hk tl, nk, nl]
  have dk : ∀ i, digV (turnV n cs p (m : Int)) i (verV k i) = if k.getD i 0 < p then (lowV n cs).getD i 0 else (highV n cs).getD i 0 := fun i => by
    have a1 := hk.lo i
    have a2 := hk.hi i
    rw [turn_dig (by omega) p2 i _ (by unfold verV; omega)]
    have e : ((verV k i : Nat) : Int) = k.getD i 0 := by
      unfold verV
      omega
    rw [e]
  have dl : ∀ i, digV (turnV n cs p (m : Int)) i (verV l i) = if l.getD i 0 < p then (lowV n cs).getD i 0 else (highV n cs).getD i 0 := fun i => by
    have a1 := hl.lo i
    have a2 := hl.hi i
    rw [turn_dig (by omega) p2 i _ (by unfold verV; omega)]
    have e : ((verV l i : Nat) : Int) = l.getD i 0 := by
      unfold verV
      omega
    rw [e]
  rcases hc with ⟨c, hcn, ecs, h1, h2⟩ | ⟨c, d, hcd, hdn, ecs, h1, h2, h3, h4⟩
  · have lo0 : ∀ i, (lowV n cs).getD i 0 = 0 := fun i => by
      unfold lowV
      rw [ecs, if_neg (by simp)]
      exact getD_zero n i
    have hi0 : ∀ i, (highV n cs).getD i 0 = if i = c then 1 else 0 := fun i => by
      unfold highV
      rw [ecs]
      exact getD_set0 n c i hcn
    have z1 : redP (digV (turnV n cs p (m : Int))) (verV k) c = redP (digV (turnV n cs p (m : Int))) (verV l) c := by
      rw [red_zero c fun i hi => by
        rw [dk, lo0, hi0, if_neg (show ¬ i = c by omega)]
        split <;> rfl]
      rw [red_zero c fun i hi => by
        rw [dl, lo0, hi0, if_neg (show ¬ i = c by omega)]
        split <;> rfl]
    refine gt_up turn_bits (i := c + 1) ?_ n (by omega)
    show 2 * redP _ (verV l) c + digV _ c (verV l c) < 2 * redP _ (verV k) c + digV _ c (verV k c)
    rw [z1, dk, dl, lo0, hi0, if_pos rfl, if_pos h2, if_neg (by omega)]
    omega
  · have hi0 : ∀ i, (highV n cs).getD i 0 = if i = c then 1 else 0 := fun i => by
      unfold highV
      rw [ecs]
      exact getD_set0 n c i (by omega)
    have lo0 : ∀ i, (lowV n cs).getD i 0 = if i = d then 1 else 0 := fun i => by
      unfold lowV
      rw [ecs, if_pos (by simp)]
      exact getD_set0 n d i hdn
    have z1 : redP (digV (turnV n cs p (m : Int))) (verV k) c = redP (digV (turnV n cs p (m : Int))) (verV l) c := by
      rw [red_zero c fun i hi => by
        rw [dk, lo0, hi0, if_neg (show ¬ i = c by omega), if_neg (show ¬ i = d by omega)]
        split <;> rfl]
      rw [red_zero c fun i hi => by
        rw [dl, lo0, hi0, if_neg (show ¬ i = c by omega), if_neg (show ¬ i = d by omega)]
        split <;> rfl]
    have ck : digV (turnV n cs p (m : Int)) c (verV k c) = if k.getD c 0 < p then 0 else 1 := by
      rw [dk, lo0, hi0, if_pos rfl, if_neg (show ¬ c = d by omega)]
    have cl : digV (turnV n cs p (m : Int)) c (verV l c) = if l.getD c 0 < p then 0 else 1 := by
      rw [dl, lo0, hi0, if_pos rfl, if_neg (show ¬ c = d by omega)]
    by_cases e : (l.getD c 0 < p ∧ p ≤ k.getD c 0)
    · omega
    · by_cases e2 : digV (turnV n cs p (m : Int)) c (verV k c) = digV (turnV n cs p (m : Int)) c (verV l c)
      · have z2 : redP (digV (turnV n cs p (m : Int))) (verV k) d = redP (digV (turnV n cs p (m : Int))) (verV l) d := by
          refine eq_up z1 d (by omega) fun j hj hj2 => ?_
          by_cases ej : j = c
          · rw [ej]
            exact e2
          · rw [dk, dl, lo0, hi0, if_neg ej, if_neg (show ¬ j = d by omega)]
            split <;> split <;> rfl
        refine gt_up turn_bits (i := d + 1) ?_ n (by omega)
        show 2 * redP _ (verV l) d + digV _ d (verV l d) < 2 * redP _ (verV k) d + digV _ d (verV k d)
        rw [z2, dk, dl, lo0, hi0, if_pos rfl, if_neg (show ¬ d = c by omega), if_pos h1, if_neg (show ¬ l.getD d 0 < p by omega)]
        omega
      · exfalso
        rw [ck, cl] at e2
        rcases h4 with h | h
        · rw [if_neg (by omega), if_neg (by omega)] at e2
          exact e2 rfl
        · rw [if_pos (show k.getD c 0 < p by omega), if_pos h] at e2
          exact e2 rfl
theorem numV_le_of {n : Nat} {cs : List Int} (h : numV (lowV n cs) ≤ numV (highV n cs)) {p last : Int} : (turnV n cs p last).Pairwise fun a b => numV a ≤ numV b := by
  unfold turnV
  rw [List.pairwise_append]
  refine ⟨?_, ?_, fun a ha b hb => ?_⟩
  · rw [List.pairwise_replicate]
    exact .inr (Int.le_refl _)
  · rw [List.pairwise_replicate]
    exact .inr (Int.le_refl _)
  · rw [(List.mem_replicate.mp ha).2, (List.mem_replicate.mp hb).2]
    exact h
end Dg
namespace Dg
theorem red_const (g : Nat → Nat → Int) (v : Nat) : ∀ n, redP g (fun _ => v) n = preP g n v
  | 0 => rfl
  | n + 1 => by
    show 2 * redP g (fun _ => v) n + g n v = 2 * preP g n v + g n v
    rw [red_const g v n]
theorem num_two {n : Nat} {r s : List Int} (hr : IsBits n r) (hs : IsBits n s) {c : Nat} (hc : c < n) (heq : ∀ i, i < c → r.getD i 0 = s.getD i 0) (hlt : r.getD c 0 < s.getD c 0) : numV r ≤ numV s := by
  have B : Bits (fun i v => if v = 0 then r.getD i 0 else s.getD i 0) := by
    constructor
    · intro i v
      show (0 : Int) ≤ if v = 0 then _ else _
      split
      · exact (getD_bits hr i).1
      · exact (getD_bits hs i).1
    · intro i v
      show (if v = 0 then _ else _) ≤ (1 : Int)
      split
      · exact (getD_bits hr i).2
      · exact (getD_bits hs i).2
  have e1 : preP (fun i v => if v = 0 then r.getD i 0 else s.getD i 0) n 0 = numV r := by
    rw [pre_num (r := r) (fun i => if_pos rfl) n (by rw [hr.1]; exact Nat.le_refl _), List.take_of_length_le (by rw [hr.1]; exact Nat.le_refl _)]
  have e2 : preP (fun i v => if v = 0 then r.getD i 0 else s.getD i 0) n 1 = numV s := by
    rw [pre_num (r := s) (fun i => if_neg (by decide)) n (by rw [hs.1]; exact Nat.le_refl _), List.take_of_length_le (by rw [hs.1]; exact Nat.le_refl _)]
  have z : redP (fun i v => if v = 0 then r.getD i 0 else s.getD i 0) (fun _ => 1) c = redP (fun i v => if v = 0 then r.getD i 0 else s.getD i 0) (fun _ => 0) c :=
    eq_up (i := 0) (k := fun _ => 1) (l := fun _ => 0) rfl c (Nat.zero_le _) fun j _ hj => (heq j hj).symm
  have h := gt_up B (k := fun _ => 1) (l := fun _ => 0) (i := c + 1) (by
    show 2 * redP _ (fun _ => 0) c + r.getD c 0 < 2 * redP _ (fun _ => 1) c + s.getD c 0
    rw [z]
    omega) n (by omega)
  rw [red_const, red_const, e1, e2] at h
  omega
theorem turn_ris {n m : Nat} {k l : List Int} {cs : List Int} {p : Int} (hk : InV k m) (hl : InV l m) (nk : k.length = n) (nl : l.length = n) (h : faultV k l = some (cs, p)) : IsRis (rowsV n) (m + 1) (turnV n cs p (m : Int)) := by
  obtain ⟨⟨p1, p2⟩, hc⟩ := fault_some hk hl nk nl h
  refine ⟨?_, fun r hr => ?_, numV_le_of ?_⟩
  · rw [turn_len (by omega) p2]
    rfl
  · rw [mem_rowsV]
    unfold turnV at hr
    rcases List.mem_append.mp hr with h | h
    · rw [(List.mem_replicate.mp h).2]
      exact low_bits n cs
    · rw [(List.mem_replicate.mp h).2]
      exact set_bits n _
  · rcases hc with ⟨c, hcn, ecs, _⟩ | ⟨c, d, hcd, hdn, ecs, _⟩
    · refine num_two (low_bits n cs) (set_bits n _) hcn (fun i hi => ?_) ?_
      · unfold lowV
        rw [ecs, if_neg (by simp), getD_zero]
        show 0 = ((List.replicate n (0 : Int)).set c 1).getD i 0
        rw [getD_set0 n c i hcn, if_neg (by omega)]
      · unfold lowV
        rw [ecs, if_neg (by simp), getD_zero]
        show 0 < ((List.replicate n (0 : Int)).set c 1).getD c 0
        rw [getD_set0 n c c hcn, if_pos rfl]
        decide
    · refine num_two (low_bits n cs) (set_bits n _) (c := c) (by omega) (fun i hi => ?_) ?_
      · unfold lowV
        rw [ecs, if_pos (by simp)]
        show ((List.replicate n (0 : Int)).set d 1).getD i 0 = ((List.replicate n (0 : Int)).set c 1).getD i 0
        rw [getD_set0 n d i hdn, getD_set0 n c i (by omega), if_neg (by omega), if_neg (by omega)]
      · unfold lowV
        rw [ecs, if_pos (by simp)]
        show ((List.replicate n (0 : Int)).set d 1).getD c 0 < ((List.replicate n (0 : Int)).set c 1).getD c 0
        rw [getD_set0 n d c hdn, getD_set0 n c c (by omega), if_neg (by omega), if_pos rfl]
        decide
theorem fault_iff {n m : Nat} {k l : List Int} (hk : InV k m) (hl : InV l m) (nk : k.length = n) (nl : l.length = n) :
    faultV k l = none ↔ ((risV (rowsV n) (m + 1)).filter fun rows => !decide (numV (rowV rows k) ≤ numV (rowV rows l))) = [] := by
  constructor
  · intro h
    rw [List.filter_eq_nil_iff]
    intro rows hr
    have R := (mem_risV (rowsV_pw n) (m + 1) rows).mp hr
    have := fault_none_le hk hl nk nl h R
    simp [this]
  · intro h
    cases e : faultV k l with
    | none => rfl
    | some x =>
      obtain ⟨cs, p⟩ := x
      exfalso
      have R := turn_ris hk hl nk nl e
      have hm := (mem_risV (rowsV_pw n) (m + 1) _).mpr R
      have := fault_gt hk hl nk nl e (last := (m : Int)) rfl
      rw [List.filter_eq_nil_iff] at h
      have h2 := h _ hm
      simp at h2
      omega
def codeV (v : List Int) (c d : Nat) (p : Int) : Int := 2 * (if p ≤ v.getD c 0 then 1 else 0) + (if v.getD d 0 < p then 1 else 0)
def putPair (k l : List Int) (d c : Nat) : Bool := decide (codeV k c d (k.getD d 0 + 1) > codeV l c d (k.getD d 0 + 1)) || decide (codeV k c d (l.getD d 0) > codeV l c d (l.getD d 0))
def putCell (k l : List Int) (d : Nat) : Bool := decide (k.getD d 0 > l.getD d 0) || (List.range d).any (putPair k l d)
def putV (k l : List Int) : Bool := (List.range k.length).any (putCell k l)
theorem put_pair {k l : List Int} {c d : Nat} (hc : k.getD c 0 ≤ l.getD c 0) (hd : k.getD d 0 ≤ l.getD d 0) : putPair k l d c = (carryV k l c d).isSome := by
  unfold putPair codeV carryV
  by_cases e : k.getD d 0 = l.getD d 0
  · rw [if_pos e, e]
    rw [Bool.or_eq_false_iff.mpr ⟨decide_eq_false ?_, decide_eq_false ?_⟩]
    · rfl
    · rw [if_pos (show l.getD d 0 < l.getD d 0 + 1 by omega)]
      split <;> split <;> omega
    · rw [if_neg (show ¬ l.getD d 0 < l.getD d 0 by omega)]
      split <;> split <;> omega
  · rw [if_neg e]
    have h1 : k.getD d 0 < l.getD d 0 := by omega
    rw [if_pos (show k.getD d 0 < k.getD d 0 + 1 by omega), if_neg (show ¬ l.getD d 0 < k.getD d 0 + 1 by omega), if_pos h1, if_neg (show ¬ l.getD d 0 < l.getD d 0 by omega)]
    by_cases e1 : k.getD c 0 > k.getD d 0
    · rw [if_pos e1, Bool.or_eq_true_iff.mpr (.inl (decide_eq_true ?_))]
      · rfl
      · rw [if_pos (show k.getD d 0 + 1 ≤ k.getD c 0 by omega)]
        split <;> omega
    · rw [if_neg e1]
      by_cases e2 : l.getD d 0 > l.getD c 0
      · rw [if_pos e2, Bool.or_eq_true_iff.mpr (.inr (decide_eq_true ?_))]
        · rfl
        · rw [if_neg (show ¬ l.getD d 0 ≤ l.getD c 0 by omega)]
          split <;> omega
      · rw [if_neg e2, Bool.or_eq_false_iff.mpr ⟨decide_eq_false ?_, decide_eq_false ?_⟩]
        · rfl
        · rw [if_neg (show ¬ k.getD d 0 + 1 ≤ k.getD c 0 by omega), if_pos (show k.getD d 0 + 1 ≤ l.getD c 0 by omega)]
          omega
        · rw [if_neg (show ¬ l.getD d 0 ≤ k.getD c 0 by omega), if_pos (show l.getD d 0 ≤ l.getD c 0 by omega)]
          omega
theorem put_is (k l : List Int) : putV k l = (faultV k l).isSome := by
  unfold putV faultV
  cases hs : stepV k l k.length with
  | some x =>
    obtain ⟨i, hi, e⟩ := some_some hs
    have g : k.getD i 0 > l.getD i 0 := by
      by_cases g : k.getD i 0 > l.getD i 0
      · exact g
      · rw [if_neg g] at e
        cases e
    show _ = true
    rw [List.any_eq_true]
    refine ⟨i, List.mem_range.mpr hi, ?_⟩
    unfold putCell
    rw [decide_eq_true g]
    rfl
  | none =>
    have hle : ∀ i, i < k.length → k.getD i 0 ≤ l.getD i 0 := fun i hi => by
      have := some_none hs i hi
      by_cases e : k.getD i 0 > l.getD i 0
      · rw [if_pos e] at this
        cases this
      · omega
    have key : ∀ d, d < k.length → putCell k l d = (pairV k l d d).isSome := fun d hd => by
      unfold putCell
      rw [decide_eq_false (by have := hle d hd; omega), Bool.false_or]
      have gen : ∀ n, n ≤ d → (List.range n).any (putPair k l d) = (pairV k l d n).isSome := by
        intro n
        induction n with
        | zero => intro _; rfl
        | succ n ih =>
          intro hn
          rw [List.range_succ, List.any_append, ih (by omega)]
          unfold pairV
          rw [range_some]
          rw [List.any_cons, List.any_nil, Bool.or_false, put_pair (hle n (by omega)) (hle d hd), Option.isSome_or, Option.isSome_map]
      exact gen d (Nat.le_refl _)
    have gen : ∀ n, n ≤ k.length → (List.range n).any (putCell k l) = (carriesV k l n).isSome := by
      intro n
      induction n with
      | zero => intro _; rfl
      | succ n ih =>
        intro hn
        rw [List.range_succ, List.any_append, ih (by omega)]
        unfold carriesV
        rw [range_some, List.any_cons, List.any_nil, Bool.or_false, key n (by omega), Option.isSome_or]
    exact gen _ (Nat.le_refl _)
theorem fault_self {k : List Int} : faultV k k = none := by
  have h : putV k k = false := by
    unfold putV
    rw [List.any_eq_false]
    intro d hd
    unfold putCell
    rw [decide_eq_false (Int.lt_irrefl _), Bool.false_or, Bool.not_eq_true, List.any_eq_false]
    intro c hc
    unfold putPair
    simp
  rw [put_is] at h
  cases e : faultV k k with
  | none => rfl
  | some x =>
    rw [e] at h
    cases h
end Dg
namespace Dg
theorem num_bound {n : Nat} {r : List Int} (h : IsBits n r) : ∀ i, i ≤ n → 0 ≤ numV (r.take i) ∧ numV (r.take i) < 2 ^ i
  | 0, _ => by
    simp [numV]
  | i + 1, hi => by
    have hlt : i < r.length := by rw [h.1]; omega
    have e : r.take (i + 1) = r.take i ++ [r.getD i 0] := by
      rw [List.take_add_one, List.getElem?_eq_getElem hlt, List.getD_eq_getElem?_getD, List.getElem?_eq_getElem hlt]
      rfl
    obtain ⟨h1, h2⟩ := num_bound h i (by omega)
    obtain ⟨b1, b2⟩ := getD_bits h i
    rw [e, numV_snoc, Int.pow_succ]
    omega
theorem take_snoc (r : List Int) (i : Nat) (h : i < r.length) : r.take (i + 1) = r.take i ++ [r.getD i 0] := by
  rw [List.take_add_one, List.getElem?_eq_getElem h, List.getD_eq_getElem?_getD, List.getElem?_eq_getElem h]
  rfl
theorem pow60 {i : Nat} {x : Int} (hi : i ≤ 60) (h0 : 0 ≤ x) (h : x < 2 ^ i) : x.natAbs < 2 ^ 60 := by
  have h1 : x.natAbs < 2 ^ i := by
    have : (x.natAbs : Int) = x := Int.natAbs_of_nonneg h0
    have h2 : ((x.natAbs : Nat) : Int) < ((2 ^ i : Nat) : Int) := by
      rw [this]
      simpa using h
    exact Int.ofNat_lt.mp h2
  exact Nat.lt_of_lt_of_le h1 (Nat.pow_le_pow_right (by decide) hi)
theorem row_bits {n m : Nat} {rows : List (List Int)} {k : List Int} (h : InV k m) (R : IsRis (rowsV n) (m + 1) rows) (nk : k.length = n) : IsBits n (rowV rows k) := by
  refine ⟨by unfold rowV; rw [List.length_map, List.length_range, nk], fun d hd => ?_⟩
  unfold rowV at hd
  obtain ⟨i, hi, rfl⟩ := List.mem_map.mp hd
  have h1 := h.lo i
  have h2 := h.hi i
  have hlt : (k.getD i 0).toNat < rows.length := by rw [R.len]; omega
  have hr : rows.getD (k.getD i 0).toNat [] ∈ rows := by
    rw [List.getD_eq_getElem?_getD, List.getElem?_eq_getElem hlt]
    exact List.getElem_mem hlt
  have b := (mem_rowsV n _).mp (R.mem _ hr)
  have := getD_bits b i
  omega
theorem flat_take {α β : Type} (f : α → List β) (l : List α) (i : Nat) (x : α) (h : l[i]? = some x) : (l.take (i + 1)).flatMap f = (l.take i).flatMap f ++ f x := by
  rw [List.take_add_one, h, List.flatMap_append]
  simp
end Dg
namespace Dg
theorem any_at {f : Nat → Bool} {n i : Nat} (h : i < n) (e : f i = true) : (List.range n).any f = true := List.any_eq_true.mpr ⟨i, List.mem_range.mpr h, e⟩
theorem any_next {f : Nat → Bool} {n : Nat} (h : (List.range n).any f = false) (e : f n = false) : (List.range (n + 1)).any f = false := by
  rw [List.range_succ, List.any_append, h, List.any_cons, e]
  rfl
theorem ite_dec {q : Prop} [Decidable q] : (if decide q = true then (1 : Int) else 0) = if q then 1 else 0 := by
  by_cases h : q <;> simp [h]
theorem put_first {k l : List Int} {c d : Nat} (h : codeV k c d (k.getD d 0 + 1) > codeV l c d (k.getD d 0 + 1)) : putPair k l d c = true := by
  unfold putPair
  rw [decide_eq_true h]
  rfl
theorem put_second {k l : List Int} {c d : Nat} (h : codeV k c d (l.getD d 0) > codeV l c d (l.getD d 0)) : putPair k l d c = true := by
  unfold putPair
  rw [decide_eq_true h, Bool.or_true]
theorem put_not {k l : List Int} {c d : Nat} (h1 : ¬ codeV k c d (k.getD d 0 + 1) > codeV l c d (k.getD d 0 + 1)) (h2 : ¬ codeV k c d (l.getD d 0) > codeV l c d (l.getD d 0)) : putPair k l d c = false := by
  unfold putPair
  rw [decide_eq_false h1, decide_eq_false h2]
  rfl
theorem put_cell_gt {k l : List Int} {d : Nat} (h : k.getD d 0 > l.getD d 0) : putCell k l d = true := by
  unfold putCell
  rw [decide_eq_true h]
  rfl
theorem put_cell_pair {k l : List Int} {c d : Nat} (hc : c < d) (h : putPair k l d c = true) : putCell k l d = true := by
  unfold putCell
  rw [any_at hc h, Bool.or_true]
theorem put_cell_not {k l : List Int} {d : Nat} (h1 : ¬ k.getD d 0 > l.getD d 0) (h2 : (List.range d).any (putPair k l d) = false) : putCell k l d = false := by
  unfold putCell
  rw [decide_eq_false h1, h2]
  rfl
theorem first_nil (rows : List (List Int)) : firstV rows [] = 0 := rfl
theorem first_last {rows one : List (List Int)} {r : List Int} (h : one.getLast? = some r) : firstV rows one = rows.findIdx (fun x => decide (x = r)) := by
  unfold firstV
  rw [h]
theorem ris_step {rows : List (List Int)} {R m : Nat} (h : rows.length ≤ R) (j : Nat) (hR : 0 < R) : (((risV rows m).take j).flatMap fun one => (rows.drop (firstV rows one)).map fun row => one ++ [row]).length ≤ R ^ (m + 1) := by
  have e : risV rows m = (risV rows m).take j ++ (risV rows m).drop j := (List.take_append_drop j _).symm
  have h2 := risV_len rows R h (m + 1)
  unfold risV at h2
  rw [e, List.flatMap_append, List.length_append] at h2
  omega
end Dg
namespace Dg
def AllIn (k : List Int) (m : Int) : Prop := ∀ x ∈ k, 0 ≤ x ∧ x ≤ m
theorem AllIn.inV {k : List Int} {m : Nat} (h : AllIn k m) : InV k m := by
  have key : ∀ i, 0 ≤ k.getD i 0 ∧ k.getD i 0 ≤ (m : Int) := by
    intro i
    rw [List.getD_eq_getElem?_getD]
    cases e : k[i]? with
    | none => simp
    | some d => exact h d (List.mem_of_getElem? e)
  exact ⟨fun i => (key i).1, fun i => (key i).2⟩
theorem AllIn.snoc {k : List Int} {m x : Int} (h : AllIn k m) (h0 : 0 ≤ x) (h1 : x ≤ m) : AllIn (k ++ [x]) m := fun y hy => by
  rcases List.mem_append.mp hy with z | z
  · exact h y z
  · have : y = x := by simpa using z
    rw [this]
    exact ⟨h0, h1⟩
theorem AllIn.set {k : List Int} {m x : Int} (h : AllIn k m) (j : Nat) (h0 : 0 ≤ x) (h1 : x ≤ m) : AllIn (k.set j x) m := fun y hy => by
  rcases List.mem_or_eq_of_mem_set hy with z | z
  · exact h y z
  · rw [z]
    exact ⟨h0, h1⟩
theorem AllIn.get {k : List Int} {m : Int} (h : AllIn k m) {j : Nat} (hj : j < k.length) : 0 ≤ k.getD j 0 ∧ k.getD j 0 ≤ m := by
  rw [List.getD_eq_getElem?_getD, List.getElem?_eq_getElem hj]
  exact h _ (List.getElem_mem hj)
end Dg
namespace Dg
def lexL : List Int → List Int → Bool
  | [], [] => false
  | [], _ :: _ => true
  | _ :: _, [] => false
  | x :: xs, y :: ys => if x = y then lexL xs ys else decide (x < y)
def badNext (a b : List Int) : Bool := decide (b.length ≠ a.length) || lexL b a
def badFrom (rows : List (List Int)) (n : Nat) : Option Nat := (List.range n).findSome? fun j => if badNext (rows.getD j []) (rows.getD (j + 1) []) = true then some (j + 1) else none
def badAt (rows : List (List Int)) : Option Nat := if rows = [] ∨ rows.getD 0 [] = [] then some 0 else badFrom rows (rows.length - 1)
end Dg
namespace Dg
theorem bad_none {rows : List (List Int)} (h : badAt rows = none) : rows ≠ [] ∧ rows.getD 0 [] ≠ [] ∧ badFrom rows (rows.length - 1) = none := by
  unfold badAt at h
  by_cases e : rows = [] ∨ rows.getD 0 [] = []
  · rw [if_pos e] at h
    cases h
  · rw [if_neg e] at h
    exact ⟨fun z => e (.inl z), fun z => e (.inr z), h⟩
theorem bad_step {rows : List (List Int)} (h : badAt rows = none) (j : Nat) (hj : j + 1 < rows.length) : (rows.getD (j + 1) []).length = (rows.getD j []).length ∧ lexL (rows.getD (j + 1) []) (rows.getD j []) = false := by
  have h1 := (bad_none h).2.2
  unfold badFrom at h1
  have h2 := some_none h1 j (by omega)
  cases e : badNext (rows.getD j []) (rows.getD (j + 1) []) with
  | true =>
    rw [if_pos e] at h2
    cases h2
  | false =>
    unfold badNext at e
    rw [Bool.or_eq_false_iff] at e
    refine ⟨?_, e.2⟩
    have := of_decide_eq_false e.1
    omega
theorem bad_len {rows : List (List Int)} (h : badAt rows = none) : ∀ j, j < rows.length → (rows.getD j []).length = (rows.getD 0 []).length
  | 0, _ => rfl
  | j + 1, hj => (bad_step h j hj).1.trans (bad_len h j (by omega))
theorem bad_len' {rows : List (List Int)} (h : badAt rows = none) {r : List Int} (hr : r ∈ rows) : r.length = (rows.getD 0 []).length := by
  obtain ⟨j, hj, e⟩ := List.getElem_of_mem hr
  have := bad_len h j hj
  rw [List.getD_eq_getElem?_getD, List.getElem?_eq_getElem hj] at this
  rw [← e]
  exact this
def versOk (rows : List (List Int)) (k : List Int) : Prop := k.length = (rows.getD 0 []).length ∧ ∀ x ∈ k, 0 ≤ x ∧ x < (rows.length : Int)
theorem versOk_in {rows : List (List Int)} {k : List Int} (h : versOk rows k) (hr : rows ≠ []) : AllIn k ((rows.length - 1 : Nat) : Int) := fun x hx => by
  have h1 := h.2 x hx
  have h2 : 0 < rows.length := List.length_pos_iff.mpr hr
  omega
end Dg
namespace Dg
open PySem PySem.Spec PyProof.Rows L2
theorem lex_is : ∀ a b : List Int, lexL a b = HT.lexLt a b
  | [], [] => rfl
  | [], _ :: _ => rfl
  | _ :: _, [] => rfl
  | x :: xs, y :: ys => by
    unfold lexL
    rw [HT.lexLt_cons, lex_is xs ys]
end Dg
namespace Dg
open PySem PySem.Spec PyProof.Rows L2
theorem int_at {k : List Int} {i : Nat} {x : V} (h : (k.map V.int)[i]? = some x) : i < k.length ∧ x = .int (k.getD i 0) := by
  have hi : i < k.length := by
    have := (List.getElem?_eq_some_iff.mp h).1
    rwa [List.length_map] at this
  refine ⟨hi, ?_⟩
  rw [List.getElem?_map, List.getElem?_eq_getElem hi] at h
  rw [List.getD_eq_getElem?_getD, List.getElem?_eq_getElem hi]
  exact (Option.some.inj h).symm
end Dg
namespace Dg
open PySem PySem.Spec PyProof.Rows L2
section
variable {prog : Program} {w : World} {A : Around} {E : Value → Shared → Prop} {s : Shared} {l : Addr}
theorem max_tup {its : List Value} {ns : List Int} {Q : Value → Shared → Prop} (hd : A.handled = none) (is : s.heap.IsTuple l its.toArray) (num : IntsAre its ns) (any1 : 0 < ns.length)
    (q : ∀ h' tk m t, (∀ b o, s.heap.get? b = some o → h'.get? b = some o) → m ∈ ns → (∀ y ∈ ns, y ≤ m) → Q (.int m t) { s with heap := h', toks := tk }) : wpAny (model prog w) A (call (.builtin "max") [.ref l]) Q E s := by
  obtain ⟨xs, same⟩ := num.allInts.items
  have told : (xs.toList.map (·.1)) = ns := by rw [← nums_intItems, ← same]; exact num.numsOf
  have many : ns.length = xs.size := by rw [← told, List.length_map, Array.length_toList]
  have all : ∀ i, i < xs.size → numAt xs i ∈ ns := fun i hi => by
    rw [numAt_eq, ← told]
    exact PySem.getD_mem (by rw [told, many]; exact hi)
  rw [same] at is
  let n := s.heap.objs.size
  have young : l < n := let ⟨_, e, _⟩ := id is; Heap.lt_size e
  obtain ⟨w1, w2⟩ := argBest_gt (numAt xs) (xs.size - 1)
  have low : ∀ b ∈ [n, l], b < (s.heap.push { cls := .type "tuple_iterator", data := .fields #[.ref l, .int 0 0] }).objs.size := fun b hb => by
    rw [Heap.size_push]
    show b < n + 1
    rcases List.mem_cons.mp hb with z | z
    · exact z ▸ Nat.lt_succ_self n
    · exact List.mem_singleton.mp z ▸ Nat.lt_succ_of_lt young
  apply call_max_walk
  apply wpAny_pyIter_tuple is
  refine ⟨_, [n, l], [n], _, _, _, _, rfl, Walks.tuple (A := A.in1) hd n l (Nat.ne_of_lt young) (intItems xs), ⟨⟨_, Heap.get?_push_size _ rfl, rfl, rfl⟩, is.push _⟩, low, ?_, CmpOf.ints_gt (numAt xs) (fun _ _ => intItems_at), fun v h' tk got kept => ?_⟩
  · simpa [intItems, ← many] using any1
  · have got : (intItems xs)[argBest (fun i j => decide (numAt xs i > numAt xs j)) (xs.size - 1)]? = some v := by simpa [intItems] using got
    obtain ⟨t, rfl⟩ := intItems_at got
    refine q h' tk _ t (fun b o e => kept b o (fun z => ?_) (Heap.get?_push_of_some _ e)) (all _ (by omega)) fun y hy => ?_
    · have := Heap.lt_size e
      rw [List.mem_singleton.mp z] at this
      exact Nat.lt_irrefl n this
    · rw [← told] at hy
      obtain ⟨i, hi, rfl⟩ := mem_getD hy
      rw [told, many] at hi
      exact numAt_eq xs i ▸ w2 i (by omega)
end
section
variable {X : Cx}
def rMaxA (K : PySem.W.Frag) : List V → Hp → VK → Prop := fun vs H Q => ∃ (a : Addr) (ns : List Int), vs = [V.ref a] ∧ Sq K H a (ns.map V.int) ∧ 0 < ns.length ∧ ∀ m, m ∈ ns → (∀ y, y ∈ ns → y ≤ m) → Q (.int m) H
theorem cr_maxA (hc : X.calm = true) : CallR X (.builtin "max") (rMaxA X.K) := by
  rintro pins s σ H vs us Q I r ⟨a, ns, rfl, hs, hne, q⟩
  rw [Vals.ref1 r]
  rcases hs with hs | hs
  · obtain ⟨its, rv, hl, _⟩ := I.list hs
    exact max_raw (I.ok.hd hc) hl.isList rv.ints hne fun h' tk m t' hk h1 h2 => ⟨.int _, H, I.kept hk, ⟨_, rfl⟩, q m h1 h2⟩
  · obtain ⟨its, rv, hl, _⟩ := I.tuple hs
    exact max_tup (I.ok.hd hc) hl rv.ints hne fun h' tk m t' hk h1 h2 => ⟨.int _, H, I.kept hk, ⟨_, rfl⟩, q m h1 h2⟩
end
theorem rep_one {α : Type} (n : Nat) (x : α) : (List.replicate n [x]).flatten = List.replicate n x := List.flatten_replicate_singleton
theorem getD_in {k : List Int} {i : Nat} (h : i < k.length) : k.getD i 0 ∈ k := by
  rw [List.getD_eq_getElem?_getD, List.getElem?_eq_getElem h]
  exact List.getElem_mem h
theorem ix_of {n : Nat} {x : Int} (h0 : 0 ≤ x) (h : x < (n : Int)) : ixN n x = some x.toNat := by
  obtain ⟨j, rfl⟩ := Int.eq_ofNat_of_zero_le h0
  rw [Int.toNat_natCast]
  unfold ixN
  rw [if_pos (by omega), if_pos (by omega), Int.toNat_natCast]
theorem same_updF {H H1 : Hp} {p : Addr} {o : HO} (s : Same H H1) (hp : H p = none) : Same H (upd H1 p o) := fun c o' e => by
  rw [upd_ne (ne_of_none e hp)]
  exact s c o' e
theorem set_ints (n j : Nat) : (List.replicate n (V.int 0)).set j (V.int 1) = (((List.replicate n (0 : Int)).set j 1)).map V.int := by
  rw [List.map_set, List.map_replicate]
theorem pd_rep {K : PySem.W.Frag} {H : Hp} {p : Addr} {r : List Int} (h : SqT K H p (r.map V.int)) (n : Nat) : Paired (RowAt K H) (List.replicate n (V.ref p)) (List.replicate n r) := by
  induction n with
  | zero => exact .nil
  | succ n ih => exact .cons ⟨p, rfl, h⟩ ih
theorem k_call_isi {X : Cx} {K : PySem.W.Frag} (h : X.K = K) : CallR X (.builtin "isinstance") (rIsi K) := h ▸ call_isi
theorem boot_list : bootBuiltins "list" = some (.type "list") := by decide +kernel
theorem boot_tuple : bootBuiltins "tuple" = some (.type "tuple") := by decide +kernel
theorem boot_int : bootBuiltins "int" = some (.type "int") := by decide +kernel
theorem boot_str : bootBuiltins "str" = some (.type "str") := by decide +kernel
theorem boot_dict : bootBuiltins "dict" = some (.type "dict") := by decide +kernel
theorem boot_bool : bootBuiltins "bool" = some (.type "bool") := by decide +kernel
theorem tyx_T {K : PySem.W.Frag} {H : Hp} {a : Addr} {xs : List V} (h : SqT K H a xs) : TyX K H (.ref a) (.type "tuple") := by
  rcases h with (h | ⟨o, h⟩) | ⟨o, its, n, e, c, _⟩
  · exact .base (.tup h)
  · exact .fTuple h
  · exact .kTuple e c
theorem tyx_L {K : PySem.W.Frag} {H : Hp} {a : Addr} {xs : List V} (h : SqL K H a xs) : TyX K H (.ref a) (.type "list") := by
  rcases h with (h | ⟨o, h⟩) | ⟨o, its, n, e, c, _⟩
  · exact .base (.lst h)
  · exact .base (.frz h)
  · exact .kList e c
theorem kitb_tt : kitB "tuple" "tuple" = some true := by decide +kernel
theorem kitb_ll : kitB "list" "list" = some true := by decide +kernel
theorem eqvAll_ints : ∀ a b : List Int, PyData.eqvAll (a.map .int) (b.map .int) = decide (a = b)
  | [], [] => by simp only [List.map_nil, PyData.eqvAll]; rfl
  | [], _ :: _ => by simp only [List.map_nil, List.map_cons, PyData.eqvAll]; rfl
  | _ :: _, [] => by simp only [List.map_nil, List.map_cons, PyData.eqvAll]; rfl
  | x :: xs, y :: ys => by
    rw [List.map_cons, List.map_cons, PyData.eqvAll, eqvAll_ints xs ys]
    rw [PyData.eqv]
    by_cases e : x = y <;> by_cases e2 : xs = ys <;> simp [e, e2]
theorem eqv_tups (a b : List Int) : PyData.eqv (tupD a) (tupD b) = decide (a = b) := by
  unfold tupD
  rw [PyData.eqv, eqvAll_ints]
end Dg
namespace Dg
inductive Cells (n : Nat) : List Int → Prop where
  | one (c : Nat) (h : c < n) : Cells n [(c : Int)]
  | two (c d : Nat) (h : c < d) (h' : d < n) : Cells n [(c : Int), (d : Int)]
theorem rep_at (n i : Nat) : (List.replicate n (0 : Int)).getD i 0 = 0 := by
  rw [List.getD_eq_getElem?_getD, List.getElem?_replicate]
  split <;> rfl
theorem repset_at {n j : Nat} (hj : j < n) (i : Nat) : ((List.replicate n (0 : Int)).set j 1).getD i 0 = if i = j then 1 else 0 := by
  rw [List.getD_eq_getElem?_getD, List.getElem?_set, List.length_replicate, List.getElem?_replicate]
  by_cases e : j = i
  · subst e
    rw [if_pos rfl, if_pos hj, if_pos rfl]
    rfl
  · rw [if_neg e, if_neg (Ne.symm e)]
    split <;> rfl
theorem high_at {n : Nat} {cs : List Int} (h : Cells n cs) (i : Nat) : (highV n cs).getD i 0 = if (i : Int) = cs.getD 0 0 then 1 else 0 := by
  cases h with
  | one c h =>
    show ((List.replicate n (0 : Int)).set (c : Int).toNat 1).getD i 0 = if (i : Int) = (c : Int) then 1 else 0
    rw [Int.toNat_natCast, repset_at h]
    by_cases e : i = c
    · rw [if_pos e, if_pos (by omega)]
    · rw [if_neg e, if_neg (by omega)]
  | two c d h h' =>
    show ((List.replicate n (0 : Int)).set (c : Int).toNat 1).getD i 0 = if (i : Int) = (c : Int) then 1 else 0
    rw [Int.toNat_natCast, repset_at (by omega)]
    by_cases e : i = c
    · rw [if_pos e, if_pos (by omega)]
    · rw [if_neg e, if_neg (by omega)]
theorem filt_one (c : Nat) : ∀ n, (List.range n).filter (fun i => decide (i = c)) = if c < n then [c] else []
  | 0 => by simp
  | n + 1 => by
    rw [List.range_succ, List.filter_append, filt_one c n]
    by_cases e : n = c
    · subst e
      simp
    · rw [List.filter_cons_of_neg (by simp [e]), List.filter_nil, List.append_nil]
      by_cases h : c < n
      · rw [if_pos h, if_pos (by omega)]
      · rw [if_neg h, if_neg (by omega)]
theorem filt_two {c d : Nat} (hcd : c < d) : ∀ n, (List.range n).filter (fun i => decide (i = c ∨ i = d)) = if d < n then [c, d] else if c < n then [c] else []
  | 0 => by simp
  | n + 1 => by
    rw [List.range_succ, List.filter_append, filt_two hcd n]
    by_cases e : n = d
    · subst e
      rw [List.filter_cons_of_pos (by simp), List.filter_nil, if_neg (by omega), if_pos hcd, if_pos (by omega)]
      rfl
    · by_cases e2 : n = c
      · subst e2
        rw [List.filter_cons_of_pos (by simp), List.filter_nil, if_neg (by omega), if_neg (by omega), if_neg (by omega), if_pos (by omega)]
        rfl
      · rw [List.filter_cons_of_neg (by simp [e, e2]), List.filter_nil, List.append_nil]
        by_cases h : d < n
        · simp [h, show d < n + 1 by omega]
        · by_cases h2 : c < n
          · simp [h, h2, show ¬ d < n + 1 by omega, show c < n + 1 by omega]
          · simp [h, h2, show ¬ d < n + 1 by omega, show ¬ c < n + 1 by omega]
theorem low_at {n : Nat} {cs : List Int} (h : Cells n cs) (i : Nat) : (lowV n cs).getD i 0 = if cs.length = 2 ∧ (i : Int) = cs.getD 1 0 then 1 else 0 := by
  cases h with
  | one c h =>
    show (List.replicate n (0 : Int)).getD i 0 = _
    rw [rep_at, if_neg (fun z => by have := z.1; simp at this)]
  | two c d h h' =>
    have e0 : (lowV n [(c : Int), (d : Int)]).getD i 0 = if i = d then 1 else 0 := by
      show ((List.replicate n (0 : Int)).set (d : Int).toNat 1).getD i 0 = _
      rw [Int.toNat_natCast, repset_at h']
    rw [e0]
    by_cases e : i = d
    · simp [e]
    · have : ¬ (i : Int) = (d : Int) := by omega
      simp [e, this]
theorem moved_is {n : Nat} {cs : List Int} (h : Cells n cs) : ((List.range n).filter fun i : Nat => !decide ((lowV n cs).getD i 0 = (highV n cs).getD i 0)).map (fun i : Nat => (i : Int)) = cs := by
  have e : (List.range n).filter (fun i : Nat => !decide ((lowV n cs).getD i 0 = (highV n cs).getD i 0)) = (List.range n).filter (fun i : Nat => decide ((i : Int) ∈ cs)) := by
    congr 1
    funext i
    rw [low_at h, high_at h]
    cases h with
    | one c h =>
      by_cases e : (i : Int) = (c : Int) <;> simp [e]
    | two c d h h' =>
      have e0 : [(c : Int), (d : Int)].getD 0 0 = c := rfl
      have e1 : [(c : Int), (d : Int)].getD 1 0 = d := rfl
      have e2 : [(c : Int), (d : Int)].length = 2 := rfl
      have e3 : decide ((i : Int) ∈ [(c : Int), (d : Int)]) = decide ((i : Int) = c ∨ (i : Int) = d) := decide_eq_decide.mpr (by rw [List.mem_cons, List.mem_cons]; simp)
      rw [e0, e1, e2, e3]
      by_cases g : (i : Int) = (c : Int)
      · rw [if_neg (fun z => by omega), if_pos g, decide_eq_true (Or.inl g)]
        rfl
      · rw [if_neg (c := (i : Int) = (c : Int)) g]
        by_cases g2 : (i : Int) = (d : Int)
        · rw [if_pos ⟨rfl, g2⟩, decide_eq_true (Or.inr g2)]
          rfl
        · rw [if_neg (fun z => g2 z.2), decide_eq_false (p := (i : Int) = c ∨ (i : Int) = d) (fun z => z.elim g g2)]
          rfl
  rw [e]
  cases h with
  | one c h =>
    have : (fun i : Nat => decide ((i : Int) ∈ [(c : Int)])) = fun i => decide (i = c) := by
      funext i
      simp
      omega
    rw [this, filt_one, if_pos h]
    rfl
  | two c d h h' =>
    have : (fun i : Nat => decide ((i : Int) ∈ [(c : Int), (d : Int)])) = fun i => decide (i = c ∨ i = d) := by
      funext i
      refine decide_eq_decide.mpr ?_
      rw [List.mem_cons, List.mem_cons]
      constructor
      · rintro (z | z | z)
        · exact .inl (by omega)
        · exact .inr (by omega)
        · cases z
      · rintro (z | z)
        · exact .inl (by omega)
        · exact .inr (.inl (by omega))
    rw [this, filt_two h, if_pos h']
    rfl
theorem low_ne_high {n : Nat} {cs : List Int} (h : Cells n cs) : highV n cs ≠ lowV n cs := by
  intro z
  have h1 := high_at h (cs.getD 0 0).toNat
  have h2 := low_at h (cs.getD 0 0).toNat
  rw [z] at h1
  cases h with
  | one c h =>
    rw [h1] at h2
    simp at h2
  | two c d h h' =>
    rw [h1] at h2
    have e0 : [(c : Int), (d : Int)].getD 0 0 = c := rfl
    have e1 : [(c : Int), (d : Int)].getD 1 0 = d := rfl
    rw [e0, e1, Int.toNat_natCast, if_pos rfl, if_neg (fun z => by omega)] at h2
    exact absurd h2 (by decide)
theorem fault_cells {n m : Nat} {k l : List Int} {cs : List Int} {p : Int} (hk : InV k m) (hl : InV l m) (nk : k.length = n) (nl : l.length = n) (h : faultV k l = some (cs, p)) : Cells n cs ∧ 1 ≤ p ∧ p ≤ m := by
  obtain ⟨hp, hc⟩ := fault_some hk hl nk nl h
  refine ⟨?_, hp⟩
  rcases hc with ⟨c, hcn, rfl, _⟩ | ⟨c, d, hcd, hdn, rfl, _⟩
  · exact .one c hcn
  · exact .two c d hcd hdn
theorem low_len {n : Nat} {cs : List Int} : (lowV n cs).length = n := by
  unfold lowV
  split <;> simp
theorem high_len {n : Nat} {cs : List Int} : (highV n cs).length = n := by
  unfold highV
  simp
theorem turn_row_len {n : Nat} {cs : List Int} {p last : Int} {r : List Int} (h : r ∈ turnV n cs p last) : r.length = n := by
  unfold turnV at h
  rcases List.mem_append.mp h with z | z
  · rw [(List.mem_replicate.mp z).2, low_len]
  · rw [(List.mem_replicate.mp z).2, high_len]
theorem turn_get {n : Nat} {cs : List Int} {p last : Int} (h0 : 0 ≤ p) (h1 : p ≤ last) (v : Nat) (hv : v ≤ last.toNat) : (turnV n cs p last)[v]? = some (if (v : Int) < p then lowV n cs else highV n cs) := by
  have hl : v < (turnV n cs p last).length := by
    rw [turn_len h0 h1]
    omega
  have h := turn_at (n := n) (cs := cs) h0 h1 v hv
  rw [List.getD_eq_getElem?_getD, List.getElem?_eq_getElem hl] at h
  rw [List.getElem?_eq_getElem hl]
  exact congrArg some h
theorem Cells.bound {n : Nat} {cs : List Int} (h : Cells n cs) : ∀ x ∈ cs, 0 ≤ x ∧ x < (n : Int) := by
  cases h with
  | one c h =>
    intro x hx
    have : x = c := by simpa using hx
    omega
  | two c d h h' =>
    intro x hx
    have : x = c ∨ x = d := by simpa using hx
    omega
end Dg
namespace Dg
theorem foldl_num : ∀ (r : List Int) (a : Int), r.foldl (fun a d => 2 * a + d) a = a * 2 ^ r.length + numV r
  | [], a => by
    show a = a * 2 ^ 0 + 0
    omega
  | x :: xs, a => by
    have h0 : numV (x :: xs) = (2 * 0 + x) * 2 ^ xs.length + numV xs := by
      unfold numV
      rw [List.foldl_cons, foldl_num xs (2 * 0 + x)]
      unfold numV
      rfl
    rw [List.foldl_cons, foldl_num xs (2 * a + x), h0, List.length_cons, Int.pow_succ]
    generalize (2 : Int) ^ xs.length = z
    rw [show a * (z * 2) = 2 * a * z by rw [Int.mul_comm z 2, ← Int.mul_assoc, Int.mul_comm a 2], Int.add_mul (2 * a) x z, Int.mul_zero, Int.zero_add]
    omega
theorem num_cons (x : Int) (xs : List Int) : numV (x :: xs) = x * 2 ^ xs.length + numV xs := by
  have h := foldl_num xs (2 * 0 + x)
  rw [show (2 * 0 + x) = x by omega] at h
  unfold numV
  rw [List.foldl_cons, show (2 * 0 + x) = x by omega, h]
  unfold numV
  rfl
def BitsOf (r : List Int) : Prop := ∀ d ∈ r, d = 0 ∨ d = 1
theorem num_range : ∀ {r : List Int}, BitsOf r → 0 ≤ numV r ∧ numV r < 2 ^ r.length
  | [], _ => ⟨Int.le_refl _, by decide⟩
  | x :: xs, h => by
    obtain ⟨h1, h2⟩ := num_range (r := xs) fun d hd => h d (List.mem_cons_of_mem _ hd)
    rw [num_cons, List.length_cons, Int.pow_succ]
    have hx := h x List.mem_cons_self
    generalize (2 : Int) ^ xs.length = z at h2
    rcases hx with e | e <;> rw [e] <;> constructor <;> omega
theorem lex_num : ∀ {r s : List Int}, r.length = s.length → BitsOf r → BitsOf s → lexL r s = false → numV s ≤ numV r
  | [], [], _, _, _, _ => Int.le_refl _
  | x :: xs, y :: ys, hl, hr, hs, h => by
    have hl' : xs.length = ys.length := by simpa using hl
    have hr' : BitsOf xs := fun d hd => hr d (List.mem_cons_of_mem _ hd)
    have hs' : BitsOf ys := fun d hd => hs d (List.mem_cons_of_mem _ hd)
    rw [num_cons, num_cons, hl']
    unfold lexL at h
    by_cases e : x = y
    · rw [if_pos e] at h
      have := lex_num hl' hr' hs' h
      rw [e]
      omega
    · rw [if_neg e] at h
      have h1 := of_decide_eq_false h
      have hx := hr x List.mem_cons_self
      have hy := hs y List.mem_cons_self
      have b1 := num_range hr'
      have b2 := num_range hs'
      have ex : x = 1 := by omega
      have ey : y = 0 := by omega
      rw [ex, ey]
      generalize (2 : Int) ^ ys.length = z at b2
      omega
theorem num_lex {r s : List Int} (hl : r.length = s.length) (hr : BitsOf r) (hs : BitsOf s) (h : numV r < numV s) : lexL r s = true := by
  cases e : lexL r s with
  | true => rfl
  | false =>
    have := lex_num hl hr hs e
    omega
theorem lex_self : ∀ r : List Int, lexL r r = false
  | [] => rfl
  | x :: xs => by
    unfold lexL
    rw [if_pos rfl]
    exact lex_self xs
theorem lex_at : ∀ {r s : List Int} (i : Nat), r.length = s.length → lexL r s = true → (∀ j, j < i → r.getD j 0 = s.getD j 0) → i < r.length ∧ (r.getD i 0 ≠ s.getD i 0 → r.getD i 0 < s.getD i 0)
  | [], [], i, _, h, _ => by
    rw [lex_self] at h
    cases h
  | x :: xs, y :: ys, 0, _, h, _ => by
    refine ⟨Nat.zero_lt_succ _, fun z => ?_⟩
    have z' : ¬ x = y := z
    unfold lexL at h
    rw [if_neg z'] at h
    exact of_decide_eq_true h
  | x :: xs, y :: ys, i + 1, hl, h, he => by
    have e0 : x = y := he 0 (Nat.zero_lt_succ _)
    unfold lexL at h
    rw [if_pos e0] at h
    obtain ⟨h1, h2⟩ := lex_at (r := xs) (s := ys) i (by simpa using hl) h fun j hj => he (j + 1) (Nat.succ_lt_succ hj)
    exact ⟨Nat.succ_lt_succ h1, h2⟩
theorem bad_of {rows : List (List Int)} (h0 : rows ≠ []) (h1 : rows.getD 0 [] ≠ []) (h : ∀ j, j + 1 < rows.length → badNext (rows.getD j []) (rows.getD (j + 1) []) = false) : badAt rows = none := by
  unfold badAt
  rw [if_neg (fun z => z.elim h0 h1)]
  unfold badFrom
  rw [List.findSome?_eq_none_iff]
  intro j hj
  have hj' := List.mem_range.mp hj
  rw [h j (by omega)]
  rfl
theorem lowV_bits {n : Nat} {cs : List Int} : BitsOf (lowV n cs) := by
  unfold lowV
  split
  · exact (set_bits n _).2
  · exact (zero_bits n).2
theorem highV_bits {n : Nat} {cs : List Int} : BitsOf (highV n cs) := (set_bits n _).2
theorem high_not_below {n : Nat} {cs : List Int} (h : Cells n cs) : lexL (highV n cs) (lowV n cs) = false := by
  cases e : lexL (highV n cs) (lowV n cs) with
  | false => rfl
  | true =>
    have hl : (highV n cs).length = (lowV n cs).length := high_len.trans low_len.symm
    have key : ∀ c : Nat, cs.getD 0 0 = (c : Int) → ((cs.length = 2) → (c : Int) < cs.getD 1 0) → False := by
      intro c hc h2
      have hlow : (lowV n cs).getD c 0 = 0 := by
        rw [low_at h, if_neg (fun z => by have := h2 z.1; omega)]
      have hhigh : (highV n cs).getD c 0 = 1 := by
        rw [high_at h, if_pos hc.symm]
      have hj : ∀ j, j < c → (highV n cs).getD j 0 = (lowV n cs).getD j 0 := by
        intro j hj
        rw [high_at h, low_at h, if_neg (by omega), if_neg (fun z => by have := h2 z.1; omega)]
      have := (lex_at c hl e hj).2 (by rw [hlow, hhigh]; decide)
      rw [hlow, hhigh] at this
      omega
    cases h with
    | one c h => exact (key c rfl (fun z => by simp at z)).elim
    | two c d h h' => exact (key c rfl (fun _ => by show (c : Int) < (d : Int); omega)).elim
theorem turn_bad {n : Nat} {cs : List Int} {p last : Int} (h : Cells n cs) (p1 : 1 ≤ p) (pl : p ≤ last) : badAt (turnV n cs p last) = none := by
  have hlen : (turnV n cs p last).length = last.toNat + 1 := turn_len (by omega) pl
  have n0 : 0 < n := by
    cases h <;> omega
  refine bad_of (fun z => ?_) (fun z => ?_) fun j hj => ?_
  · rw [z] at hlen
    simp at hlen
  · rw [turn_at (by omega) pl 0 (Nat.zero_le _), if_pos (by omega)] at z
    have := low_len (n := n) (cs := cs)
    rw [z] at this
    simp at this
    omega
  · rw [turn_at (by omega) pl j (by omega), turn_at (by omega) pl (j + 1) (by omega)]
    unfold badNext
    by_cases g : ((j + 1 : Nat) : Int) < p
    · rw [if_pos g, if_pos (by omega), lex_self, decide_eq_false (fun z => z rfl)]
      rfl
    · rw [if_neg g]
      by_cases g2 : (j : Int) < p
      · rw [if_pos g2, high_not_below h, decide_eq_false (fun z => z (high_len.trans low_len.symm))]
        rfl
      · rw [if_neg g2, lex_self, decide_eq_false (fun z => z rfl)]
        rfl
theorem turn_versOk {n : Nat} {cs : List Int} {p last : Int} {k : List Int} (p1 : 1 ≤ p) (pl : p ≤ last) (hk : AllIn k last) (hl : k.length = n) : versOk (turnV n cs p last) k := by
  refine ⟨?_, fun x hx => ?_⟩
  · rw [turn_at (by omega) pl 0 (Nat.zero_le _), if_pos (by omega), low_len, hl]
  · rw [turn_len (by omega) pl]
    have := hk x hx
    omega
theorem rowV_bits {n : Nat} {cs : List Int} {p last : Int} {k : List Int} : BitsOf (rowV (turnV n cs p last) k) := by
  intro d hd
  unfold rowV at hd
  obtain ⟨i, _, rfl⟩ := List.mem_map.mp hd
  have key : ∀ r, r ∈ turnV n cs p last → BitsOf r := by
    intro r hr
    unfold turnV at hr
    rcases List.mem_append.mp hr with z | z
    · rw [(List.mem_replicate.mp z).2]
      exact lowV_bits
    · rw [(List.mem_replicate.mp z).2]
      exact highV_bits
  have dig : ∀ r : List Int, BitsOf r → r.getD i 0 = 0 ∨ r.getD i 0 = 1 := by
    intro r hr
    rw [List.getD_eq_getElem?_getD]
    cases e2 : r[i]? with
    | none => exact .inl rfl
    | some d => exact hr d (List.mem_of_getElem? e2)
  refine dig _ ?_
  generalize (k.getD i 0).toNat = v
  rw [List.getD_eq_getElem?_getD]
  cases e : (turnV n cs p last)[v]? with
  | none => exact fun d hd => by cases hd
  | some r => exact key r (List.mem_of_getElem? e)
theorem turn_above {n m : Nat} {k l : List Int} {cs : List Int} {p last : Int} (hk : InV k m) (hl : InV l m) (nk : k.length = n) (nl : l.length = n) (h : faultV k l = some (cs, p)) (hm : last = (m : Int)) :
    lexL (rowV (turnV n cs p last) l) (rowV (turnV n cs p last) k) = true :=
  num_lex (by unfold rowV; rw [List.length_map, List.length_map, List.length_range, List.length_range, nk, nl]) rowV_bits rowV_bits (fault_gt hk hl nk nl h hm)
end Dg
namespace Dg
open PySem PySem.Spec PyProof.Rows L2
structure FnG (P : Program) (w : World) (K : PySem.W.Frag) (mg : Str → Option Value) (base : Heap) (C : CXT) (k : Nat) (f : Addr) (fd : FuncData) (ps : List Str) (sp : Sp) : Prop where
  cnt : ∀ vs H Q E, sp vs H Q E → vs.length = ps.length
  go : ∀ (A : Around) (outer : List Env) (s : Shared) (H : Hp) (args : Args) (us : List Value) (vs : List V) (Q : VK) (E : XK), A.guards = some [] → Room k A → Env0 P w K mg base A outer s H →
    BindsTo s fd args (ps.zip us) → Vals vs us → sp vs H Q E → codeAny (model P w) A (.call (.ref f) args) (CR C outer P w H s Q E) s
section
variable {P : Program} {w : World} {K : PySem.W.Frag} {mg : Str → Option Value} {base : Heap}
theorem fnG_ok {x q : Str} {st : Stmt} {f : Addr} {fd : FuncData} {N ps : List Str} {k : Nat} {sp : Sp} (F : Fun K x q st f fd) (S : FnScope N ps (defScope st)) (cnt : ∀ vs H Q E, sp vs H Q E → vs.length = ps.length)
    (body : ∀ (cdv : Value) (A : Around) (outer : List Env) (s : Shared) (H : Hp) (vs : List V) (Q : VK) (E : XK), A.guards = some [] → Room k (A.deeper (envOfC q (defScope st) s.heap.objs.size f cdv)) → sp vs H Q E →
      ∃ t, PSs (cxOf CX0 P w K mg base N q (defScope st) f cdv A outer s H E).nox (defBody st) t ∧ t { nx := fun _ H' => Q .non H', rt := Q } (start N vs) H) : FnG P w K mg base CX0 (k + 1) f fd ps sp := by
  obtain ⟨_, _, _, _, _, _, cdv, _, _, rfl, look, code⟩ := F.ex
  constructor
  · exact cnt
  intro A outer s H args us vs Q E hg room e0 bind rel asked
  have nvs := cnt _ _ _ _ asked
  have old : ∀ b o, base.get? b = some o → s.heap.get? b = some o := fun b o e => (e0.bs b o e).1
  have KX : K.In s.heap := e0.mod.kin.keeps old
  have names : ∀ y ∈ ps.zip us, (defScope st).names.lookup y.1 = some .local ∨ ((defScope st).names.lookup y.1 = some .cell ∧ ((cellsFrom (s.heap.objs.size + 1) (defScope st).names []).lookup y.1).isSome = true) := by
    rintro ⟨n, v⟩ hy
    have hn := (List.of_mem_zip hy).1
    exact (S.par n hn).imp (fun z => z) fun z => ⟨z, PySem.W.cellsFrom_some _ _ _ (.inl z)⟩
  refine codeAny_call_function room.depth (KX _ _ look) rfl S.co S.gen rfl (PySem.W.codeRec_of KX code) (bind _ _ _ _ ?_)
  refine wpAny_newFunctionEnv_cells S.kind names ?_
  intro env he s1 made
  subst he
  refine ⟨(e0.mod.nolimit.keeps old).keeps made.toInCall.keep, codeAny_func ?_⟩
  obtain ⟨t, ht, asks⟩ := body cdv A outer s H vs Q E hg (room.deeper _) asked
  have I := inv_start (CX := CX0) (E := E) S room.hd e0 nvs rel made
  refine wpAny_mono (ht.nox.run [] s1 (start N vs) H _ I asks) ?_ (fun e s' z => z)
  intro fl s' z
  have fin : ∀ {σ' : L2.St} {H' : Hp} {v : V} {u : Value}, Inv (cxOf CX0 P w K mg base N q (defScope st) f cdv A outer s H E) [] σ' H' s' → RelV v u → Q v H' → CE outer P w H s Q u s' :=
    fun J rv hq => ⟨_, _, J.os, J.bare, J.base, J.hok, rv, hq⟩
  cases fl with
  | ret u =>
    obtain ⟨_, _, _, J, rv, hq⟩ := z
    exact fin J rv hq
  | next =>
    obtain ⟨_, _, J, hq⟩ := z
    exact fin (v := V.non) (u := Value.none) J rfl hq
  | brk => exact z.elim fun _ z => z.elim fun _ z => z.2.elim
  | cont => exact z.elim fun _ z => z.elim fun _ z => z.2.elim
end
section
variable {X : Cx}
def rRepr (K : PySem.W.Frag) : List V → Hp → VK → Prop := fun vs H Q => ∃ (a : Addr) (d : PyData), vs = [.ref a] ∧ Dp K H (.ref a) d ∧ d.showable = true ∧ d.hasDict = false ∧ d.depth ≤ 60 ∧ d.shown.length ≤ sizeLine ∧ Q (.str d.shown) H
theorem cr_repr (hg : X.A.guards = some []) (hu : X.A.units + 64 < cLine) : CallR X (.builtin "repr") (rRepr X.K) := by
  intro pins s σ H vs us Q I r h
  obtain ⟨a, d, rfl, hd, h1, h2, h3, h4, q⟩ := h
  rw [Vals.ref1 r]
  obtain ⟨as, rd⟩ := Dp.reads I d _ _ hd rfl
  exact repr_of_reads' rd h1 (fun z => by rw [h2] at z; cases z) hg (by omega) (fun _ _ e => e) (fun h' u tk hk => ⟨.str _, H, I.kept hk, ⟨_, rfl⟩, q⟩) h4
end
theorem script_heap {P : Program} {w : World} {K : PySem.W.Frag} {h : Heap} {a : Addr} {vs : List Value} {ns : List Int} (KX : K.In h) (ha : h.get? a = some { cls := .type "list", data := .seq vs.toArray }) (hi : IntsAre vs ns) (hl : ns.length ≤ sizeLine) :
    ∃ H : Hp, Only H ∧ SqL K H a (ns.map V.int) ∧ HOk P w H h ∧ ∀ b, H b ≠ none → b = a ∧ K.lookup a = none := by
  have rv := vals_ints hi
  have nv := hi.length
  cases hk : K.lookup a with
  | some o =>
    have eo := (KX a o hk).symm.trans ha
    cases eo
    exact ⟨fun _ => none, fun _ => .inl rfl, .inr ⟨_, vs.toArray, _, hk, rfl, rfl, rfl, by rw [List.size_toArray, nv]; exact hl, by simpa using rv⟩, fun _ _ z => (by cases z), fun _ z => absurd rfl z⟩
  | none =>
    obtain ⟨ob, eob⟩ : ∃ ob : Obj, ob = { cls := .type "list", data := .seq vs.toArray } := ⟨_, rfl⟩
    refine ⟨fun b => if b = a then some (.frz ob (.lst (ns.map V.int))) else none, fun b => ?_, .inl (.inr ⟨ob, if_pos rfl⟩), fun b u z => ?_, fun b z => ⟨?_, rfl⟩⟩
    · rcases Classical.em (b = a) with e | e
      · exact .inr ⟨_, _, if_pos e⟩
      · exact .inl (if_neg e)
    · rcases Classical.em (b = a) with e | e
      · have z1 : some _ = some u := (if_pos e).symm.trans z
        cases z1
        rw [e, eob]
        exact ⟨ha, by rw [List.length_map]; exact hl, vs, _, rv, ha⟩
      · have z1 : none = some u := (if_neg e).symm.trans z
        cases z1
    · rcases Classical.em (b = a) with e | e
      · exact e
      · exact absurd (if_neg e) z
theorem headG {P : Program} {w : World} {K : PySem.W.Frag} {mg mb : Str → Option Value} {k : Nat} {fa a : Addr} {fd : FuncData} {x : Str} {sp : Sp} {s : Shared} {vs : List Value} {ns : List Int}
    (KX : K.In s.heap) (gl : s.heap.Ns mainGlobals mg) (bl : s.heap.Ns builtinsNs mb) (bb : ∀ x : Str, x ≠ "__name__" → mb x = bootBuiltins x) (lim : s.heap.NoLimit) (gn : s.gens = #[])
    (ha : s.heap.get? a = some { cls := .type "list", data := .seq vs.toArray }) (hi : IntsAre vs ns) (hl : ns.length ≤ sizeLine) (room : Room k callerA)
    (F : ∀ base : Heap, K.In base → base.Ns mainGlobals mg → FnG P w K mg base CX0 k fa fd [x] sp) (bind : ∀ (s : Shared) (u : Value), BindsTo s fd ⟨[u], []⟩ [(x, u)])
    (asks : ∀ H : Hp, Only H → SqL K H a (ns.map V.int) → sp [.ref a] H (fun v _ => v = .bl true) fun _ _ _ => False) :
    codeAny (model P w) callerA (.call (.ref fa) ⟨[.ref a], []⟩) (fun r s' => r = .ok (.ret (.bool true)) ∧ OldK s.heap s'.heap ∧ s'.os = s.os ∧ AllBare s'.gens) s := by
  obtain ⟨H, only, seq, ok, hA⟩ := script_heap (P := P) (w := w) KX ha hi hl
  have free : ∀ {b : Addr} {o : Obj}, s.heap.get? b = some o → (b = a → False) → (hidT s.heap H).get? b = some o := fun {b o} e n => hidT_get e (by
    cases q : H b with
    | none => rfl
    | some u => exact (n (hA b (by rw [q]; simp)).1).elim)
  have space : ∀ {b : Addr} {m : Str → Option Value}, s.heap.Ns b m → (hidT s.heap H).Ns b m := by
    rintro b m ⟨o, es, ep, e, d, r⟩
    refine ⟨o, es, ep, free e (fun z => ?_), d, r⟩
    subst z
    cases e.symm.trans ha
    cases d
  have kin : K.In (hidT s.heap H) := fun b o e => hidT_get (KX b o e) (by
    cases q : H b with
    | none => rfl
    | some u =>
      obtain ⟨z, nk⟩ := hA b (by rw [q]; simp)
      subst z
      cases e.symm.trans nk)
  have mod : Mod K mg (hidT s.heap H) := ⟨kin, space gl, ⟨mb, space bl, bb⟩, lim.elim fun mc z => ⟨mc, space z.1, z.2⟩⟩
  have env : Env0 P w K mg (hidT s.heap H) callerA [] s H := by
    refine ⟨rfl, mod, fun b o e => of_hidT e, Nat.le_of_eq (hidT_size _ _), trivial, fun b z => ?_, ok, .of_eq gn⟩
    cases (show b ∈ ([] : List Addr) from z)
  have run := (F _ kin (space gl)).go callerA [] s H ⟨[.ref a], []⟩ [.ref a] [.ref a] _ _ rfl room env (bind s _) (.cons rfl .nil) (asks H only seq)
  refine codeAny_mono run ?_
  intro r s' z
  match r, z with
  | .error e, z => exact z.elim
  | .ok .next, z => exact z.elim
  | .ok .brk, z => exact z.elim
  | .ok .cont, z => exact z.elim
  | .ok (.ret u), ⟨v, H', os, bare, un, ok', rel, hv⟩ =>
    have hv' : v = .bl true := hv
    rw [hv'] at rel
    refine ⟨congrArg (fun t => Except.ok (Flow.ret t)) (show u = Value.bool true from rel), OldK.of_keep ?_, os, bare⟩
    intro b o e
    cases q : H b with
    | none => exact un.keep b o e q (fun y => by cases (show b ∈ ([] : List Addr) from y)) (by simp)
    | some c =>
      rcases only b with y | ⟨ob, xs, y⟩
      · cases q.symm.trans y
      · have e1 := (ok b _ y).1
        have e2 := (ok' b _ (un.frzs b ob _ y)).1
        cases e.symm.trans e1
        exact e2
theorem walk_ofG {l : PySem.W.OpenLaw} {n k : Nat} {q : Program} {loose : List Str} {XP : (Str → Option Value) → Heap → Prop} {YP : World → Heap → Prop} {d : DefRec} {K : Params → PySem.W.Frag} {sp : World → Sp} {x : Str}
    (most : l.most = some n) (n2 : n ≤ sizeLine) (nodef : d.params.defaults = []) (room : Room k callerA) (kin : ∀ (w : World) (h : Heap), YP w h → (K w.params).In h)
    (F : ∀ (w : World) (mg : Str → Option Value) (fa : Addr) (h : Heap), (K w.params).In h → h.Ns mainGlobals mg → mg d.name = some (.ref fa) →
      ∃ fd : FuncData, (∀ (s : Shared) (u : Value), BindsTo s fd ⟨[u], []⟩ [(x, u)]) ∧ ∀ base : Heap, (K w.params).In base → base.Ns mainGlobals mg → FnG l.prog w (K w.params) mg base CX0 k fa fd [x] (sp w))
    (asks : ∀ (w : World) (H : Hp) (a : Addr) (ns : List Int), ns.length ≤ n → Only H → SqL (K w.params) H a (ns.map V.int) → sp w [.ref a] H (fun v _ => v = .bl true) fun _ _ _ => False) :
    PySem.W.WalkO q loose XP YP l.row.toRowW d [] (fun f vs => PySem.call f vs) := by
  refine Att.attach_call most nodef ?_
  intro w s₀ s mg mb fa o pm cd doc a vs ns G Y ho hd hcd hmg hobj hints hlen hg
  have KX := kin w _ Y
  obtain ⟨fd, bind, go⟩ := F w mg fa _ KX G.T.g hmg
  exact headG KX G.T.g G.T.b G.T.builtins G.T.nolimit hg hobj hints (Nat.le_trans hlen n2) room go bind fun H only seq => asks w H a ns hlen only seq
end Dg
namespace Dg
open PySem PySem.Spec PyProof.Rows L2
abbrev Suite := Addr → Value → Option Addr → TS
def clauseEnds : Option Nat → Ends → Ends
  | none, D => D
  | some i, D => { nx := fun t G => D.nx (t.set i none) G, rt := D.rt, bk := fun t G => D.bk (t.set i none) G, ct := fun t G => D.ct (t.set i none) G }
def clauseSlot : Option Nat → L2.St → Addr → L2.St
  | none, t, _ => t
  | some i, t, a => t.set i (some (.ref a))
def wClauses (K : PySem.W.Frag) (out : WX) (D : Ends) : List (Value × Option Nat × Suite) → WX
  | [] => out
  | (c, i, ts) :: l => fun cls d t G => ∃ b, PySem.W.exmOne K cls c = some b ∧
      (b = true → ∀ a, G a = none → ts a cls d (clauseEnds i D) (clauseSlot i t a) G) ∧ (b = false → wClauses K out D l cls d t G)
inductive Clauses (X : Cx) : List ExceptHandler → List (Value × Option Nat × Suite) → Prop where
  | nil : Clauses X [] []
  | bare {x : Str} {c : Value} {ts : Suite} {b : Stmt} {bs : List Stmt} {p p' : Pos} {hs : List ExceptHandler} {l : List (Value × Option Nat × Suite)} (nm : Names X x c)
      (su : ∀ (a : Addr) (o : Obj) (cls : Value) (d : Option Addr) (pn : List (Addr × Obj)), Zc cls d o → (∃ vs, o.data = .fields vs) → PSs (X.suite a ((a, o) :: pn)) (b :: bs) (ts a cls d)) (more : Clauses X hs l) :
      Clauses X (.ExceptHandler (some (.Name x p)) none (b :: bs) p' :: hs) ((c, none, ts) :: l)
  | named {x n : Str} {c : Value} {i : Nat} {ts : Suite} {b : Stmt} {bs : List Stmt} {p p' : Pos} {hs : List ExceptHandler} {l : List (Value × Option Nat × Suite)} (at_ : X.N[i]? = some n) (lo : X.env.kindOf n = some .local) (nm : Names X x c)
      (su : ∀ (a : Addr) (o : Obj) (cls : Value) (d : Option Addr) (pn : List (Addr × Obj)), Zc cls d o → (∃ vs, o.data = .fields vs) → PSs (X.suite a ((a, o) :: pn)) (b :: bs) (ts a cls d)) (more : Clauses X hs l) :
      Clauses X (.ExceptHandler (some (.Name x p)) (some n) (b :: bs) p' :: hs) ((c, some i, ts) :: l)
section
variable {X : Cx} {body : List Stmt} {h0 : ExceptHandler} {hs : List ExceptHandler} {l : List (Value × Option Nat × Suite)} {pos : Pos} {tb : WX → TS} {out : WX}
theorem ps_tryC (stk : X.stack = X.env :: X.outer) (frm : X.env.frame = some X.env.locals) (nod : X.N.Nodup) (tk : Takes X out)
    (hb : ∀ (W : WX) (pn : List (Addr × Obj)) (xe : Value → Shared → Prop), Takes (X.tr pn xe) W → PassesOwn (model X.prog X.w) X.A X.env xe → PSs (X.tr pn xe) body (tb W)) (hc : Clauses X (h0 :: hs) l) :
    PS X (.Try body (h0 :: hs) [] [] pos) (fun D t G => tb (wClauses X.K out D l) D t G) := by
  constructor
  intro pins s t G D I asked
  have ok := I.ok
  have frames : X.A.frames = some (X.env :: X.outer) := ok.frames.trans (congrArg some stk)
  refine wpAny_Try_except (wpAny_mono ((hb (wClauses X.K out D l) (X.pn ++ pins) _ ?takes PassesOwn.looking).run [] s t G D (I.toTry _) asked) ?done fun _ _ z => z)
  case takes =>
    rintro u s1 ⟨a, B, sI, pins1, t1, G1, cls, d, rfl, J0, nb, up, sky, free, os, gens, wish⟩
    have J := J0.ofTry ok
    have sky1 : Sky B (X.env :: X.outer) a (Zc cls d) X.env.locals s1.heap := stk ▸ sky
    show wpAny (model X.prog X.w) X.A (noteFrame (.ref a) X.env) _ _ _
    refine Sky.land Zc.steady frames frm sky1 ?_
    intro h3 fl up3
    have J3 : Inv X pins t1 G1 { s1 with heap := h3 } := J.landed nb fl.1 (up.trans up3) os gens
    obtain ⟨o3, vs3, e3, z3, d3⟩ := fl.there
    have away : a ∉ frs (X.env :: X.outer) := by
      intro hm
      obtain ⟨_, o', e', nf⟩ := fl.2.2.1.mem hm
      cases e3.symm.trans e'
      exact nf _ d3
    have awayL : a ≠ X.env.locals := by
      intro z
      exact away (List.mem_filterMap.mpr ⟨_, List.mem_cons_self, by rw [frm, z]⟩)
    have awayF : a ∉ X.fs := by
      intro hm
      obtain ⟨e, he, q⟩ := List.mem_filterMap.mp hm
      exact away (List.mem_filterMap.mpr ⟨e, List.mem_cons_of_mem _ he, q⟩)
    have S3 := J3.suite e3 d3 free awayL awayF
    have look : ∀ {x : Str} {c : Value} {p : Pos}, Names X x c → ∀ {Q E : Value → Shared → Prop}, Q c { s1 with heap := h3 } → wpAny (model X.prog X.w) (X.A.mark (some (.ref a))) (eval (.Name x p) X.env) Q E { s1 with heap := h3 } := by
      rintro x c p ⟨hg, nd, hm | ⟨hm, hv, nn⟩⟩ Q E q
      · exact ld_glob (X := X.suite a ((a, o3) :: (X.pn ++ pins))) S3 hg hm q nd
      · exact ld_blt (X := X.suite a ((a, o3) :: (X.pn ++ pins))) S3 hg hm hv q nn nd
    have cls3 : PySem.W.Looks (model X.prog X.w) h3 (typeOf (.ref a)) cls := fun _ _ _ _ k q => wpAny_typeOf_ref (k _ _ e3) (by rw [z3.1]; exact q)
    have go : ∀ {hs' : List ExceptHandler} {l' : List (Value × Option Nat × Suite)}, Clauses X hs' l' → wClauses X.K out D l' cls d t1 G1 →
        wpAny (model X.prog X.w) X.A (handleBy (.ref a) X.env hs') (SP X pins D) X.xe { s1 with heap := h3 } := by
      intro hs' l' hk
      induction hk with
      | nil =>
        intro wish
        refine wpAny_handleBy_nil ?_
        obtain ⟨_, _, _, _, _, T, _, _, he, _, hd, h1, _⟩ := id fl
        have pass : wpAny (model X.prog X.w) X.A (setFlight (.ref a) X.env.frame) (fun _ s4 => wpAny (model X.prog X.w) X.A (throw (.ref a) : Sem Flow) (SP X pins D) X.xe s4) X.xe { s1 with heap := h3 } := by
          rw [frm]
          refine HandSPX.setFlight_upZ fl ?_
          intro h4 sky4 up4
          refine wpAny_throw (tk _ _ ⟨a, B, sI, pins, t1, G1, cls, d, rfl, J, nb, (up.trans up3).trans up4, .inr (.inr ?_), free, os, gens, wish⟩)
          rw [stk]
          exact sky4
        unfold PySem.passOn
        refine wpAny_bind (wpAny_field he hd h1 ?_)
        rw [if_neg (by simp : ¬ (Value.ref T == Value.none) = true)]
        first | exact wpAny_bind pass | exact wpAny_bind (wpAny_pure (wpAny_bind pass))
      | bare nm su more ih =>
        rintro ⟨b, hm, yes, no⟩
        refine wpAny_handleBy_cons (codeAny_handlers_test (look nm (PySem.W.Looks.here (PySem.W.exm_one J3.kIn cls3 hm) ?_))) (fun q => by cases q)
        cases b with
        | false => exact ih (no rfl)
        | true =>
          refine codeAny_handlers_suite (HandSPX.lands_againZ fl ?_)
          intro h4 fl4 up4
          obtain ⟨o4, _, e4, z4, d4⟩ := fl4.there
          have J4 : Inv X pins t1 G1 { s1 with heap := h4 } := J.landed nb fl4.1 ((up.trans up3).trans up4) os gens
          have S4 := J4.suite e4 d4 free awayL awayF
          refine wpAny_mono ((su a o4 cls d (X.pn ++ pins) z4 ⟨_, d4⟩).run [] _ _ G1 _ S4 (yes rfl a free)) ?_ (fun _ _ z => z.elim)
          intro f s6 z
          cases f with
          | next => exact z.elim fun _ z => z.elim fun _ z => ⟨_, _, z.1.unsuite ok, z.2⟩
          | brk => exact z.elim fun _ z => z.elim fun _ z => ⟨_, _, z.1.unsuite ok, z.2⟩
          | cont => exact z.elim fun _ z => z.elim fun _ z => ⟨_, _, z.1.unsuite ok, z.2⟩
          | ret u => exact z.elim fun _ z => z.elim fun _ z => z.elim fun _ z => ⟨_, _, _, z.1.unsuite ok, z.2.1, z.2.2⟩
      | named at_ lo nm su more ih =>
        rintro ⟨b, hm, yes, no⟩
        refine wpAny_handleBy_cons (codeAny_handlers_test (look nm (PySem.W.Looks.here (PySem.W.exm_one J3.kIn cls3 hm) ?_))) (fun q => by cases q)
        cases b with
        | false => exact ih (no rfl)
        | true =>
          refine codeAny_handlers_suite_as (HandSPX.lands_againZ fl ?_)
          intro h4 fl4 up4
          obtain ⟨o4, _, e4, z4, d4⟩ := fl4.there
          have J4 : Inv X pins t1 G1 { s1 with heap := h4 } := J.landed nb fl4.1 ((up.trans up3).trans up4) os gens
          have S4 := J4.suite e4 d4 free awayL awayF
          refine store_ok (X := X.suite a ((a, o4) :: (X.pn ++ pins))) (v := .ref a) S4 nod at_ (.inl lo) rfl ?_ (.inr lo)
          intro s5 S5
          refine wpAny_mono ((su a o4 cls d (X.pn ++ pins) z4 ⟨_, d4⟩).run [] s5 _ G1 _ S5 (yes rfl a free)) ?_ (fun _ _ z => z.elim)
          intro f s6 z
          cases f with
          | next => exact z.elim fun _ z => z.elim fun _ z => gone_ok (z.1.unsuite ok) nod at_ lo fun _ J7 => ⟨_, _, J7, z.2⟩
          | brk => exact z.elim fun _ z => z.elim fun _ z => gone_ok (z.1.unsuite ok) nod at_ lo fun _ J7 => ⟨_, _, J7, z.2⟩
          | cont => exact z.elim fun _ z => z.elim fun _ z => gone_ok (z.1.unsuite ok) nod at_ lo fun _ J7 => ⟨_, _, J7, z.2⟩
          | ret u => exact z.elim fun _ z => z.elim fun _ z => z.elim fun _ z => gone_ok (z.1.unsuite ok) nod at_ lo fun _ J7 => ⟨_, _, _, J7, z.2.1, z.2.2⟩
    exact go hc wish
  case done =>
    intro f s1 z
    cases f with
    | next =>
      obtain ⟨_, _, J, q⟩ := z
      exact wpAny_execs_nil ⟨_, _, J.ofTry ok, q⟩
    | brk =>
      obtain ⟨_, _, J, q⟩ := z
      exact ⟨_, _, J.ofTry ok, q⟩
    | cont =>
      obtain ⟨_, _, J, q⟩ := z
      exact ⟨_, _, J.ofTry ok, q⟩
    | ret u =>
      obtain ⟨_, _, _, J, r, q⟩ := z
      exact ⟨_, _, _, J.ofTry ok, r, q⟩
end
end Dg
namespace Dg
open PySem PySem.Spec PyProof.Rows L2
theorem showA : ∀ r : List Int, (∀ d ∈ r, 0 ≤ d ∧ d < 10 ^ 20) → PyData.showableAll (r.map .int) = true ∧ PyData.hasDictAll (r.map .int) = false ∧ ((PyData.shownAll (r.map .int)).map (·.length)).sum ≤ 21 * r.length ∧ (PyData.shownAll (r.map .int)).length = r.length
  | [], _ => ⟨rfl, rfl, Nat.le_refl _, rfl⟩
  | x :: xs, h => by
    obtain ⟨h1, h2, h3, h4⟩ := showA xs fun d hd => h d (List.mem_cons_of_mem _ hd)
    have hx := h x List.mem_cons_self
    have hn : x.natAbs < 10 ^ 20 := by omega
    have hlog : x.natAbs.log2 < 1920 := by
      by_cases z : x.natAbs = 0
      · rw [z]
        decide
      · rw [Nat.log2_lt z]
        exact Nat.lt_of_lt_of_le hn (Nat.le_of_lt (Nat.lt_of_lt_of_le (show 10 ^ 20 < 2 ^ 100 by decide) (Nat.pow_le_pow_right (by decide) (by decide))))
    have hlen : (PyData.shown (.int x)).length ≤ 21 := by
      rw [PyData.shown]
      show (Str.ofString (toString x)).length ≤ 21
      rw [PySem.ofString_length]
      exact int_text_length_le10 (k := 20) (by decide) hn
    rw [List.map_cons]
    refine ⟨?_, ?_, ?_, ?_⟩
    · rw [PyData.showableAll, PyData.showable, h1, decide_eq_true hlog]
      rfl
    · rw [PyData.hasDictAll, PyData.hasDict, h2]
      rfl
    · rw [PyData.shownAll, List.map_cons, List.sum_cons, List.length_cons]
      omega
    · rw [PyData.shownAll, List.length_cons, List.length_cons, h4]
theorem showT {r : List Int} (hl : r.length ≤ 1000) (h : ∀ d ∈ r, 0 ≤ d ∧ d < 10 ^ 20) : (tupD r).showable = true ∧ (tupD r).hasDict = false ∧ (tupD r).depth ≤ 60 ∧ (tupD r).shown.length ≤ sizeLine := by
  obtain ⟨h1, h2, h3, h4⟩ := showA r h
  refine ⟨?_, ?_, Nat.le_trans (okD_tup 0 r).2 (by decide), ?_⟩
  · unfold tupD
    rw [PyData.showable]
    exact h1
  · unfold tupD
    rw [PyData.hasDict]
    exact h2
  · unfold tupD
    rw [PyData.shown]
    have := tupleText_len_le (PyData.shownAll (r.map .int))
    rw [h4] at this
    have : (tupleText (PyData.shownAll (r.map .int))).length ≤ 24000 := by omega
    exact Nat.le_trans this (by decide)
end Dg
namespace Dg
open PySem PySem.Spec PyProof.Rows L2
theorem exm_other {K : PySem.W.Frag} {A C : Addr} (hC : PySem.W.subIn K (.ref C) (.type "BaseException") = some true) (iC : PySem.W.isClsIn K C = true) (tC : PySem.W.typeIn K (.ref C) = some (.type "type")) (no : PySem.W.subIn K (.ref A) (.ref C) = some false) :
    PySem.W.exmOne K (.ref A) (.ref C) = some false := by
  have e1 : (PySem.W.subIn K (.ref C) (.type "BaseException") == some true) = true := by rw [hC] <;> rfl
  have e2 : ((PySem.W.clsIn K C).isSome && PySem.W.typeIn K (.ref C) == some (.type "type")) = true := by
    rw [show (PySem.W.clsIn K C).isSome = true from iC, tC] <;> rfl
  show (if (PySem.W.subIn K (.ref C) (.type "BaseException") == some true) = true then (if ((PySem.W.clsIn K C).isSome && PySem.W.typeIn K (.ref C) == some (.type "type")) = true then PySem.W.subIn K (.ref A) (.ref C) else none) else none) = some false
  rw [if_pos e1, if_pos e2]
  exact no
end Dg
namespace Dg
open PySem PySem.Spec PyProof.Rows L2
section
variable {X : Cx}
theorem laid_free {pins : List (Addr × Obj)} {σ : L2.St} {H : Hp} {s : Shared} {h' : Heap} {a : Addr} {o : HO} (I : Inv X pins σ H s) (k : ∀ b u, s.heap.get? b = some u → h'.get? b = some u) (nw : s.heap.get? a = none) (hn : H a = none)
    (new : ObjOk X.prog X.w (upd H a o) h' a o) : Inv X pins σ (upd H a o) { s with heap := h', toks := s.toks } := by
  have other : ∀ {b : Addr} {q : HO}, H b = some q → upd H a o b = some q := fun e => by
    rw [upd_ne (ne_of_none e hn)]
    exact e
  refine I.un (H' := upd H a o) ?_ ?_
  · constructor
    · exact fun b u q _ _ _ => k b u q
    · exact fun b u q _ _ _ => ⟨_, k b u q⟩
    · intro b u q n _
      rw [upd_ne (fun z => by rw [z, nw] at q; cases q)]
      exact n
    · exact fun b u q _ => ⟨_, k b u q⟩
    · exact fun _ _ q => other q
    · exact fun _ _ _ q => other q
    · exact fun _ ps q => ⟨#[], by rw [other q]; simp⟩
  · intro b u e
    by_cases z : b = a
    · subst z
      cases upd_same.symm.trans e
      exact new
    · rw [upd_ne z] at e
      exact (I.hok b u e).stay (fun c v _ q => k c v q) (fun _ q => other q) fun _ _ q => other q
def tErr0 (C : Addr) : TE := fun σ H Q => ∀ a, H a = none → Q (.ref a) (upd H a (exo a C none))
theorem pe_err0 {C : Addr} {x : Str} {p pos : Pos} (c : Ec X.K X.mg x C) (hg : Gl X x) (hdb : (x == ("__debug__" : Str)) = false := by decide) : PE X (.Call (.Name x p) [] [] pos) (tErr0 C) := by
  constructor
  intro pins s σ H Q I h
  refine wpAny_Call_Name_kw (ld_glob I hg c.gC ?_ hdb)
  refine PySem.W.callWith_K0 I.kIn c.kC ?_
  show wpAny _ _ (call (.ref C) []) _ _ _
  obtain ⟨bm, N, nm, qn, bs, hdct, sn, sub, ab, col, dd, k0, k1, k2, k3, k5, mN, hC, hN, hni, T⟩ := exc_obj I.kIn c.xC
  refine wpAny_call_exc_subT PySem.F.excBase_ValueError T hC hN hni (fun h' e made => ?_) (by decide)
  have gone : H e = none := I.hok.gone made.new
  obtain ⟨t, he, _, _⟩ := made.there
  exact ⟨.ref e, upd H e (exo e C none), laid_free I made.keeps made.new gone (exo_ok he), rfl, h e gone⟩
def tErr1 (C : Addr) (fld : Str) (ta : TA) : TE := fun σ H Q => ta σ H fun vs H1 => ∃ v, vs = [v] ∧ ∀ a d, H1 a = none → H1 d = none → d ≠ a → Q (.ref a) (upd (upd H1 d (exd d [(fld, v)])) a (exo a C (some d)))
theorem pe_err1 {x fld : Str} {C : Addr} {e : Expr} {ta : TA} {p pos : Pos} (c : Ef X.prog X.w X.K X.mg X.base x fld C) (hr : Room 2 X.A) (hg : Gl X x) (ha : PA X [e] ta) (hdb : (x == ("__debug__" : Str)) = false := by decide)
    (he : starEach [e] X.env = (false, eval e X.env) :: starEach [] X.env := by rfl) (hpl : (backTo pos (starEach [] X.env)).any (·.1) = false := by rfl) : PE X (.Call (.Name x p) [e] [] pos) (tErr1 C fld ta) := by
  obtain ⟨fI, fd, iC, tI, F1, hb⟩ := c.ini
  constructor
  intro pins s σ H Q I h
  obtain ⟨nm, q, N, bs, bm, sn, sub, ab, col, dd, k0, k1, k2, k3, k5, hC, hbm⟩ := c.T.cls
  refine wpAny_Call_Name_kw (ld_glob I hg c.gC ?_ hdb)
  refine PySem.W.callWith_K (h₀ := X.base) I.ok.mod.kin c.T.kC (thn (ha.run pos pins s σ H _ I h) ?_) he hpl
  rintro us ⟨hp, g, dr, tk, os⟩ ⟨_, H1, I1, r1, v, rfl, asks⟩
  refine ⟨I1.kIn, ?_⟩
  show wpAny _ _ (call (.ref C) us) _ _ _
  have far : hp.objs.size ≤ hp.objs.size + 1 := Nat.le_succ _
  have free : H1 (hp.objs.size + 1) = none := I1.hok.fresh far
  have keep : ∀ b o, hp.get? b = some o → ((hp.push (PySem.W.kdv_tup us)).push (PySem.HandSPX.excO C hp.objs.size)).get? b = some o := fun _ _ e => Heap.get?_push_of_some _ (Heap.get?_push_of_some _ e)
  have there : ((hp.push (PySem.W.kdv_tup us)).push (PySem.HandSPX.excO C hp.objs.size)).get? (hp.objs.size + 1) = some (PySem.HandSPX.excO C hp.objs.size) := by heap_get
  have I2 := I1.laid (t' := tk) (o := exo (hp.objs.size + 1) C none) keep far (exo_ok there)
  have rel : Vals [V.ref (hp.objs.size + 1), v] (Value.ref (hp.objs.size + 1) :: us) := .cons rfl r1
  have cnt : us.length = 1 := (Paired.length r1).symm
  have two : (Value.ref (hp.objs.size + 1) :: us).length = (["self", fld] : List Str).length := congrArg (· + 1) cnt
  have promise : spFld C fld [V.ref (hp.objs.size + 1), v] (upd H1 (hp.objs.size + 1) (exo (hp.objs.size + 1) C none)) (fun y G => y = .non ∧ Q (.ref (hp.objs.size + 1)) G) (fun _ _ _ => False) := by
    refine ⟨_, _, rfl, upd_same, fun dx nd ne => ?_⟩
    rw [upd_ne ne] at nd
    have e : upd (upd (upd H1 (hp.objs.size + 1) (exo (hp.objs.size + 1) C none)) dx (exd dx [(fld, v)])) (hp.objs.size + 1) (exo (hp.objs.size + 1) C (some dx)) = upd (upd H1 dx (exd dx [(fld, v)])) (hp.objs.size + 1) (exo (hp.objs.size + 1) C (some dx)) := by
      funext b
      by_cases z : b = hp.objs.size + 1
      · rw [z, upd_same, upd_same]
      · rw [upd_ne z, upd_ne z]
        by_cases z2 : b = dx
        · rw [z2, upd_same, upd_same]
        · rw [upd_ne z2, upd_ne z2, upd_ne z]
    rw [e]
    exact ⟨rfl, asks _ dx free nd ne⟩
  refine wpAny_call (PySem.HandSPX.call_own PySem.F.excBase_ValueError (fun Y => PySem.HandSPX.refsVE_contains Y bm hbm) (I1.kIn _ _ hC) (PySem.W.looks_findIn I1.kIn iC) (fun self => PySem.W.bind_fn I1.kIn self tI) (by rw [cnt]; decide) ?_)
  have run := F1.run _ X.stack _ _ ⟨Value.ref (hp.objs.size + 1) :: us, []⟩ _ _ _ _ ((hr.mono (by decide : 1 + 1 ≤ 2)).make C us []) (I2.env0.make C us []) (hb _ _ I2.kIn (by rw [List.append_nil]; exact two)) (by rw [List.append_nil]; exact rel) promise
  refine codeAny_mono run ?_
  intro r s' z
  cases r with
  | error er => exact z.elim
  | ok fl =>
    cases fl with
    | ret u =>
      obtain ⟨_, G, J, rv, hy, hq⟩ := I2.after (show CE _ _ _ _ _ _ u s' from z)
      subst hy
      exact ⟨rv, .ref _, G, J, rfl, hq⟩
    | next => exact z.elim
    | brk => exact z.elim
    | cont => exact z.elim
def tErrF (K : PySem.W.Frag) (fld : Str) (te : TE) : TE := fun σ H Q => te σ H fun x H1 => ∃ (a C d : Addr) (fs : List (Str × V)) (v : V), x = .ref a ∧ XfC K C ∧ PySem.W.findIn K (.ref C) fld = some none ∧ H1 a = some (exo a C (some d)) ∧ H1 d = some (exd d fs) ∧ fs.lookup fld = some v ∧ Q v H1
theorem pe_errF {e : Expr} {te : TE} {fld : Str} {pos : Pos} (he : PE X e te) (hb : attributeBase e fld X.env (eval e X.env) = eval e X.env := by rfl) : PE X (.Attribute e fld pos) (tErrF X.K fld te) := by
  constructor
  intro pins s σ H Q I h
  refine attr_of hb (thn (he.run pins s σ H _ I h) ?_)
  rintro u s1 ⟨_, H1, I1, rx, a, C, d, fs, v, rfl, T, no, hE, hd, look, q⟩
  obtain rfl : u = Value.ref a := rx
  obtain ⟨t1, eo⟩ := exo_at I1.hok hE
  obtain ⟨mA, ns, rel⟩ := exd_at I1.hok hd
  obtain ⟨od, ho, hl⟩ := lookIn_ns ns
  obtain ⟨u, hu, ru⟩ := RelO.some_of (v := v) (o := mA fld) (by rw [← look]; exact rel fld)
  have J : PySem.W.InstAt s1.heap a _ C (some od) := ⟨eo, rfl, rfl, ho⟩
  exact HandSPX.exc_get I1.kIn J T.ga T.gg T.exC (PySem.W.findObj_own T.hdC no rfl (by rw [hl, hu])) (handed_of ru) ⟨v, H1, I1.tok _, ru, q⟩
def ErrAt (H : Hp) (a C : Addr) : Prop := H a = some (exo a C none) ∨ ∃ d fs, H a = some (exo a C (some d)) ∧ H d = some (exd d fs)
def rIsX (K : PySem.W.Frag) : List V → Hp → VK → Prop := fun xs H Q => ∃ (a C : Addr) (c : V) (cv : Value) (b : Bool), xs = [.ref a, c] ∧ ExcC K C ∧ ErrAt H a C ∧ (∀ u, RelV c u → u = cv) ∧ PySem.W.kitOne K (.ref C) cv = some b ∧ Q (.bl b) H
theorem call_isX : CallR X (.builtin "isinstance") (rIsX X.K) := by
  intro pins s σ H xs us Q I r h
  obtain ⟨a, C, c, cv, b, rfl, T, hE, only, kit, q⟩ := h
  obtain ⟨u1, u2, rfl, r1, r2⟩ := vals2 r
  obtain rfl : u1 = Value.ref a := r1
  have ec := only _ r2
  subst ec
  have clsC : (PySem.W.clsIn X.K C).isSome = true := by
    obtain ⟨cd, hcd, _⟩ := PySem.W.any_some T.hd
    rw [hcd]
    rfl
  have main : ∀ (ox : Obj) (od : Option Obj), PySem.W.InstAt s.heap a ox C od → wpAny (model X.prog X.w) X.A (call (.builtin "isinstance") [.ref a, u2]) (EP X pins σ Q) X.xe s := fun ox od J =>
    PySem.W.kia_one (PySem.W.kitx_exc clsC T.hg T.hk T.hs T.ha T.hn T.ht T.hm) I.kIn J kit (fun z => nomatch z) fun tk => ⟨.bl b, H, I.tok tk, rfl, q⟩
  rcases hE with hE | ⟨d, fs, hE, hd⟩
  · obtain ⟨t1, eo⟩ := exo_at I.hok hE
    exact main _ none ⟨eo, rfl, rfl, trivial⟩
  · obtain ⟨t1, eo⟩ := exo_at I.hok hE
    obtain ⟨mA, ns, rel⟩ := exd_at I.hok hd
    obtain ⟨od, ho, hl⟩ := lookIn_ns ns
    exact main _ (some od) ⟨eo, rfl, rfl, ho⟩
theorem cr_reprA : CallR X (.builtin "repr") (fun xs H Q => (∃ i, xs = [.int i] ∧ i.natAbs.log2 < 1920 ∧ Q (.str (toString i)) H) ∨ ∃ x, xs = [.str x] ∧ (reprText x).length ≤ sizeLine ∧ Q (.str (reprText x)) H) := by
  intro pins s σ H xs us Q I r h
  rcases h with ⟨i, rfl, hz, q⟩ | ⟨x, rfl, hz, q⟩
  · obtain ⟨u, rfl, t, rfl⟩ := vals1 r
    exact PySem.P.repr_of_int hz ⟨.str _, H, I.tok _, ⟨_, rfl⟩, q⟩
  · obtain ⟨u, rfl, t, rfl⟩ := vals1 r
    exact PySem.P.repr_of_str ⟨.str _, H, I.tok _, ⟨_, rfl⟩, q⟩ hz
theorem ErrAt.same {H H' : Hp} {a C : Addr} (h : ErrAt H a C) (e : Same H H') : ErrAt H' a C := by
  rcases h with h | ⟨d, fs, h1, h2⟩
  · exact .inl (e _ _ h)
  · exact .inr ⟨d, fs, e _ _ h1, e _ _ h2⟩
end
structure Kin (K : PySem.W.Frag) (cT : Addr) (cs : List Addr) (C : Addr) (bs : List Bool) : Prop where
  ex : ExcC K C
  row : Paired (fun D b => PySem.W.kitOne K (.ref C) (.ref D) = some b) cs bs
  one : (bs.filter id).length = 1
  kT : PySem.W.kitOne K (.ref C) (.ref cT) = some true
  kV : PySem.W.kitOne K (.ref C) (.type "ValueError") = some true
theorem row11 {F : Addr → Bool → Prop} {c1 c2 c3 c4 c5 c6 c7 c8 c9 c10 c11 : Addr} {bs : List Bool} (h : Paired F [c1, c2, c3, c4, c5, c6, c7, c8, c9, c10, c11] bs) :
    ∃ b1 b2 b3 b4 b5 b6 b7 b8 b9 b10 b11, bs = [b1, b2, b3, b4, b5, b6, b7, b8, b9, b10, b11] ∧ F c1 b1 ∧ F c2 b2 ∧ F c3 b3 ∧ F c4 b4 ∧ F c5 b5 ∧ F c6 b6 ∧ F c7 b7 ∧ F c8 b8 ∧ F c9 b9 ∧ F c10 b10 ∧ F c11 b11 :=
  match bs, h with
  | _, .cons h1 (.cons h2 (.cons h3 (.cons h4 (.cons h5 (.cons h6 (.cons h7 (.cons h8 (.cons h9 (.cons h10 (.cons h11 .nil)))))))))) => ⟨_, _, _, _, _, _, _, _, _, _, _, rfl, h1, h2, h3, h4, h5, h6, h7, h8, h9, h10, h11⟩
def Good (x : Str) : Prop := (reprText x).length ≤ sizeLine ∧ x.cps.all (· < 0x110000) = true
theorem dp_strs {K : PySem.W.Frag} {H : Hp} : ∀ xs : List Str, DpAll K H (xs.map V.str) (xs.map .str)
  | [] => .nil
  | x :: r => .cons (.str x) (dp_strs r)
theorem okD_strs (n : Nat) {xs : List Str} (h : ∀ x ∈ xs, Good x) : ∀ d ∈ xs.map PyData.str, okD n d := fun d hd => by
  obtain ⟨x, hx, rfl⟩ := List.mem_map.mp hd
  exact okD_str (h x hx).2
def ItemAt (H : Hp) (t C : Addr) (fld : Str) (v : V) : Prop := ∃ e d, H t = some (.tup [.ref e, v, v, .bl true]) ∧ H e = some (exo e C (some d)) ∧ H d = some (exd d [(fld, v)])
theorem ItemAt.same {H H' : Hp} {t C : Addr} {fld : Str} {v : V} (h : ItemAt H t C fld v) (s : Same H H') : ItemAt H' t C fld v := by
  obtain ⟨e, d, h1, h2, h3⟩ := h
  exact ⟨e, d, s _ _ h1, s _ _ h2, s _ _ h3⟩
end Dg
namespace Dg
open PySem PySem.Spec PyProof.Rows L2
def topS (i : Nat) : Stmt := PySem.Challenge.pw_digitsturn_k16_errors.main.body.getD i (.Pass ⟨0, 0, 0, 0⟩)
local macro_rules | `(tactic| walk_at "rd1") => `(tactic| first | refine ⟨_, rfl, ?_⟩ | refine ⟨_, _, rfl, rfl, ?_⟩)
local macro_rules | `(tactic| walk_at "rd") => `(tactic| repeat walk_at "rd1")
section
variable {P : Program} {w : World} {K : PySem.W.Frag} {mg : Str → Option Value} {base : Heap}
abbrev s_draw : Stmt := topS 15
abbrev N_draw : List Str := ["pen", "span", "digit", "turn", "cell", "mixed"]
abbrev P_draw : List Str := ["pen", "span"]
theorem sc_draw : FnScope N_draw P_draw (defScope s_draw) := ⟨rfl, rfl, rfl, by decide +kernel, rfl, by decide +kernel, by decide +kernel⟩
theorem ok_draw {f : Addr} {fd : FuncData} (F : Fun K "_law_draw" "_law_draw" s_draw f fd) (B : Bi mg) : FnOk P w K mg base CX0 1 f fd P_draw spDraw := by
  refine F.ok sc_draw (fun vs H Q E h => ?_) (fun cdv A outer s H vs Q E hr h => ?_)
  · obtain ⟨p, c, n, b, rfl, _⟩ := h
    rfl
  · obtain ⟨p, c, n, b, rfl, ⟨ns, t, l, hp⟩, hn, hn2, hb, k⟩ := h
    have hu := hu_of hr
    refine ⟨_, (pss_cons (ps_if (pt_cmpR op_gt (pe_dget hu (pv 0) pe_str (fun _ _ => rfl)) pe_int (nomark _)) 
          (pss_cons (ps_set (i := 2) sc_draw.nd rfl (.inl rfl) (pe_op op_mod (pe_callTy call_int1 (by rfl) B.b_int (by decide +kernel) (pa_cons (pe_dget hu (pv 0) pe_str (fun _ _ => rfl)) pa_nil)) (pv 1)))
          (pss_cons (ps_dput hu (pv 0) pe_str (pe_op op_fdivW (pe_dget hu (pv 0) pe_str (fun _ _ => rfl)) (pv 1)) rfl)
          (pss_one (ps_ret (pv 2))))) pss_nil)
      (pss_cons (ps_set (i := 3) sc_draw.nd rfl (.inl rfl) (pe_dget hu (pv 0) pe_str (fun _ _ => rfl)))
      (pss_cons (ps_dput hu (pv 0) pe_str (pe_op op_add (pv 3) pe_int) rfl)
      (pss_cons (ps_set (i := 4) sc_draw.nd rfl (.inl rfl) (pe_op op_add (pe_op op_mulW pe_int (pv 3)) pe_int))
      (C8.pss_cut (ps_if (pt_cmpR (op_neD hr.units) (pe_dget hu (pv 0) pe_str (fun _ _ => rfl)) (pe_lst pa_nil) (nomark _)) 
          (pss_one (ps_set (i := 4) sc_draw.nd rfl (.inl rfl) (pe_ix ix_list (pe_dget hu (pv 0) pe_str (fun _ _ => rfl)) (pe_op op_mod (pe_callTy call_int1 (by rfl) B.b_int (by decide +kernel) (pa_cons (pv 3) pa_nil)) (pe_callB call_len_seq (by rfl) B.b_len PySem.boot_len (pa_cons (pe_dget hu (pv 0) pe_str (fun _ _ => rfl)) pa_nil))) (fun _ _ => rfl)))) pss_nil)
      (C8.pss_cut (ps_if (PW.pt (pw_and (pt_cmpR op_lt (pv 3) (pe_callB call_len_seq (by rfl) B.b_len PySem.boot_len (pa_cons (pe_dget hu (pv 0) pe_str (fun _ _ => rfl)) pa_nil)) (nomark _)) (pw_and1 (pt_cmpR op_ge (pe_callB call_abs (by rfl) B.b_abs (by decide +kernel) (pa_cons (pv 4) pa_nil)) (pe_op op_pow pe_int pe_int) (nomark _))))) 
          (pss_cons (ps_dput hu (pv 0) pe_str (pe_op op_fdivW (pe_op op_sub (pe_callB call_abs (by rfl) B.b_abs (by decide +kernel) (pa_cons (pv 4) pa_nil)) (pe_op op_pow pe_int pe_int)) (pv 1)) rfl)
          (pss_one (ps_ret (pe_op op_mod (pe_callTy call_int1 (by rfl) B.b_int (by decide +kernel) (pa_cons (pe_op op_sub (pe_callB call_abs (by rfl) B.b_abs (by decide +kernel) (pa_cons (pv 4) pa_nil)) (pe_op op_pow pe_int pe_int)) pa_nil)) (pv 1))))) pss_nil)
      (pss_cons (ps_set (i := 5) sc_draw.nd rfl (.inl rfl) (pe_op op_mulW (pe_op op_mod (pe_callTy call_int1 (by rfl) B.b_int (by decide +kernel) (pa_cons (pv 4) pa_nil)) pe_int) pe_int))
      (pss_cons (ps_set (i := 5) sc_draw.nd rfl (.inl rfl) (pe_op op_mod (pe_callTy call_int1 (by rfl) B.b_int (by decide +kernel) (pa_cons (pe_op op_add (pe_op op_add (pv 5) (pe_op op_mulW (pv 3) (pe_op op_add (pe_op op_mulW (pv 3) pe_int) pe_int))) pe_int) pa_nil)) pe_int))
      (pss_cons (ps_set (i := 5) sc_draw.nd rfl (.inl rfl) (pe_op op_mod (pe_callTy call_int1 (by rfl) B.b_int (by decide +kernel) (pa_cons (pe_op op_mulW (pv 5) (pe_op op_add (pv 5) pe_int)) pa_nil)) pe_int))
      (pss_cons (ps_set (i := 5) sc_draw.nd rfl (.inl rfl) (pe_op op_mod (pe_callTy call_int1 (by rfl) B.b_int (by decide +kernel) (pa_cons (pe_op op_add (pe_op op_add (pe_op op_mulW (pv 5) (pv 5)) (pe_op op_mulW pe_int (pv 5))) (pe_op op_mulW pe_int (pv 3))) pa_nil)) pe_int))
      (pss_one (ps_ret (pe_op op_mod (pe_callTy call_int1 (by rfl) B.b_int (by decide +kernel) (pa_cons (pe_op op_fdivW (pe_op op_mod (pe_callTy call_int1 (by rfl) B.b_int (by decide +kernel) (pa_cons (pe_op op_mulW (pv 5) (pe_op op_add (pv 5) pe_int)) pa_nil)) pe_int) pe_int) pa_nil)) (pv 1)))))))))))))), ?_⟩
    have hd : CDivW 0 n := wide_div (b := 300) hn (by omega) (by decide) (by decide)
    have hdn : ∀ i, CDivW i n := fun _ => hd
    have ht0 := hp.t0
    have htb := hp.tb
    refine ⟨_, rfl, p, _, rfl, hp.get_left, _, _, rfl, rfl, _, rfl, ?_⟩
    refine ite2 (fun hl => ?_) (fun hl => ?_)
    · -- digit = int(pen['left']) % span; pen['left'] = pen['left'] // span; return digit
      refine ⟨_, rfl, p, _, rfl, hp.get_left, .inl ⟨_, rfl, ?_⟩⟩
      walk_at "rd"
      refine ⟨hn, ?_⟩
      refine ⟨_, rfl, p, _, rfl, hp.get_left, _, rfl, _, _, rfl, rfl, hd, _, rfl, p, _, rfl, hp.put_left _, _, rfl, ?_⟩
      exact k _ _ (Int.emod_nonneg _ (by omega)) (Int.emod_lt_of_pos _ hn) ⟨ns, t, _, hp.upd hp.t0 (by omega) (Int.ediv_nonneg hp.l0 (by omega))⟩ sameB_upd
    · -- turn = pen['turn']; pen['turn'] = turn + 1
      have hp2 := hp.upd (u := t + 1) (v := l) (b' := b + 1) (by omega) (by omega) hp.l0
      have s2 : SameB p H (upd H p (.dK (penL c (t + 1) l))) := sameB_upd
      generalize hH2 : upd H p (.dK (penL c (t + 1) l)) = H2 at hp2 s2
      refine ⟨_, rfl, p, _, rfl, hp.get_turn, _, rfl, _, _, rfl, rfl, _, rfl, p, H2, rfl, by rw [← hH2]; exact hp.put_turn _, ?_⟩
      refine ⟨_, rfl, _, _, rfl, rfl, wide_mul (a := 7) (b := 61) (by decide) (by omega) (by decide) (by decide) (by decide), _, _, rfl, rfl, ?_⟩
      refine ⟨fun σ' H' => ∃ x : Int, σ' = [some (.ref p), some (.int n), none, some (.int t), some (.int x), none] ∧ SameB p H H' ∧ PenAt H' p c ns (t + 1) l (b + 1), ?_, ?_⟩
      · refine ⟨_, rfl, p, _, rfl, hp2.get_cells, Nat.zero_le _, fun e ne => ?_⟩
        have s3 : Same H2 (upd H2 e (.lst [])) := same_new ne
        have hp3 := hp2.same s3
        refine ⟨.list (ns.map .int), .list [], .lst (.inl (.inl hp3.cs)) (dp_ints _), .lst (.inl (.inl upd_same)) .nil, shaped_ints _, rfl, _, rfl, ?_⟩
        refine ite2 (fun hc => ?_) (fun hc => ?_)
        · rw [eqv_nil] at hc
          have hne : 0 < ns.length := by
            cases ns with
            | nil => exact absurd hc (by decide)
            | cons x r => exact Nat.succ_pos _
          refine ⟨_, rfl, p, _, rfl, hp3.get_cells, _, rfl, .inl ⟨_, rfl, ?_⟩⟩
          refine ⟨_, rfl, p, _, rfl, hp3.get_cells, c, _, rfl, .inl (.inl (.inl hp3.cs)), _, _, rfl, rfl, by rw [List.length_map]; omega, ?_⟩
          have hlt : (t % ((ns.length : Nat) : Int)).toNat < ns.length := by
            have h1 := Int.emod_nonneg t (b := (ns.length : Int)) (by omega)
            have h2 := Int.emod_lt_of_pos t (b := (ns.length : Int)) (by omega)
            omega
          refine ⟨c, _, _, .int (ns[(t % ((ns.length : Nat) : Int)).toNat]'hlt), rfl, rfl, .inl (.inl hp3.cs), ?_, ?_⟩
          · rw [List.length_map]
            refine at_of (j := (t % ((ns.length : Nat) : Int)).toNat) ?_ ?_
            · have h1 := Int.emod_nonneg t (b := (ns.length : Int)) (by omega)
              omega
            · rw [List.getElem?_map, List.getElem?_eq_getElem hlt]
              rfl
          · exact ⟨_, rfl, s2.trans (SameB.of s3), hp3⟩
        · exact ⟨_, rfl, s2.trans (SameB.of s3), hp3⟩
      · rintro σ' H' ⟨x, rfl, s4, hp4⟩
        clear s2 hp2 hH2
        have habs : (0 : Int) ≤ (if x < 0 then -x else x) := by split <;> omega
        generalize hax : (if x < 0 then -x else x) = ax at habs
        refine ⟨fun σ' H'' => σ' = [some (.ref p), some (.int n), none, some (.int t), some (.int x), none] ∧ H'' = H', ?_, ?_⟩
        · refine ⟨_, rfl, _, rfl, p, _, rfl, hp4.get_cells, c, _, rfl, .inl (.inl (.inl hp4.cs)), _, _, rfl, rfl, _, rfl, ?_⟩
          refine ite2 (fun hc => ?_) (fun hc => ?_)
          · refine ⟨_, rfl, _, rfl, _, _, rfl, rfl, ⟨by decide, by decide, by decide⟩, _, _, rfl, rfl, _, rfl, ?_⟩
            rw [hax]
            refine ite2 (fun h18 => ?_) (fun h18 => ?_)
            · have h18' := of_decide_eq_true h18
              refine ⟨_, rfl, _, rfl, _, _, rfl, rfl, ⟨by decide, by decide, by decide⟩, _, _, rfl, rfl, _, rfl, _, _, rfl, rfl, hdn _, _, rfl, p, _, rfl, hp4.put_left _, ?_⟩
              refine ⟨_, rfl, _, rfl, _, _, rfl, rfl, ⟨by decide, by decide, by decide⟩, _, _, rfl, rfl, .inl ⟨_, rfl, ?_⟩⟩
              refine ⟨_, rfl, _, _, rfl, rfl, hn, ?_⟩
              rw [hax]
              exact k _ _ (Int.emod_nonneg _ (by omega)) (Int.emod_lt_of_pos _ hn) ⟨ns, _, _, hp4.upd hp4.t0 hp4.tb (Int.ediv_nonneg (by omega) (by omega))⟩ (s4.trans sameB_upd)
            · exact ⟨rfl, rfl⟩
          · exact iteF ⟨rfl, rfl⟩
        · rintro σ' H'' ⟨rfl, rfl⟩
          refine ⟨_, rfl, .inl ⟨_, rfl, _, _, rfl, rfl, (by show (0 : Int) < 4294967087; decide), ?_⟩⟩
          have m1 := Int.emod_nonneg x (b := 4294967087) (by decide)
          have m2 := Int.emod_lt_of_pos x (b := 4294967087) (by decide)
          generalize x % 4294967087 = y at m1 m2
          refine ⟨_, _, rfl, rfl, wide_mul (a := 40) (b := 40) (by omega) (by decide) (by decide) (by decide) (by decide), ?_⟩
          refine ⟨_, rfl, _, rfl, _, rfl, _, _, rfl, rfl, wide_mul (a := 61) (b := 40) (by omega) (by decide) (by decide) (by decide) (by decide), ?_⟩
          have q1 : (t * 27919 + 10601).natAbs < 2 ^ 80 := by omega
          refine ⟨_, _, rfl, rfl, _, _, rfl, rfl, wide_mul (a := 61) (b := 80) (by omega) q1 (by decide) (by decide) (by decide), ?_⟩
          refine ⟨_, _, rfl, rfl, _, _, rfl, rfl, .inl ⟨_, rfl, _, _, rfl, rfl, (by show (0 : Int) < 4294967029; decide), ?_⟩⟩
          have n1 := Int.emod_nonneg (y * 48611 + t * (t * 27919 + 10601) + 41) (b := 4294967029) (by decide)
          have n2 := Int.emod_lt_of_pos (y * 48611 + t * (t * 27919 + 10601) + 41) (b := 4294967029) (by decide)
          generalize (y * 48611 + t * (t * 27919 + 10601) + 41) % 4294967029 = z at n1 n2
          refine ⟨_, rfl, _, rfl, _, _, rfl, rfl, _, _, rfl, rfl, wide_mul (a := 40) (b := 40) (by omega) (by omega) (by decide) (by decide) (by decide), .inl ⟨_, rfl, _, _, rfl, rfl, (by show (0 : Int) < 4294966997; decide), ?_⟩⟩
          have o1 := Int.emod_nonneg (z * (z + 75013)) (b := 4294966997) (by decide)
          have o2 := Int.emod_lt_of_pos (z * (z + 75013)) (b := 4294966997) (by decide)
          generalize (z * (z + 75013)) % 4294966997 = u at o1 o2
          refine ⟨_, rfl, _, rfl, _, _, rfl, rfl, wide_mul (a := 40) (b := 40) (by omega) (by omega) (by decide) (by decide) (by decide), ?_⟩
          refine ⟨_, rfl, _, _, rfl, rfl, wide_mul (a := 40) (b := 40) (by decide) (by omega) (by decide) (by decide) (by decide), _, _, rfl, rfl, ?_⟩
          refine ⟨_, rfl, _, _, rfl, rfl, wide_mul (a := 40) (b := 61) (by decide) (by omega) (by decide) (by decide) (by decide), _, _, rfl, rfl, .inl ⟨_, rfl, _, _, rfl, rfl, (by show (0 : Int) < 4294966981; decide), ?_⟩⟩
          have v1 := Int.emod_nonneg (u * u + 30427 * u + 19 * t) (b := 4294966981) (by decide)
          have v2 := Int.emod_lt_of_pos (u * u + 30427 * u + 19 * t) (b := 4294966981) (by decide)
          generalize (u * u + 30427 * u + 19 * t) % 4294966981 = w1 at v1 v2
          refine ⟨_, rfl, _, rfl, _, _, rfl, rfl, _, _, rfl, rfl, wide_mul (a := 40) (b := 40) (by omega) (by omega) (by decide) (by decide) (by decide), .inl ⟨_, rfl, _, _, rfl, rfl, (by show (0 : Int) < 4294966943; decide), ?_⟩⟩
          refine ⟨_, _, rfl, rfl, wide_div (b := 7) (by decide) (by decide) (by decide) (by decide), .inl ⟨_, rfl, _, rfl, _, _, rfl, rfl, hn, ?_⟩⟩
          exact k _ _ (Int.emod_nonneg _ (by omega)) (Int.emod_lt_of_pos _ hn) ⟨ns, _, _, hp4⟩ s4
abbrev s_begun_pen : Stmt := topS 14
abbrev N_begun_pen : List Str := ["script"]
abbrev P_begun_pen : List Str := ["script"]
theorem sc_begun_pen : FnScope N_begun_pen P_begun_pen (defScope s_begun_pen) := ⟨rfl, rfl, rfl, by decide +kernel, rfl, by decide +kernel, by decide +kernel⟩
def spBegun (K : PySem.W.Frag) : Sp := fun vs H Q _ => ∃ (a : Addr) (ns : List Int), vs = [.ref a] ∧ SqL K H a (ns.map V.int) ∧ ns.length ≤ 63 ∧ ∀ H' p, Same H H' → H p = none → ∀ c, Pen H' p c 0 → Q (.ref p) H'
theorem ok_begun {f : Addr} {fd : FuncData} (F : Fun K "_law_begun_pen" "_law_begun_pen" s_begun_pen f fd) (B : Bi mg) : FnOk P w K mg base CX0 1 f fd P_begun_pen (spBegun K) := by
  refine F.ok sc_begun_pen (fun vs H Q E h => ?_) (fun cdv A outer s H vs Q E hr h => ?_)
  · obtain ⟨a, ns, rfl, _⟩ := h
    rfl
  · obtain ⟨a, ns, rfl, ha, h63, q⟩ := h
    refine ⟨_, (pss_one (ps_ret (pe_disp (pps_cons pe_str (pe_callTy call_list_of (by rfl) B.b_list (by decide +kernel) (pa_cons (pe_slice sl_list (pv 0) po_none (po_some pe_int)) pa_nil)) (pps_cons pe_str pe_int (pps_cons pe_str pe_int pps_nil))) (by rfl) (by rfl) (fun z => by cases z) (by decide)))), ?_⟩
    intro p np
    have s1 : Same H (upd H p (.dK [])) := same_new np
    refine ⟨_, rfl, 63, rfl, a, _, rfl, s1.seq ha, fun c nc => ?_⟩
    have s2 : Same (upd H p (.dK [])) (upd (upd H p (.dK [])) c (.lst (cutV (ns.map V.int) none (some 63)))) := same_new nc
    refine ⟨c, _, rfl, .inl (sqL upd_same), fun d nd => ?_⟩
    have s3 := same_new (o := .lst (cutV (ns.map V.int) none (some 63))) nd
    have hp := s3 _ _ (s2 _ _ (upd_same (H := H) (a := p) (o := .dK [])))
    refine ⟨hp, penL d 0 0, rfl, by show 3 ≤ 15; decide, ?_⟩
    have hne : d ≠ p := fun z => by
      subst z
      rw [s2 _ _ (upd_same (H := H) (a := d) (o := .dK []))] at nd
      cases nd
    refine q _ p (fun b o hb => ?_) np d ⟨ns, 0, 0, ?_, ?_, Int.le_refl _, Int.le_refl _, Int.le_refl _, h63⟩
    · rw [upd_ne (ne_of_none hb np)]
      exact s3 _ _ (s2 _ _ (s1 _ _ hb))
    · rw [upd_same]
      rfl
    · rw [upd_ne hne, upd_same, show (63 : Int) = ((63 : Nat) : Int) from rfl, cut_to, List.take_of_length_le (by rw [List.length_map]; exact h63)]
abbrev s_pick : Stmt := topS 16
abbrev N_pick : List Str := ["pen", "options"]
abbrev P_pick : List Str := ["pen", "options"]
theorem sc_pick : FnScope N_pick P_pick (defScope s_pick) := ⟨rfl, rfl, rfl, by decide +kernel, rfl, by decide +kernel, by decide +kernel⟩
def spPick : Sp := fun vs H Q _ => ∃ (p o c : Addr) (b : Int) (xs : List V), vs = [.ref p, .ref o] ∧ H o = some (.lst xs) ∧ Pen H p c b ∧ 0 < xs.length ∧ xs.length ≤ 1000 ∧ b < 2 ^ 60 ∧
  ∀ (r : Nat) x H', xs[r]? = some x → Pen H' p c (b + 1) → SameB p H H' → Q x H'
theorem ok_pick {f : Addr} {fd : FuncData} (F : Fun K "_law_pick" "_law_pick" s_pick f fd) (B : Bi mg) (C_draw : Cal P w K mg base CX0 1 "_law_draw" P_draw spDraw) : FnOk P w K mg base CX0 2 f fd P_pick spPick := by
  refine F.ok sc_pick (fun vs H Q E h => ?_) (fun cdv A outer s H vs Q E hr h => ?_)
  · obtain ⟨p, o, c, b, xs, rfl, _⟩ := h
    rfl
  · obtain ⟨p, o, c, b, xs, rfl, ho, hp, x0, x1000, hb, q⟩ := h
    refine ⟨_, (pss_one (ps_ret (pe_ix ix_list (pv 1) (pe_cal C_draw (hr.mono (by decide)) (by rfl) pass0 (pa_cons (pv 0) (pa_cons (pe_callB call_len_seq (by rfl) B.b_len PySem.boot_len (pa_cons (pv 1) pa_nil)) pa_nil))) (fun _ _ => rfl)))), ?_⟩
    refine ⟨_, rfl, _, rfl, _, rfl, o, _, rfl, .inl (sqL ho), p, c, xs.length, b, rfl, hp, by omega, by omega, by omega, fun r H1 r0 r1 p1 s1 => ?_⟩
    have hlt : r.toNat < xs.length := by omega
    refine ⟨o, xs, r, xs[r.toNat], rfl, rfl, sqL (s1.lst hp ho), at_of (j := r.toNat) (by omega) (List.getElem?_eq_getElem hlt), ?_⟩
    exact q r.toNat _ H1 (List.getElem?_eq_getElem hlt) p1 s1
abbrev s_BadPlan___init : Stmt := inClass (topS 9) 0
abbrev N_BadPlan___init : List Str := ["self", "line"]
abbrev P_BadPlan___init : List Str := ["self", "line"]
theorem sc_BadPlan___init : FnScope N_BadPlan___init P_BadPlan___init (defScope s_BadPlan___init) := ⟨rfl, rfl, rfl, by decide +kernel, rfl, by decide +kernel, by decide +kernel⟩
theorem ok_init_BadPlan {f C : Addr} {fd : FuncData} (F : Fun K "__init__" "BadPlan.__init__" s_BadPlan___init f fd) (T : OexC K C) (no : PySem.W.findIn K (.ref C) "line" = some none) : FnOk P w K mg base CX0 1 f fd ["self", "line"] (spFld C "line") := by
  refine F.ok sc_BadPlan___init (fun vs H Q E h => ?_) (fun cdv A outer s H vs Q E hr h => ?_)
  · obtain ⟨a, v, rfl, _⟩ := h
    rfl
  · obtain ⟨a, v, rfl, ha, q⟩ := h
    refine ⟨_, pss_one (ps_ost (pv 0) (pv 1)), ?_⟩
    exact ⟨_, rfl, _, rfl, a, C, rfl, T, no, .inl ⟨ha, fun dx nd ne => q dx nd ne⟩⟩
abbrev s_BadValues___init : Stmt := inClass (topS 6) 0
abbrev N_BadValues___init : List Str := ["self", "index"]
abbrev P_BadValues___init : List Str := ["self", "index"]
theorem sc_BadValues___init : FnScope N_BadValues___init P_BadValues___init (defScope s_BadValues___init) := ⟨rfl, rfl, rfl, by decide +kernel, rfl, by decide +kernel, by decide +kernel⟩
theorem ok_init_BadValues {f C : Addr} {fd : FuncData} (F : Fun K "__init__" "BadValues.__init__" s_BadValues___init f fd) (T : OexC K C) (no : PySem.W.findIn K (.ref C) "index" = some none) : FnOk P w K mg base CX0 1 f fd ["self", "index"] (spFld C "index") := by
  refine F.ok sc_BadValues___init (fun vs H Q E h => ?_) (fun cdv A outer s H vs Q E hr h => ?_)
  · obtain ⟨a, v, rfl, _⟩ := h
    rfl
  · obtain ⟨a, v, rfl, ha, q⟩ := h
    refine ⟨_, pss_one (ps_ost (pv 0) (pv 1)), ?_⟩
    exact ⟨_, rfl, _, rfl, a, C, rfl, T, no, .inl ⟨ha, fun dx nd ne => q dx nd ne⟩⟩
abbrev s_BadWorld___init : Stmt := inClass (topS 2) 0
abbrev N_BadWorld___init : List Str := ["self", "line"]
abbrev P_BadWorld___init : List Str := ["self", "line"]
theorem sc_BadWorld___init : FnScope N_BadWorld___init P_BadWorld___init (defScope s_BadWorld___init) := ⟨rfl, rfl, rfl, by decide +kernel, rfl, by decide +kernel, by decide +kernel⟩
theorem ok_init_BadWorld {f C : Addr} {fd : FuncData} (F : Fun K "__init__" "BadWorld.__init__" s_BadWorld___init f fd) (T : OexC K C) (no : PySem.W.findIn K (.ref C) "line" = some none) : FnOk P w K mg base CX0 1 f fd ["self", "line"] (spFld C "line") := by
  refine F.ok sc_BadWorld___init (fun vs H Q E h => ?_) (fun cdv A outer s H vs Q E hr h => ?_)
  · obtain ⟨a, v, rfl, _⟩ := h
    rfl
  · obtain ⟨a, v, rfl, ha, q⟩ := h
    refine ⟨_, pss_one (ps_ost (pv 0) (pv 1)), ?_⟩
    exact ⟨_, rfl, _, rfl, a, C, rfl, T, no, .inl ⟨ha, fun dx nd ne => q dx nd ne⟩⟩
abbrev s_NoActor___init : Stmt := inClass (topS 7) 0
abbrev N_NoActor___init : List Str := ["self", "name"]
abbrev P_NoActor___init : List Str := ["self", "name"]
theorem sc_NoActor___init : FnScope N_NoActor___init P_NoActor___init (defScope s_NoActor___init) := ⟨rfl, rfl, rfl, by decide +kernel, rfl, by decide +kernel, by decide +kernel⟩
theorem ok_init_NoActor {f C : Addr} {fd : FuncData} (F : Fun K "__init__" "NoActor.__init__" s_NoActor___init f fd) (T : OexC K C) (no : PySem.W.findIn K (.ref C) "name" = some none) : FnOk P w K mg base CX0 1 f fd ["self", "name"] (spFld C "name") := by
  refine F.ok sc_NoActor___init (fun vs H Q E h => ?_) (fun cdv A outer s H vs Q E hr h => ?_)
  · obtain ⟨a, v, rfl, _⟩ := h
    rfl
  · obtain ⟨a, v, rfl, ha, q⟩ := h
    refine ⟨_, pss_one (ps_ost (pv 0) (pv 1)), ?_⟩
    exact ⟨_, rfl, _, rfl, a, C, rfl, T, no, .inl ⟨ha, fun dx nd ne => q dx nd ne⟩⟩
abbrev s_NoReading___init : Stmt := inClass (topS 4) 0
abbrev N_NoReading___init : List Str := ["self", "name"]
abbrev P_NoReading___init : List Str := ["self", "name"]
theorem sc_NoReading___init : FnScope N_NoReading___init P_NoReading___init (defScope s_NoReading___init) := ⟨rfl, rfl, rfl, by decide +kernel, rfl, by decide +kernel, by decide +kernel⟩
theorem ok_init_NoReading {f C : Addr} {fd : FuncData} (F : Fun K "__init__" "NoReading.__init__" s_NoReading___init f fd) (T : OexC K C) (no : PySem.W.findIn K (.ref C) "name" = some none) : FnOk P w K mg base CX0 1 f fd ["self", "name"] (spFld C "name") := by
  refine F.ok sc_NoReading___init (fun vs H Q E h => ?_) (fun cdv A outer s H vs Q E hr h => ?_)
  · obtain ⟨a, v, rfl, _⟩ := h
    rfl
  · obtain ⟨a, v, rfl, ha, q⟩ := h
    refine ⟨_, pss_one (ps_ost (pv 0) (pv 1)), ?_⟩
    exact ⟨_, rfl, _, rfl, a, C, rfl, T, no, .inl ⟨ha, fun dx nd ne => q dx nd ne⟩⟩
abbrev s_NoRegister___init : Stmt := inClass (topS 11) 0
abbrev N_NoRegister___init : List Str := ["self", "name"]
abbrev P_NoRegister___init : List Str := ["self", "name"]
theorem sc_NoRegister___init : FnScope N_NoRegister___init P_NoRegister___init (defScope s_NoRegister___init) := ⟨rfl, rfl, rfl, by decide +kernel, rfl, by decide +kernel, by decide +kernel⟩
theorem ok_init_NoRegister {f C : Addr} {fd : FuncData} (F : Fun K "__init__" "NoRegister.__init__" s_NoRegister___init f fd) (T : OexC K C) (no : PySem.W.findIn K (.ref C) "name" = some none) : FnOk P w K mg base CX0 1 f fd ["self", "name"] (spFld C "name") := by
  refine F.ok sc_NoRegister___init (fun vs H Q E h => ?_) (fun cdv A outer s H vs Q E hr h => ?_)
  · obtain ⟨a, v, rfl, _⟩ := h
    rfl
  · obtain ⟨a, v, rfl, ha, q⟩ := h
    refine ⟨_, pss_one (ps_ost (pv 0) (pv 1)), ?_⟩
    exact ⟨_, rfl, _, rfl, a, C, rfl, T, no, .inl ⟨ha, fun dx nd ne => q dx nd ne⟩⟩
end
end Dg
namespace Dg
open PySem PySem.Spec PyProof.Rows L2
local macro_rules | `(tactic| walk_at "rd1") => `(tactic| first | refine ⟨_, rfl, ?_⟩ | refine ⟨_, _, rfl, rfl, ?_⟩)
local macro_rules | `(tactic| walk_at "rd") => `(tactic| repeat walk_at "rd1")
section
variable {P : Program} {w : World} {K : PySem.W.Frag} {mg : Str → Option Value} {base : Heap}
abbrev s_shuffled : Stmt := topS 17
abbrev N_shuffled : List Str := ["pen", "items", "rest", "found"]
abbrev P_shuffled : List Str := ["pen", "items"]
theorem sc_shuffled : FnScope N_shuffled P_shuffled (defScope s_shuffled) := ⟨rfl, rfl, rfl, by decide +kernel, rfl, by decide +kernel, by decide +kernel⟩
def spShuffled : Sp := fun vs H Q _ => ∃ (p o c : Addr) (b : Int) (xs : List Str), vs = [.ref p, .ref o] ∧ H o = some (.lst (xs.map V.str)) ∧ Pen H p c b ∧ xs.length ≤ 60 ∧ (∀ x ∈ xs, Good x) ∧ b < 2 ^ 59 ∧
  ∀ H' L (ys : List Str), SameB p H H' → Pen H' p c (b + xs.length) → H' L = some (.lst (ys.map V.str)) → ys.length = xs.length → (∀ x ∈ ys, Good x) → Q (.ref L) H'
theorem erase_map {α β : Type} (g : α → β) : ∀ (l : List α) (i : Nat), (l.map g).eraseIdx i = (l.eraseIdx i).map g
  | [], _ => rfl
  | _ :: _, 0 => rfl
  | _ :: r, i + 1 => congrArg (_ :: ·) (erase_map g r i)
theorem ok_shuffled {f : Addr} {fd : FuncData} (F : Fun K "_law_shuffled" "_law_shuffled" s_shuffled f fd) (B : Bi mg) (C_draw : Cal P w K mg base CX0 1 "_law_draw" P_draw spDraw) : FnOk P w K mg base CX0 2 f fd P_shuffled spShuffled := by
  refine F.ok sc_shuffled (fun vs H Q E h => ?_) (fun cdv A outer s H vs Q E hr h => ?_)
  · obtain ⟨p, o, c, b, xs, rfl, _⟩ := h
    rfl
  · obtain ⟨p, o, c, b, xs, rfl, ho, hp, h60, good, hb, q⟩ := h
    refine ⟨_, (pss_cons (ps_par (i := 2) (j := 3) (by rfl) sc_shuffled.nd rfl rfl (by decide) rfl rfl (pa_cons (pe_callTy call_list_of (by rfl) B.b_list (by decide +kernel) (pa_cons (pv 1) pa_nil)) (pa_cons (pe_lst pa_nil) pa_nil)) (by rfl))
      (C8.pss_cut (ps_while PassesOwn.never (pt_cmpR (op_neD hr.units) (pv 2) (pe_lst pa_nil) (nomark _)) 
          (pss_one (ps_expr (pe_bm PySem.F.plainAttrs_list PySem.F.slot_list_append PySem.F.type_list_append mt_append (pv 3) (pa_cons (pe_bm PySem.F.plainAttrs_list PySem.F.slot_list_pop PySem.F.type_list_pop mt_popAt (pv 2) (pa_cons (pe_cal C_draw (hr.mono (by decide)) (by rfl) pass0 (pa_cons (pv 0) (pa_cons (pe_callB call_len_seq (by rfl) B.b_len PySem.boot_len (pa_cons (pv 2) pa_nil)) pa_nil))) pa_nil)) pa_nil)))))
      (pss_one (ps_ret (pv 3))))), ?_⟩
    refine ⟨_, rfl, o, _, rfl, .inl (sqL ho), fun R nR => ?_⟩
    have s1 := same_new (o := .lst (xs.map V.str)) nR
    refine ⟨Nat.zero_le _, fun L nL => ?_⟩
    have s2 := same_new (o := .lst []) nL
    have nL0 := s1.free nL
    have hRL : R ≠ L := ne_of_none upd_same nL
    have hp2 := hp.same (s1.trans s2)
    have hR2 := s2 _ _ (upd_same (H := H) (a := R) (o := .lst (xs.map V.str)))
    have hL2 : upd (upd H R (.lst (xs.map V.str))) L (.lst []) L = some (.lst []) := upd_same
    have s12 := SameB.of (p := p) (s1.trans s2)
    obtain ⟨Rp, Rc⟩ := hp.fresh nR
    obtain ⟨Lp, Lc⟩ := hp.fresh nL0
    generalize upd (upd H R (.lst (xs.map V.str))) L (.lst []) = H2 at hp2 hR2 hL2 s12
    refine ⟨_, _, rfl, ?_⟩
    refine ⟨fun σ' H' => ∃ (ys : List Str), σ' = [some (.ref p), some (.ref o), some (.ref R), some (.ref L)] ∧ SameB p H H' ∧ Pen H' p c (b + xs.length) ∧ H' L = some (.lst (ys.map V.str)) ∧ ys.length = xs.length ∧ ∀ x ∈ ys, Good x, ?_, ?_⟩
    · refine ⟨fun mm σ' H' => ∃ (rs ys : List Str), σ' = [some (.ref p), some (.ref o), some (.ref R), some (.ref L)] ∧ SameB p H H' ∧ Pen H' p c (b + ys.length) ∧ H' R = some (.lst (rs.map V.str)) ∧ H' L = some (.lst (ys.map V.str)) ∧ rs.length + ys.length = xs.length ∧ (∀ x ∈ rs, Good x) ∧ (∀ x ∈ ys, Good x) ∧ mm = rs.length, ⟨_, xs, [], rfl, s12, by simpa using hp2, hR2, hL2, rfl, good, fun x hx => (by cases hx), rfl⟩, ?_⟩
      rintro mm σ' H3 ⟨rs, ys, rfl, s3, p3, hR3, hL3, hl, gr, gy, rfl⟩
      refine ⟨_, rfl, Nat.zero_le _, fun D nD => ?_⟩
      have s4 := same_new (o := .lst []) nD
      refine ⟨.list (rs.map .str), .list [], .lst (sqL (s4 _ _ hR3)) (dp_strs rs), .lst (sqL upd_same) .nil, okD_shaped (okD_list (okD_strs 0 gr)) (by decide), rfl, _, rfl, ?_⟩
      rw [eqv_nil]
      have s34 := s3.trans (SameB.of s4)
      have p4 := p3.same s4
      have hR4 := s4 _ _ hR3
      have hL4 := s4 _ _ hL3
      generalize upd H3 D (.lst []) = H4 at s34 p4 hR4 hL4
      cases rs with
      | nil =>
        refine iteF ?_
        have hl' : ys.length = xs.length := by simpa using hl
        exact ⟨ys, rfl, s34, by rw [← hl']; exact p4, hL4, hl', gy⟩
      | cons r0 rs0 =>
        refine iteT ?_
        refine ⟨fun σ' H' => ∃ (rs' ys' : List Str), σ' = [some (.ref p), some (.ref o), some (.ref R), some (.ref L)] ∧ SameB p H H' ∧ Pen H' p c (b + ys'.length) ∧ H' R = some (.lst (rs'.map V.str)) ∧ H' L = some (.lst (ys'.map V.str)) ∧ rs'.length + ys'.length = xs.length ∧ (∀ x ∈ rs', Good x) ∧ (∀ x ∈ ys', Good x) ∧ rs'.length < (r0 :: rs0).length, ?_, ?_⟩
        · rintro σ' H' ⟨rs', ys', rfl, z1, z2, z3, z4, z5, z6, z7, z8⟩
          exact ⟨_, z8, rs', ys', rfl, z1, z2, z3, z4, z5, z6, z7, rfl⟩
        have hlr : (r0 :: rs0).length ≤ 60 := by omega
        generalize hrs : r0 :: rs0 = rs at hR4 hl gr hlr
        have hpos : 0 < rs.length := by
          rw [← hrs]
          exact Nat.zero_lt_succ _
        refine ⟨_, rfl, .inl ⟨rfl, _, sqL hL4⟩, _, rfl, .inl ⟨rfl, _, sqL hR4⟩, _, rfl, _, rfl, R, _, rfl, .inl (sqL hR4), p, c, _, b + ys.length, rfl, p4, ?_, ?_, by omega, fun r H5 r0' r1' p5 s5 => ?_⟩
        · rw [List.length_map]
          omega
        · rw [List.length_map]
          omega
        rw [List.length_map] at r1'
        have hlt : r.toNat < rs.length := by omega
        have hR5 := s5.lst p4 hR4
        have hL5 := s5.lst p4 hL4
        refine ⟨R, rs.map V.str, r, r.toNat, .str rs[r.toNat], rfl, rfl, hR5, by omega, by omega, ?_, ?_, ?_⟩
        · rw [List.length_map]
          exact (ixN_seq (ix_of r0' (by omega))).1
        · rw [List.getElem?_map, List.getElem?_eq_getElem hlt]
          rfl
        refine ⟨L, ys.map V.str, _, rfl, rfl, ?_, by rw [List.length_map]; exact small1000 (by omega), ?_⟩
        · rw [upd_ne (Ne.symm hRL)]
          exact hL5
        have hmem := gr _ (List.getElem_mem hlt)
        refine ⟨rs.eraseIdx r.toNat, ys ++ [rs[r.toNat]], rfl, ((s34.trans s5).upd nR).upd nL0, ((p5.upd Rp Rc).upd Lp Lc).mono (by rw [List.length_append]; show b + (ys.length : Int) + 1 ≤ b + ((ys.length + 1 : Nat) : Int); omega), ?_, ?_, ?_, fun x hx => gr x (List.mem_of_mem_eraseIdx hx), fun x hx => ?_, ?_⟩
        · rw [upd_ne hRL, upd_same, erase_map]
        · rw [upd_same, List.map_append]
          rfl
        · rw [List.length_append, List.length_eraseIdx_of_lt hlt]
          show rs.length - 1 + (ys.length + 1) = _
          omega
        · rcases List.mem_append.mp hx with z | z
          · exact gy x z
          · have : x = rs[r.toNat] := by simpa using z
            rw [this]
            exact hmem
        · rw [List.length_eraseIdx_of_lt hlt]
          omega
    rintro σ' H3 ⟨ys, rfl, s3, p3, hL3, hl, gy⟩
    exact ⟨_, rfl, q H3 L ys s3 p3 hL3 hl gy⟩
abbrev s_new_names : Stmt := topS 18
abbrev N_new_names : List Str := ["pen", "many", "found"]
abbrev P_new_names : List Str := ["pen", "many"]
theorem sc_new_names : FnScope N_new_names P_new_names (defScope s_new_names) := ⟨rfl, rfl, rfl, by decide +kernel, rfl, by decide +kernel, by decide +kernel⟩
def goodV (v : V) : Bool := match v with
  | .str x => decide ((reprText x).length ≤ sizeLine) && x.cps.all (· < 0x110000)
  | _ => false
theorem strs_of : ∀ l : List V, l.all goodV = true → ∃ xs : List Str, l = xs.map V.str ∧ ∀ x ∈ xs, Good x
  | [], _ => ⟨[], rfl, fun x hx => (by cases hx)⟩
  | v :: r, h => by
    rw [List.all_cons, Bool.and_eq_true] at h
    obtain ⟨xs, rfl, g⟩ := strs_of r h.2
    have h1 := h.1
    unfold goodV at h1
    split at h1
    · rename_i x
      rw [Bool.and_eq_true] at h1
      exact ⟨x :: xs, rfl, fun y hy => (List.mem_cons.mp hy).elim (fun z => z ▸ ⟨of_decide_eq_true h1.1, h1.2⟩) (g y)⟩
    · cases h1
def spNames : Sp := fun vs H Q _ => ∃ (p c : Addr) (b : Int), vs = [.ref p, .int 2] ∧ Pen H p c b ∧ b < 2 ^ 58 ∧
  ∀ H' L (x y : Str), SameB p H H' → Pen H' p c (b + 20) → H' L = some (.lst [.str x, .str y]) → Good x → Good y → Q (.ref L) H'
theorem ok_names {f : Addr} {fd : FuncData} (F : Fun K "_law_new_names" "_law_new_names" s_new_names f fd) (B : Bi mg) (C_shuffled : Cal P w K mg base CX0 2 "_law_shuffled" P_shuffled spShuffled) : FnOk P w K mg base CX0 3 f fd P_new_names spNames := by
  refine F.ok sc_new_names (fun vs H Q E h => ?_) (fun cdv A outer s H vs Q E hr h => ?_)
  · obtain ⟨p, c, b, rfl, _⟩ := h
    rfl
  · obtain ⟨p, c, b, rfl, hp, hb, q⟩ := h
    refine ⟨_, (pss_cons (ps_set (i := 2) sc_new_names.nd rfl (.inl rfl) (pe_lst (pa_cons pe_str (pa_cons pe_str (pa_cons pe_str (pa_cons pe_str (pa_cons pe_str (pa_cons pe_str (pa_cons pe_str (pa_cons pe_str (pa_cons pe_str (pa_cons pe_str (pa_cons pe_str (pa_cons pe_str (pa_cons pe_str pa_nil)))))))))))))))
      (pss_one (ps_ret (pe_slice sl_list (pe_cal C_shuffled (hr.mono (by decide)) (by rfl) pass0 (pa_cons (pv 0) (pa_cons (pe_op op_cat (pv 2) (pe_lst (pa_cons pe_str (pa_cons pe_str (pa_cons pe_str pa_nil))))) pa_nil))) po_none (po_some (pv 1)))))), ?_⟩
    refine ⟨by decide, fun p1 n1 => ?_⟩
    have s1 := fun o => same_new (o := o) n1
    refine ⟨_, rfl, _, rfl, by decide, fun p2 n2 => ⟨p1, p2, _, _, rfl, rfl, same_new n2 _ _ upd_same, upd_same, by decide, fun p3 n3 => ?_⟩⟩
    generalize hl0 : (_ ++ _ : List V) = l0
    obtain ⟨xs, exs, gx⟩ := strs_of l0 (by rw [← hl0]; decide +kernel)
    have lx : xs.length = 16 := by
      have := congrArg List.length exs
      rw [List.length_map, ← hl0] at this
      exact this.symm
    rw [exs]
    refine ⟨p, p3, c, b, xs, rfl, upd_same, hp.same ((s1 _).trans ((same_new n2).trans (same_new n3))), by omega, gx, by omega, fun H' L ys s4 p4 hL hl gy => ?_⟩
    have hl' : ys.length = 16 := hl.trans lx
    match ys, hl', hL, gy with
    | x :: y :: r, hl', hL, gy =>
      refine ⟨_, rfl, _, rfl, L, _, rfl, sqL hL, fun S nS => ?_⟩
      have s5 := same_new (o := .lst (cutV ((x :: y :: r).map V.str) none (some 2))) nS
      refine q _ S x y ((SameB.of ((s1 _).trans ((same_new n2).trans (same_new n3)))).trans (s4.trans (SameB.of s5))) ((p4.same s5).mono ?_) ?_ (gy x List.mem_cons_self) (gy y (List.mem_cons_of_mem _ List.mem_cons_self))
      · rw [lx]
        omega
      · rw [upd_same, show (2 : Int) = ((2 : Nat) : Int) from rfl, cut_to]
        rfl
end
end Dg
namespace Dg
open PySem PySem.Spec PyProof.Rows L2
local macro_rules | `(tactic| walk_at "rd1") => `(tactic| first | refine ⟨_, rfl, ?_⟩ | refine ⟨_, _, rfl, rfl, ?_⟩)
local macro_rules | `(tactic| walk_at "rd") => `(tactic| repeat walk_at "rd1")
section
variable {P : Program} {w : World} {K : PySem.W.Frag} {mg : Str → Option Value} {base : Heap}
abbrev s_classes : Stmt := topS 19
abbrev N_classes : List Str := ["e", "found", "one"]
abbrev P_classes : List Str := ["e"]
theorem sc_classes : FnScope N_classes P_classes (defScope s_classes) := ⟨rfl, rfl, rfl, by decide +kernel, rfl, by decide +kernel, by decide +kernel⟩
def spClasses (K : PySem.W.Frag) (cT : Addr) (cs : List Addr) : Sp := fun vs H Q _ => ∃ (a C : Addr) (bs : List Bool), vs = [.ref a] ∧ ErrAt H a C ∧ Kin K cT cs C bs ∧ ∀ H', Same H H' → Q (.int 1) H'
theorem ok_classes {f : Addr} {fd : FuncData} {cT cBadChoice cBadClaim cBadPlan cBadValues cBadVersions cBadWorld cNoActor cNoReading cNoRegister cNotTogether cNothingToUndo : Addr} (F : Fun K "_law_classes" "_law_classes" s_classes f fd) (B : Bi mg) (E_BadChoice : Ec K mg "BadChoice" cBadChoice) (E_BadClaim : Ec K mg "BadClaim" cBadClaim) (O_BadPlan : Ef P w K mg base "BadPlan" "line" cBadPlan) (O_BadValues : Ef P w K mg base "BadValues" "index" cBadValues) (E_BadVersions : Ec K mg "BadVersions" cBadVersions) (O_BadWorld : Ef P w K mg base "BadWorld" "line" cBadWorld) (O_NoActor : Ef P w K mg base "NoActor" "name" cNoActor) (O_NoReading : Ef P w K mg base "NoReading" "name" cNoReading) (O_NoRegister : Ef P w K mg base "NoRegister" "name" cNoRegister) (E_NotTogether : Ec K mg "NotTogether" cNotTogether) (E_NothingToUndo : Ec K mg "NothingToUndo" cNothingToUndo) (g_TurnError : mg "TurnError" = some (.ref cT)) : FnOk P w K mg base CX0 1 f fd P_classes (spClasses K cT [cBadChoice, cBadClaim, cBadPlan, cBadValues, cBadVersions, cBadWorld, cNoActor, cNoReading, cNoRegister, cNotTogether, cNothingToUndo]) := by
  refine F.ok sc_classes (fun vs H Q E h => ?_) (fun cdv A outer s H vs Q E hr h => ?_)
  · obtain ⟨a, C, bs, rfl, _⟩ := h
    rfl
  · obtain ⟨a, C, bs, rfl, hE, kin, q⟩ := h
    obtain ⟨b1, b2, b3, b4, b5, b6, b7, b8, b9, b10, b11, rfl, k1, k2, k3, k4, k5, k6, k7, k8, k9, k10, k11⟩ := row11 kin.row
    have ex := kin.ex
    refine ⟨_, (pss_cons (ps_set (i := 1) sc_classes.nd rfl (.inl rfl) (pe_lst (pa_cons (pe_callB call_isX (by rfl) B.b_isinstance (by decide +kernel) (pa_cons (pv 0) (pa_cons (pe_glob (by rfl) E_BadChoice.gC (rel_ref _)) pa_nil))) (pa_cons (pe_callB call_isX (by rfl) B.b_isinstance (by decide +kernel) (pa_cons (pv 0) (pa_cons (pe_glob (by rfl) E_BadClaim.gC (rel_ref _)) pa_nil))) (pa_cons (pe_callB call_isX (by rfl) B.b_isinstance (by decide +kernel) (pa_cons (pv 0) (pa_cons (pe_glob (by rfl) O_BadPlan.gC (rel_ref _)) pa_nil))) pa_nil)))))
      (pss_cons (ps_set (i := 1) sc_classes.nd rfl (.inl rfl) (pe_op op_cat (pv 1) (pe_lst (pa_cons (pe_callB call_isX (by rfl) B.b_isinstance (by decide +kernel) (pa_cons (pv 0) (pa_cons (pe_glob (by rfl) O_BadValues.gC (rel_ref _)) pa_nil))) (pa_cons (pe_callB call_isX (by rfl) B.b_isinstance (by decide +kernel) (pa_cons (pv 0) (pa_cons (pe_glob (by rfl) E_BadVersions.gC (rel_ref _)) pa_nil))) pa_nil)))))
      (pss_cons (ps_set (i := 1) sc_classes.nd rfl (.inl rfl) (pe_op op_cat (pv 1) (pe_lst (pa_cons (pe_callB call_isX (by rfl) B.b_isinstance (by decide +kernel) (pa_cons (pv 0) (pa_cons (pe_glob (by rfl) O_BadWorld.gC (rel_ref _)) pa_nil))) (pa_cons (pe_callB call_isX (by rfl) B.b_isinstance (by decide +kernel) (pa_cons (pv 0) (pa_cons (pe_glob (by rfl) O_NoActor.gC (rel_ref _)) pa_nil))) (pa_cons (pe_callB call_isX (by rfl) B.b_isinstance (by decide +kernel) (pa_cons (pv 0) (pa_cons (pe_glob (by rfl) O_NoReading.gC (rel_ref _)) pa_nil))) pa_nil))))))
      (pss_cons (ps_set (i := 1) sc_classes.nd rfl (.inl rfl) (pe_op op_cat (pv 1) (pe_lst (pa_cons (pe_callB call_isX (by rfl) B.b_isinstance (by decide +kernel) (pa_cons (pv 0) (pa_cons (pe_glob (by rfl) O_NoRegister.gC (rel_ref _)) pa_nil))) (pa_cons (pe_callB call_isX (by rfl) B.b_isinstance (by decide +kernel) (pa_cons (pv 0) (pa_cons (pe_glob (by rfl) E_NotTogether.gC (rel_ref _)) pa_nil))) pa_nil)))))
      (pss_cons (ps_expr (pe_bm PySem.F.plainAttrs_list PySem.F.slot_list_append PySem.F.type_list_append mt_append (pv 1) (pa_cons (pe_callB call_isX (by rfl) B.b_isinstance (by decide +kernel) (pa_cons (pv 0) (pa_cons (pe_glob (by rfl) E_NothingToUndo.gC (rel_ref _)) pa_nil))) pa_nil)))
      (pss_one (ps_ret (pe_callB call_len_seq (by rfl) B.b_len PySem.boot_len (pa_cons (pe_lc (own := [("one", 2)]) (g := gName 2) (by rfl) sc_classes.nd (pi_list (pv 1)) (blkOk_by (own := [("one", 2)]) (N := N_classes) (sc := (defScope s_classes)) (by decide +kernel)) (fun _ _ _ _ _ => (pg_name (i := 2) sc_classes.nd rfl (.inl rfl))) (fun _ _ _ _ _ => (pts_one (pt_val (pv 2)))) (fun _ _ _ _ _ => (pv 2))) pa_nil))))))))), ?_⟩
    refine ⟨_, rfl, a, C, _, _, _, rfl, ex, hE, (fun u r => r), k1, ?_⟩
    refine ⟨_, rfl, a, C, _, _, _, rfl, ex, hE, (fun u r => r), k2, ?_⟩
    refine ⟨_, rfl, a, C, _, _, _, rfl, ex, hE, (fun u r => r), k3, ?_⟩
    refine ⟨by show 3 ≤ sizeLine; decide, fun p1 n1 => ?_⟩
    have s1 := same_new (o := .lst [.bl b1, .bl b2, .bl b3]) n1
    have h1 : upd H p1 (.lst [.bl b1, .bl b2, .bl b3]) p1 = _ := upd_same
    generalize upd H p1 (.lst [.bl b1, .bl b2, .bl b3]) = H1 at s1 h1
    refine ⟨_, rfl, ?_⟩
    refine ⟨_, rfl, a, C, _, _, _, rfl, ex, hE.same s1, (fun u r => r), k4, ?_⟩
    refine ⟨_, rfl, a, C, _, _, _, rfl, ex, hE.same s1, (fun u r => r), k5, ?_⟩
    refine ⟨by show 2 ≤ sizeLine; decide, fun r2 m2 => ?_⟩
    have z2 := same_new (o := .lst [.bl b4, .bl b5]) m2
    refine ⟨p1, r2, _, _, rfl, rfl, z2 _ _ h1, upd_same, by show 5 ≤ sizeLine; decide, fun p2 n2 => ?_⟩
    have y2 : Same H1 (upd (upd H1 r2 (.lst [.bl b4, .bl b5])) p2 (.lst [.bl b1, .bl b2, .bl b3, .bl b4, .bl b5])) := z2.trans (same_new n2)
    have h2 : (upd (upd H1 r2 (.lst [.bl b4, .bl b5])) p2 (.lst [.bl b1, .bl b2, .bl b3, .bl b4, .bl b5])) p2 = some (.lst [.bl b1, .bl b2, .bl b3, .bl b4, .bl b5]) := upd_same
    have s2 := s1.trans y2
    generalize hG2 : upd (upd H1 r2 (.lst [.bl b4, .bl b5])) p2 (.lst [.bl b1, .bl b2, .bl b3, .bl b4, .bl b5]) = H2 at y2 h2 s2
    rw [show upd (upd H1 r2 (.lst [.bl b4, .bl b5])) p2 (.lst ([.bl b1, .bl b2, .bl b3] ++ [.bl b4, .bl b5])) = H2 from hG2]
    refine ⟨_, rfl, ?_⟩
    refine ⟨_, rfl, a, C, _, _, _, rfl, ex, hE.same s2, (fun u r => r), k6, ?_⟩
    refine ⟨_, rfl, a, C, _, _, _, rfl, ex, hE.same s2, (fun u r => r), k7, ?_⟩
    refine ⟨_, rfl, a, C, _, _, _, rfl, ex, hE.same s2, (fun u r => r), k8, ?_⟩
    refine ⟨by show 3 ≤ sizeLine; decide, fun r3 m3 => ?_⟩
    have z3 := same_new (o := .lst [.bl b6, .bl b7, .bl b8]) m3
    refine ⟨p2, r3, _, _, rfl, rfl, z3 _ _ h2, upd_same, by show 8 ≤ sizeLine; decide, fun p3 n3 => ?_⟩
    have y3 : Same H2 (upd (upd H2 r3 (.lst [.bl b6, .bl b7, .bl b8])) p3 (.lst [.bl b1, .bl b2, .bl b3, .bl b4, .bl b5, .bl b6, .bl b7, .bl b8])) := z3.trans (same_new n3)
    have h3 : (upd (upd H2 r3 (.lst [.bl b6, .bl b7, .bl b8])) p3 (.lst [.bl b1, .bl b2, .bl b3, .bl b4, .bl b5, .bl b6, .bl b7, .bl b8])) p3 = some (.lst [.bl b1, .bl b2, .bl b3, .bl b4, .bl b5, .bl b6, .bl b7, .bl b8]) := upd_same
    have s3 := s2.trans y3
    generalize hG3 : upd (upd H2 r3 (.lst [.bl b6, .bl b7, .bl b8])) p3 (.lst [.bl b1, .bl b2, .bl b3, .bl b4, .bl b5, .bl b6, .bl b7, .bl b8]) = H3 at y3 h3 s3
    rw [show upd (upd H2 r3 (.lst [.bl b6, .bl b7, .bl b8])) p3 (.lst ([.bl b1, .bl b2, .bl b3, .bl b4, .bl b5] ++ [.bl b6, .bl b7, .bl b8])) = H3 from hG3]
    refine ⟨_, rfl, ?_⟩
    refine ⟨_, rfl, a, C, _, _, _, rfl, ex, hE.same s3, (fun u r => r), k9, ?_⟩
    refine ⟨_, rfl, a, C, _, _, _, rfl, ex, hE.same s3, (fun u r => r), k10, ?_⟩
    refine ⟨by show 2 ≤ sizeLine; decide, fun r4 m4 => ?_⟩
    have z4 := same_new (o := .lst [.bl b9, .bl b10]) m4
    refine ⟨p3, r4, _, _, rfl, rfl, z4 _ _ h3, upd_same, by show 10 ≤ sizeLine; decide, fun p4 n4 => ?_⟩
    have y4 : Same H3 (upd (upd H3 r4 (.lst [.bl b9, .bl b10])) p4 (.lst [.bl b1, .bl b2, .bl b3, .bl b4, .bl b5, .bl b6, .bl b7, .bl b8, .bl b9, .bl b10])) := z4.trans (same_new n4)
    have h4 : (upd (upd H3 r4 (.lst [.bl b9, .bl b10])) p4 (.lst [.bl b1, .bl b2, .bl b3, .bl b4, .bl b5, .bl b6, .bl b7, .bl b8, .bl b9, .bl b10])) p4 = some (.lst [.bl b1, .bl b2, .bl b3, .bl b4, .bl b5, .bl b6, .bl b7, .bl b8, .bl b9, .bl b10]) := upd_same
    have s4 := s3.trans y4
    generalize hG4 : upd (upd H3 r4 (.lst [.bl b9, .bl b10])) p4 (.lst [.bl b1, .bl b2, .bl b3, .bl b4, .bl b5, .bl b6, .bl b7, .bl b8, .bl b9, .bl b10]) = H4 at y4 h4 s4
    rw [show upd (upd H3 r4 (.lst [.bl b9, .bl b10])) p4 (.lst ([.bl b1, .bl b2, .bl b3, .bl b4, .bl b5, .bl b6, .bl b7, .bl b8] ++ [.bl b9, .bl b10])) = H4 from hG4]
    refine ⟨_, rfl, .inl ⟨rfl, _, sqL h4⟩, _, rfl, a, C, _, _, _, rfl, ex, hE.same s4, (fun u r => r), k11, ?_⟩
    refine ⟨p4, _, _, rfl, rfl, h4, by show 10 < sizeLine; decide, ?_⟩
    have s5 := same_updF (o := .lst (([b1, b2, b3, b4, b5, b6, b7, b8, b9, b10, b11] : List Bool).map V.bl)) s4 ((s3.trans z4).free n4)
    have h5 : upd H4 p4 (.lst (([b1, b2, b3, b4, b5, b6, b7, b8, b9, b10, b11] : List Bool).map V.bl)) p4 = some (.lst (([b1, b2, b3, b4, b5, b6, b7, b8, b9, b10, b11] : List Bool).map V.bl)) := upd_same
    have one := kin.one
    have len : ([b1, b2, b3, b4, b5, b6, b7, b8, b9, b10, b11] : List Bool).length ≤ 11 := Nat.le_refl _
    generalize hbs : ([b1, b2, b3, b4, b5, b6, b7, b8, b9, b10, b11] : List Bool) = bs at s5 h5 one len
    have eH : upd H4 p4 (.lst ([.bl b1, .bl b2, .bl b3, .bl b4, .bl b5, .bl b6, .bl b7, .bl b8, .bl b9, .bl b10] ++ [.bl b11])) = upd H4 p4 (.lst (bs.map V.bl)) := by
      rw [← hbs]
      rfl
    rw [eH]
    generalize upd H4 p4 (.lst (bs.map V.bl)) = H5 at s5 h5
    refine ⟨_, rfl, p4, rfl, ⟨_, sqL h5⟩, fun D nD => lc_list (K := K) (a := p4) (xs := bs.map V.bl) (fun u H' => Same H5 H' ∧ H' D = some (.lst (((bs.take u).filter id).map V.bl))) ⟨same_new nD, upd_same⟩ (fun u H' _ hP => sqL (hP.1 _ _ h5)) ?_ ?_⟩
    · rintro u x H6 hx ⟨s6, hD⟩
      rw [List.getElem?_map] at hx
      cases hb : bs[u]? with
      | none =>
        rw [hb] at hx
        cases hx
      | some b =>
        rw [hb] at hx
        have ex' := Option.some.inj hx
        subst ex'
        have lz : ((bs.take u).filter id).length ≤ 11 := Nat.le_trans (List.length_filter_le _ _) (by rw [List.length_take]; omega)
        refine ⟨rfl, _, rfl, _, rfl, ?_⟩
        refine iteB (fun e => ?_) (fun e => ?_)
        · refine ⟨_, rfl, _, hD, by rw [List.length_map]; exact small1000 (by omega), fun c o e => ?_, ?_⟩
          · rw [upd_ne (ne_of_none e nD)]
            exact s6 _ _ e
          · rw [upd_same, List.take_add_one, hb, List.filter_append]
            show some (HO.lst _) = some (HO.lst (List.map V.bl (_ ++ List.filter id [b])))
            rw [List.filter_cons_of_pos (by exact e), List.filter_nil, List.map_append]
            rfl
        · refine ⟨s6, ?_⟩
          rw [List.take_add_one, hb, List.filter_append]
          show _ = some (HO.lst (List.map V.bl (_ ++ List.filter id [b])))
          rw [List.filter_cons_of_neg (by show ¬ b = true; rw [e]; decide), List.filter_nil, List.append_nil]
          exact hD
    rintro H6 ⟨s6, hD⟩
    rw [List.length_map, List.take_length] at hD
    refine ⟨D, _, rfl, .inl (sqL hD), ?_⟩
    rw [List.length_map, one]
    exact q _ (s5.trans s6)
abbrev s_is_one : Stmt := topS 20
abbrev N_is_one : List Str := ["e", "is_own", "is_based"]
abbrev P_is_one : List Str := ["e", "is_own"]
theorem sc_is_one : FnScope N_is_one P_is_one (defScope s_is_one) := ⟨rfl, rfl, rfl, by decide +kernel, rfl, by decide +kernel, by decide +kernel⟩
def spOne (K : PySem.W.Frag) (cT : Addr) (cs : List Addr) : Sp := fun vs H Q _ => ∃ (a C : Addr) (bs : List Bool), vs = [.ref a, .bl true] ∧ ErrAt H a C ∧ Kin K cT cs C bs ∧ ∀ H', Same H H' → Q (.bl true) H'
theorem ok_one {f : Addr} {fd : FuncData} {cT cBadChoice cBadClaim cBadPlan cBadValues cBadVersions cBadWorld cNoActor cNoReading cNoRegister cNotTogether cNothingToUndo : Addr} (F : Fun K "_law_is_one" "_law_is_one" s_is_one f fd) (B : Bi mg) (g_TurnError : mg "TurnError" = some (.ref cT)) (C_classes : Cal P w K mg base CX0 1 "_law_classes" P_classes (spClasses K cT [cBadChoice, cBadClaim, cBadPlan, cBadValues, cBadVersions, cBadWorld, cNoActor, cNoReading, cNoRegister, cNotTogether, cNothingToUndo])) : FnOk P w K mg base CX0 2 f fd P_is_one (spOne K cT [cBadChoice, cBadClaim, cBadPlan, cBadValues, cBadVersions, cBadWorld, cNoActor, cNoReading, cNoRegister, cNotTogether, cNothingToUndo]) := by
  refine F.ok sc_is_one (fun vs H Q E h => ?_) (fun cdv A outer s H vs Q E hr h => ?_)
  · obtain ⟨a, C, bs, rfl, _⟩ := h
    rfl
  · obtain ⟨a, C, bs, rfl, hE, kin, q⟩ := h
    refine ⟨_, (pss_cons (ps_set (i := 2) sc_is_one.nd rfl (.inl rfl) (pe_and (pe_callB call_isX (by rfl) B.b_isinstance (by decide +kernel) (pa_cons (pv 0) (pa_cons (pe_glob (by rfl) g_TurnError (rel_ref _)) pa_nil))) (pe_one (pe_callB call_isX (by rfl) B.b_isinstance (by decide +kernel) (pa_cons (pv 0) (pa_cons (pe_bltn (by rfl) B.b_ValueError boot_VE (rel_ty _)) pa_nil))))))
      (pss_one (ps_ret (pe_and (pv 1) (pe_and (pv 2) (pe_one (pe_cmpR op_eq (pe_cal C_classes (hr.mono (by decide)) (by rfl) pass0 (pa_cons (pv 0) pa_nil)) pe_int (nomark _)))))))), ?_⟩
    refine ⟨_, rfl, a, C, _, _, _, rfl, kin.ex, hE, (fun u r => r), kin.kT, _, rfl, iteT ?_⟩
    refine ⟨_, rfl, a, C, _, _, _, rfl, kin.ex, hE, (fun u r => r), kin.kV, ?_⟩
    refine ⟨_, rfl, _, rfl, iteT ?_⟩
    refine ⟨_, rfl, _, rfl, iteT ?_⟩
    refine ⟨_, rfl, a, C, bs, rfl, hE, kin, fun H1 s1 => ⟨rfl, ?_⟩⟩
    exact q H1 s1
end
end Dg
namespace Dg
open PySem PySem.Spec PyProof.Rows L2
local macro_rules | `(tactic| walk_at "rd1") => `(tactic| first | refine ⟨_, rfl, ?_⟩ | refine ⟨_, _, rfl, rfl, ?_⟩)
local macro_rules | `(tactic| walk_at "rd") => `(tactic| repeat walk_at "rd1")
section
variable {P : Program} {w : World} {K : PySem.W.Frag} {mg : Str → Option Value} {base : Heap}
abbrev s_fielded : Stmt := topS 21
abbrev N_fielded : List Str := ["number", "text", "one", "two", "three", "four", "five", "six", "found"]
abbrev P_fielded : List Str := ["number", "text"]
theorem sc_fielded : FnScope N_fielded P_fielded (defScope s_fielded) := ⟨rfl, rfl, rfl, by decide +kernel, rfl, by decide +kernel, by decide +kernel⟩
structure Six (H : Hp) (L cBadWorld cBadPlan cBadValues cNoReading cNoActor cNoRegister : Addr) (z : Int) (x : Str) : Prop where
  at_ : ∃ t1 t2 t3 t4 t5 t6 : Addr, H L = some (.lst [.ref t1, .ref t2, .ref t3, .ref t4, .ref t5, .ref t6]) ∧ ItemAt H t1 cBadWorld "line" (.int z) ∧ ItemAt H t2 cBadPlan "line" (.int z) ∧ ItemAt H t3 cBadValues "index" (.int z) ∧ ItemAt H t4 cNoReading "name" (.str x) ∧ ItemAt H t5 cNoActor "name" (.str x) ∧ ItemAt H t6 cNoRegister "name" (.str x)
def spFielded (cBadWorld cBadPlan cBadValues cNoReading cNoActor cNoRegister : Addr) : Sp := fun vs H Q _ => ∃ (z : Int) (x : Str), vs = [.int z, .str x] ∧ ∀ H' L, Same H H' → Six H' L cBadWorld cBadPlan cBadValues cNoReading cNoActor cNoRegister z x → Q (.ref L) H'
theorem ok_fielded {f : Addr} {fd : FuncData} {cBadWorld cBadPlan cBadValues cNoReading cNoActor cNoRegister : Addr} (F : Fun K "_law_fielded" "_law_fielded" s_fielded f fd) (B : Bi mg) (O_BadWorld : Ef P w K mg base "BadWorld" "line" cBadWorld) (O_BadPlan : Ef P w K mg base "BadPlan" "line" cBadPlan) (O_BadValues : Ef P w K mg base "BadValues" "index" cBadValues) (O_NoReading : Ef P w K mg base "NoReading" "name" cNoReading) (O_NoActor : Ef P w K mg base "NoActor" "name" cNoActor) (O_NoRegister : Ef P w K mg base "NoRegister" "name" cNoRegister) (I_BadWorld : ExcC K cBadWorld) (k_BadWorld : PySem.W.kitOne K (.ref cBadWorld) (.ref cBadWorld) = some true) (I_BadPlan : ExcC K cBadPlan) (k_BadPlan : PySem.W.kitOne K (.ref cBadPlan) (.ref cBadPlan) = some true) (I_BadValues : ExcC K cBadValues) (k_BadValues : PySem.W.kitOne K (.ref cBadValues) (.ref cBadValues) = some true) (I_NoReading : ExcC K cNoReading) (k_NoReading : PySem.W.kitOne K (.ref cNoReading) (.ref cNoReading) = some true) (I_NoActor : ExcC K cNoActor) (k_NoActor : PySem.W.kitOne K (.ref cNoActor) (.ref cNoActor) = some true) (I_NoRegister : ExcC K cNoRegister) (k_NoRegister : PySem.W.kitOne K (.ref cNoRegister) (.ref cNoRegister) = some true) : FnOk P w K mg base CX0 3 f fd P_fielded (spFielded cBadWorld cBadPlan cBadValues cNoReading cNoActor cNoRegister) := by
  refine F.ok sc_fielded (fun vs H Q E h => ?_) (fun cdv A outer s H vs Q E hr h => ?_)
  · obtain ⟨z, x, rfl, _⟩ := h
    rfl
  · obtain ⟨z, x, rfl, q⟩ := h
    refine ⟨_, (pss_cons (ps_par3 (i := 2) (j := 3) (l := 4) (by rfl) sc_fielded.nd rfl rfl rfl (by decide) (by decide) (by decide) rfl rfl rfl (pa_cons (pe_err1 O_BadWorld (hr.mono (by decide)) (by rfl) (pa_cons (pv 0) pa_nil)) (pa_cons (pe_err1 O_BadPlan (hr.mono (by decide)) (by rfl) (pa_cons (pv 0) pa_nil)) (pa_cons (pe_err1 O_BadValues (hr.mono (by decide)) (by rfl) (pa_cons (pv 0) pa_nil)) pa_nil))) (by rfl))
      (pss_cons (ps_par3 (i := 5) (j := 6) (l := 7) (by rfl) sc_fielded.nd rfl rfl rfl (by decide) (by decide) (by decide) rfl rfl rfl (pa_cons (pe_err1 O_NoReading (hr.mono (by decide)) (by rfl) (pa_cons (pv 1) pa_nil)) (pa_cons (pe_err1 O_NoActor (hr.mono (by decide)) (by rfl) (pa_cons (pv 1) pa_nil)) (pa_cons (pe_err1 O_NoRegister (hr.mono (by decide)) (by rfl) (pa_cons (pv 1) pa_nil)) pa_nil))) (by rfl))
      (pss_cons (ps_set (i := 8) sc_fielded.nd rfl (.inl rfl) (pe_lst (pa_cons (pe_tup (pa_cons (pv 2) (pa_cons (pe_errF (pv 2)) (pa_cons (pv 0) (pa_cons (pe_callB call_isX (by rfl) B.b_isinstance (by decide +kernel) (pa_cons (pv 2) (pa_cons (pe_glob (by rfl) O_BadWorld.gC (rel_ref _)) pa_nil))) pa_nil))))) pa_nil)))
      (pss_cons (ps_expr (pe_bm PySem.F.plainAttrs_list PySem.F.slot_list_append PySem.F.type_list_append mt_append (pv 8) (pa_cons (pe_tup (pa_cons (pv 3) (pa_cons (pe_errF (pv 3)) (pa_cons (pv 0) (pa_cons (pe_callB call_isX (by rfl) B.b_isinstance (by decide +kernel) (pa_cons (pv 3) (pa_cons (pe_glob (by rfl) O_BadPlan.gC (rel_ref _)) pa_nil))) pa_nil))))) pa_nil)))
      (pss_cons (ps_expr (pe_bm PySem.F.plainAttrs_list PySem.F.slot_list_append PySem.F.type_list_append mt_append (pv 8) (pa_cons (pe_tup (pa_cons (pv 4) (pa_cons (pe_errF (pv 4)) (pa_cons (pv 0) (pa_cons (pe_callB call_isX (by rfl) B.b_isinstance (by decide +kernel) (pa_cons (pv 4) (pa_cons (pe_glob (by rfl) O_BadValues.gC (rel_ref _)) pa_nil))) pa_nil))))) pa_nil)))
      (pss_cons (ps_expr (pe_bm PySem.F.plainAttrs_list PySem.F.slot_list_append PySem.F.type_list_append mt_append (pv 8) (pa_cons (pe_tup (pa_cons (pv 5) (pa_cons (pe_errF (pv 5)) (pa_cons (pv 1) (pa_cons (pe_callB call_isX (by rfl) B.b_isinstance (by decide +kernel) (pa_cons (pv 5) (pa_cons (pe_glob (by rfl) O_NoReading.gC (rel_ref _)) pa_nil))) pa_nil))))) pa_nil)))
      (pss_cons (ps_expr (pe_bm PySem.F.plainAttrs_list PySem.F.slot_list_append PySem.F.type_list_append mt_append (pv 8) (pa_cons (pe_tup (pa_cons (pv 6) (pa_cons (pe_errF (pv 6)) (pa_cons (pv 1) (pa_cons (pe_callB call_isX (by rfl) B.b_isinstance (by decide +kernel) (pa_cons (pv 6) (pa_cons (pe_glob (by rfl) O_NoActor.gC (rel_ref _)) pa_nil))) pa_nil))))) pa_nil)))
      (pss_one (ps_ret (pe_op op_cat (pv 8) (pe_lst (pa_cons (pe_tup (pa_cons (pv 7) (pa_cons (pe_errF (pv 7)) (pa_cons (pv 1) (pa_cons (pe_callB call_isX (by rfl) B.b_isinstance (by decide +kernel) (pa_cons (pv 7) (pa_cons (pe_glob (by rfl) O_NoRegister.gC (rel_ref _)) pa_nil))) pa_nil))))) pa_nil)))))))))))), ?_⟩
    refine ⟨_, rfl, _, rfl, fun e1 d1 ne1 nd1 dne1 => ?_⟩
    have s1 : Same H (upd (upd H d1 (exd d1 [("line", .int z)])) e1 (exo e1 cBadWorld (some d1))) := fun b o e => by
      rw [upd_ne (ne_of_none e ne1), upd_ne (ne_of_none e nd1)]
      exact e
    have a1 : (upd (upd H d1 (exd d1 [("line", .int z)])) e1 (exo e1 cBadWorld (some d1))) e1 = some (exo e1 cBadWorld (some d1)) := upd_same
    have b1 : (upd (upd H d1 (exd d1 [("line", .int z)])) e1 (exo e1 cBadWorld (some d1))) d1 = some (exd d1 [("line", .int z)]) := by
      rw [upd_ne dne1]
      exact upd_same
    generalize hH1 : upd (upd H d1 (exd d1 [("line", .int z)])) e1 (exo e1 cBadWorld (some d1)) = H1 at s1 a1 b1
    refine ⟨_, rfl, _, rfl, fun e2 d2 ne2 nd2 dne2 => ?_⟩
    have s2 : Same H1 (upd (upd H1 d2 (exd d2 [("line", .int z)])) e2 (exo e2 cBadPlan (some d2))) := fun b o e => by
      rw [upd_ne (ne_of_none e ne2), upd_ne (ne_of_none e nd2)]
      exact e
    have a2 : (upd (upd H1 d2 (exd d2 [("line", .int z)])) e2 (exo e2 cBadPlan (some d2))) e2 = some (exo e2 cBadPlan (some d2)) := upd_same
    have b2 : (upd (upd H1 d2 (exd d2 [("line", .int z)])) e2 (exo e2 cBadPlan (some d2))) d2 = some (exd d2 [("line", .int z)]) := by
      rw [upd_ne dne2]
      exact upd_same
    generalize hH2 : upd (upd H1 d2 (exd d2 [("line", .int z)])) e2 (exo e2 cBadPlan (some d2)) = H2 at s2 a2 b2
    refine ⟨_, rfl, _, rfl, fun e3 d3 ne3 nd3 dne3 => ?_⟩
    have s3 : Same H2 (upd (upd H2 d3 (exd d3 [("index", .int z)])) e3 (exo e3 cBadValues (some d3))) := fun b o e => by
      rw [upd_ne (ne_of_none e ne3), upd_ne (ne_of_none e nd3)]
      exact e
    have a3 : (upd (upd H2 d3 (exd d3 [("index", .int z)])) e3 (exo e3 cBadValues (some d3))) e3 = some (exo e3 cBadValues (some d3)) := upd_same
    have b3 : (upd (upd H2 d3 (exd d3 [("index", .int z)])) e3 (exo e3 cBadValues (some d3))) d3 = some (exd d3 [("index", .int z)]) := by
      rw [upd_ne dne3]
      exact upd_same
    generalize hH3 : upd (upd H2 d3 (exd d3 [("index", .int z)])) e3 (exo e3 cBadValues (some d3)) = H3 at s3 a3 b3
    refine ⟨_, _, _, rfl, ?_⟩
    refine ⟨_, rfl, _, rfl, fun e4 d4 ne4 nd4 dne4 => ?_⟩
    have s4 : Same H3 (upd (upd H3 d4 (exd d4 [("name", .str x)])) e4 (exo e4 cNoReading (some d4))) := fun b o e => by
      rw [upd_ne (ne_of_none e ne4), upd_ne (ne_of_none e nd4)]
      exact e
    have a4 : (upd (upd H3 d4 (exd d4 [("name", .str x)])) e4 (exo e4 cNoReading (some d4))) e4 = some (exo e4 cNoReading (some d4)) := upd_same
    have b4 : (upd (upd H3 d4 (exd d4 [("name", .str x)])) e4 (exo e4 cNoReading (some d4))) d4 = some (exd d4 [("name", .str x)]) := by
      rw [upd_ne dne4]
      exact upd_same
    generalize hH4 : upd (upd H3 d4 (exd d4 [("name", .str x)])) e4 (exo e4 cNoReading (some d4)) = H4 at s4 a4 b4
    refine ⟨_, rfl, _, rfl, fun e5 d5 ne5 nd5 dne5 => ?_⟩
    have s5 : Same H4 (upd (upd H4 d5 (exd d5 [("name", .str x)])) e5 (exo e5 cNoActor (some d5))) := fun b o e => by
      rw [upd_ne (ne_of_none e ne5), upd_ne (ne_of_none e nd5)]
      exact e
    have a5 : (upd (upd H4 d5 (exd d5 [("name", .str x)])) e5 (exo e5 cNoActor (some d5))) e5 = some (exo e5 cNoActor (some d5)) := upd_same
    have b5 : (upd (upd H4 d5 (exd d5 [("name", .str x)])) e5 (exo e5 cNoActor (some d5))) d5 = some (exd d5 [("name", .str x)]) := by
      rw [upd_ne dne5]
      exact upd_same
    generalize hH5 : upd (upd H4 d5 (exd d5 [("name", .str x)])) e5 (exo e5 cNoActor (some d5)) = H5 at s5 a5 b5
    refine ⟨_, rfl, _, rfl, fun e6 d6 ne6 nd6 dne6 => ?_⟩
    have s6 : Same H5 (upd (upd H5 d6 (exd d6 [("name", .str x)])) e6 (exo e6 cNoRegister (some d6))) := fun b o e => by
      rw [upd_ne (ne_of_none e ne6), upd_ne (ne_of_none e nd6)]
      exact e
    have a6 : (upd (upd H5 d6 (exd d6 [("name", .str x)])) e6 (exo e6 cNoRegister (some d6))) e6 = some (exo e6 cNoRegister (some d6)) := upd_same
    have b6 : (upd (upd H5 d6 (exd d6 [("name", .str x)])) e6 (exo e6 cNoRegister (some d6))) d6 = some (exd d6 [("name", .str x)]) := by
      rw [upd_ne dne6]
      exact upd_same
    generalize hH6 : upd (upd H5 d6 (exd d6 [("name", .str x)])) e6 (exo e6 cNoRegister (some d6)) = H6 at s6 a6 b6
    refine ⟨_, _, _, rfl, ?_⟩
    have u6 : Same H6 H6 := Same.refl _
    have A6 := u6 _ _ a6
    have B6 := u6 _ _ b6
    have u5 : Same H5 H6 := s6.trans u6
    have A5 := u5 _ _ a5
    have B5 := u5 _ _ b5
    have u4 : Same H4 H6 := s5.trans u5
    have A4 := u4 _ _ a4
    have B4 := u4 _ _ b4
    have u3 : Same H3 H6 := s4.trans u4
    have A3 := u3 _ _ a3
    have B3 := u3 _ _ b3
    have u2 : Same H2 H6 := s3.trans u3
    have A2 := u2 _ _ a2
    have B2 := u2 _ _ b2
    have u1 : Same H1 H6 := s2.trans u2
    have A1 := u1 _ _ a1
    have B1 := u1 _ _ b1
    have s06 : Same H H6 := s1.trans u1
    refine ⟨_, rfl, _, rfl, e1, cBadWorld, d1, _, _, rfl, O_BadWorld.xf, O_BadWorld.no, u6 _ _ A1, u6 _ _ B1, rfl, _, rfl, _, rfl, e1, cBadWorld, _, _, _, rfl, I_BadWorld, .inr ⟨d1, _, u6 _ _ A1, u6 _ _ B1⟩, (fun u r => r), k_BadWorld, by show 4 ≤ sizeLine; decide, fun t1 nt1 => ?_⟩
    have v1 := same_new (o := .tup [.ref e1, .int z, .int z, .bl true]) nt1
    refine ⟨by show 1 ≤ sizeLine; decide, fun L nL => ?_⟩
    have nL6 : H6 L = none := v1.free nL
    have w1 : Same H6 (upd (upd H6 t1 (.tup [.ref e1, .int z, .int z, .bl true])) L (.lst [.ref t1])) := v1.trans (same_new nL)
    have hidS : ∀ {G : Hp}, Same H6 G → Same H6 (hid L G) := fun y => (hid_none nL6).trans (hid_mono y)
    have i1 : ItemAt (hid L (upd (upd H6 t1 (.tup [.ref e1, .int z, .int z, .bl true])) L (.lst [.ref t1]))) t1 cBadWorld "line" (.int z) := ⟨e1, d1, hid_at (same_new nL _ _ upd_same) (ne_of_none upd_same nL), hidS w1 _ _ A1, hidS w1 _ _ B1⟩
    have l1 : upd (upd H6 t1 (.tup [.ref e1, .int z, .int z, .bl true])) L (.lst [.ref t1]) L = some (.lst [.ref t1]) := upd_same
    generalize upd (upd H6 t1 (.tup [.ref e1, .int z, .int z, .bl true])) L (.lst [.ref t1]) = G1 at w1 i1 l1
    refine ⟨_, rfl, .inl ⟨rfl, _, sqL l1⟩, _, rfl, _, rfl, e2, cBadPlan, d2, _, _, rfl, O_BadPlan.xf, O_BadPlan.no, w1 _ _ A2, w1 _ _ B2, rfl, _, rfl, _, rfl, e2, cBadPlan, _, _, _, rfl, I_BadPlan, .inr ⟨d2, _, w1 _ _ A2, w1 _ _ B2⟩, (fun u r => r), k_BadPlan, by show 4 ≤ sizeLine; decide, fun t2 nt2 => ?_⟩
    have v2 := same_new (o := .tup [.ref e2, .int z, .int z, .bl true]) nt2
    have tL2 : t2 ≠ L := Ne.symm (ne_of_none l1 nt2)
    refine ⟨L, _, _, rfl, rfl, v2 _ _ l1, by show 1 < sizeLine; decide, ?_⟩
    have w2 : Same H6 (upd (upd G1 t2 (.tup [.ref e2, .int z, .int z, .bl true])) L (.lst ([.ref t1] ++ [.ref t2]))) := same_updF (w1.trans v2) nL6
    have h2 : Same (hid L G1) (hid L (upd (upd G1 t2 (.tup [.ref e2, .int z, .int z, .bl true])) L (.lst ([.ref t1] ++ [.ref t2])))) := by
      rw [hid_upd]
      exact hid_mono v2
    have i1' := i1.same h2
    have i2 : ItemAt (hid L (upd (upd G1 t2 (.tup [.ref e2, .int z, .int z, .bl true])) L (.lst ([.ref t1] ++ [.ref t2])))) t2 cBadPlan "line" (.int z) := ⟨e2, d2, hid_at (by rw [upd_ne tL2]; exact upd_same) tL2, hidS w2 _ _ A2, hidS w2 _ _ B2⟩
    have l2 : (upd (upd G1 t2 (.tup [.ref e2, .int z, .int z, .bl true])) L (.lst ([.ref t1] ++ [.ref t2]))) L = some (.lst [.ref t1, .ref t2]) := upd_same
    generalize upd (upd G1 t2 (.tup [.ref e2, .int z, .int z, .bl true])) L (.lst ([.ref t1] ++ [.ref t2])) = G2 at w2 l2 h2 i1' i2
    refine ⟨_, rfl, .inl ⟨rfl, _, sqL l2⟩, _, rfl, _, rfl, e3, cBadValues, d3, _, _, rfl, O_BadValues.xf, O_BadValues.no, w2 _ _ A3, w2 _ _ B3, rfl, _, rfl, _, rfl, e3, cBadValues, _, _, _, rfl, I_BadValues, .inr ⟨d3, _, w2 _ _ A3, w2 _ _ B3⟩, (fun u r => r), k_BadValues, by show 4 ≤ sizeLine; decide, fun t3 nt3 => ?_⟩
    have v3 := same_new (o := .tup [.ref e3, .int z, .int z, .bl true]) nt3
    have tL3 : t3 ≠ L := Ne.symm (ne_of_none l2 nt3)
    refine ⟨L, _, _, rfl, rfl, v3 _ _ l2, by show 2 < sizeLine; decide, ?_⟩
    have w3 : Same H6 (upd (upd G2 t3 (.tup [.ref e3, .int z, .int z, .bl true])) L (.lst ([.ref t1, .ref t2] ++ [.ref t3]))) := same_updF (w2.trans v3) nL6
    have h3 : Same (hid L G2) (hid L (upd (upd G2 t3 (.tup [.ref e3, .int z, .int z, .bl true])) L (.lst ([.ref t1, .ref t2] ++ [.ref t3])))) := by
      rw [hid_upd]
      exact hid_mono v3
    have i1'' := i1'.same h3
    have i2' := i2.same h3
    have i3 : ItemAt (hid L (upd (upd G2 t3 (.tup [.ref e3, .int z, .int z, .bl true])) L (.lst ([.ref t1, .ref t2] ++ [.ref t3])))) t3 cBadValues "index" (.int z) := ⟨e3, d3, hid_at (by rw [upd_ne tL3]; exact upd_same) tL3, hidS w3 _ _ A3, hidS w3 _ _ B3⟩
    have l3 : (upd (upd G2 t3 (.tup [.ref e3, .int z, .int z, .bl true])) L (.lst ([.ref t1, .ref t2] ++ [.ref t3]))) L = some (.lst [.ref t1, .ref t2, .ref t3]) := upd_same
    generalize upd (upd G2 t3 (.tup [.ref e3, .int z, .int z, .bl true])) L (.lst ([.ref t1, .ref t2] ++ [.ref t3])) = G3 at w3 l3 h3 i1'' i2' i3
    refine ⟨_, rfl, .inl ⟨rfl, _, sqL l3⟩, _, rfl, _, rfl, e4, cNoReading, d4, _, _, rfl, O_NoReading.xf, O_NoReading.no, w3 _ _ A4, w3 _ _ B4, rfl, _, rfl, _, rfl, e4, cNoReading, _, _, _, rfl, I_NoReading, .inr ⟨d4, _, w3 _ _ A4, w3 _ _ B4⟩, (fun u r => r), k_NoReading, by show 4 ≤ sizeLine; decide, fun t4 nt4 => ?_⟩
    have v4 := same_new (o := .tup [.ref e4, .str x, .str x, .bl true]) nt4
    have tL4 : t4 ≠ L := Ne.symm (ne_of_none l3 nt4)
    refine ⟨L, _, _, rfl, rfl, v4 _ _ l3, by show 3 < sizeLine; decide, ?_⟩
    have w4 : Same H6 (upd (upd G3 t4 (.tup [.ref e4, .str x, .str x, .bl true])) L (.lst ([.ref t1, .ref t2, .ref t3] ++ [.ref t4]))) := same_updF (w3.trans v4) nL6
    have h4 : Same (hid L G3) (hid L (upd (upd G3 t4 (.tup [.ref e4, .str x, .str x, .bl true])) L (.lst ([.ref t1, .ref t2, .ref t3] ++ [.ref t4])))) := by
      rw [hid_upd]
      exact hid_mono v4
    have i1''' := i1''.same h4
    have i2'' := i2'.same h4
    have i3' := i3.same h4
    have i4 : ItemAt (hid L (upd (upd G3 t4 (.tup [.ref e4, .str x, .str x, .bl true])) L (.lst ([.ref t1, .ref t2, .ref t3] ++ [.ref t4])))) t4 cNoReading "name" (.str x) := ⟨e4, d4, hid_at (by rw [upd_ne tL4]; exact upd_same) tL4, hidS w4 _ _ A4, hidS w4 _ _ B4⟩
    have l4 : (upd (upd G3 t4 (.tup [.ref e4, .str x, .str x, .bl true])) L (.lst ([.ref t1, .ref t2, .ref t3] ++ [.ref t4]))) L = some (.lst [.ref t1, .ref t2, .ref t3, .ref t4]) := upd_same
    generalize upd (upd G3 t4 (.tup [.ref e4, .str x, .str x, .bl true])) L (.lst ([.ref t1, .ref t2, .ref t3] ++ [.ref t4])) = G4 at w4 l4 h4 i1''' i2'' i3' i4
    refine ⟨_, rfl, .inl ⟨rfl, _, sqL l4⟩, _, rfl, _, rfl, e5, cNoActor, d5, _, _, rfl, O_NoActor.xf, O_NoActor.no, w4 _ _ A5, w4 _ _ B5, rfl, _, rfl, _, rfl, e5, cNoActor, _, _, _, rfl, I_NoActor, .inr ⟨d5, _, w4 _ _ A5, w4 _ _ B5⟩, (fun u r => r), k_NoActor, by show 4 ≤ sizeLine; decide, fun t5 nt5 => ?_⟩
    have v5 := same_new (o := .tup [.ref e5, .str x, .str x, .bl true]) nt5
    have tL5 : t5 ≠ L := Ne.symm (ne_of_none l4 nt5)
    refine ⟨L, _, _, rfl, rfl, v5 _ _ l4, by show 4 < sizeLine; decide, ?_⟩
    have w5 : Same H6 (upd (upd G4 t5 (.tup [.ref e5, .str x, .str x, .bl true])) L (.lst ([.ref t1, .ref t2, .ref t3, .ref t4] ++ [.ref t5]))) := same_updF (w4.trans v5) nL6
    have h5 : Same (hid L G4) (hid L (upd (upd G4 t5 (.tup [.ref e5, .str x, .str x, .bl true])) L (.lst ([.ref t1, .ref t2, .ref t3, .ref t4] ++ [.ref t5])))) := by
      rw [hid_upd]
      exact hid_mono v5
    have i1'''' := i1'''.same h5
    have i2''' := i2''.same h5
    have i3'' := i3'.same h5
    have i4' := i4.same h5
    have i5 : ItemAt (hid L (upd (upd G4 t5 (.tup [.ref e5, .str x, .str x, .bl true])) L (.lst ([.ref t1, .ref t2, .ref t3, .ref t4] ++ [.ref t5])))) t5 cNoActor "name" (.str x) := ⟨e5, d5, hid_at (by rw [upd_ne tL5]; exact upd_same) tL5, hidS w5 _ _ A5, hidS w5 _ _ B5⟩
    have l5 : (upd (upd G4 t5 (.tup [.ref e5, .str x, .str x, .bl true])) L (.lst ([.ref t1, .ref t2, .ref t3, .ref t4] ++ [.ref t5]))) L = some (.lst [.ref t1, .ref t2, .ref t3, .ref t4, .ref t5]) := upd_same
    generalize upd (upd G4 t5 (.tup [.ref e5, .str x, .str x, .bl true])) L (.lst ([.ref t1, .ref t2, .ref t3, .ref t4] ++ [.ref t5])) = G5 at w5 l5 h5 i1'''' i2''' i3'' i4' i5
    refine ⟨_, rfl, _, rfl, _, rfl, e6, cNoRegister, d6, _, _, rfl, O_NoRegister.xf, O_NoRegister.no, w5 _ _ A6, w5 _ _ B6, rfl, _, rfl, _, rfl, e6, cNoRegister, _, _, _, rfl, I_NoRegister, .inr ⟨d6, _, w5 _ _ A6, w5 _ _ B6⟩, (fun u r => r), k_NoRegister, by show 4 ≤ sizeLine; decide, fun t6 nt6 => ?_⟩
    have v6 := same_new (o := .tup [.ref e6, .str x, .str x, .bl true]) nt6
    refine ⟨by show 1 ≤ sizeLine; decide, fun M nM => ?_⟩
    have v7 := same_new (o := .lst [.ref t6]) nM
    refine ⟨L, M, _, _, rfl, rfl, (v6.trans v7) _ _ l5, upd_same, by show 6 ≤ sizeLine; decide, fun R nR => ?_⟩
    have v8 := same_new (o := .lst ([.ref t1, .ref t2, .ref t3, .ref t4, .ref t5] ++ [.ref t6])) nR
    have v68 := v6.trans (v7.trans v8)
    have w6 := w5.trans v68
    refine q _ R (s06.trans w6) ⟨t1, t2, t3, t4, t5, t6, upd_same, (i1''''.same hid_same).same v68, (i2'''.same hid_same).same v68, (i3''.same hid_same).same v68, (i4'.same hid_same).same v68, (i5.same hid_same).same v68, ⟨e6, d6, (v7.trans v8) _ _ upd_same, w6 _ _ A6, w6 _ _ B6⟩⟩
end
end Dg
namespace Dg
open PySem PySem.Spec PyProof.Rows L2
local macro_rules | `(tactic| walk_at "rd1") => `(tactic| first | refine ⟨_, rfl, ?_⟩ | refine ⟨_, _, rfl, rfl, ?_⟩)
local macro_rules | `(tactic| walk_at "rd") => `(tactic| repeat walk_at "rd1")
section
variable {P : Program} {w : World} {K : PySem.W.Frag} {mg : Str → Option Value} {base : Heap}
abbrev s_plain_right : Stmt := topS 22
abbrev N_plain_right : List Str := ["one", "two", "three", "four", "five", "found"]
abbrev P_plain_right : List Str := []
theorem sc_plain_right : FnScope N_plain_right P_plain_right (defScope s_plain_right) := ⟨rfl, rfl, rfl, by decide +kernel, rfl, by decide +kernel, by decide +kernel⟩
def spPlain : Sp := fun vs H Q _ => vs = [] ∧ ∀ H', Same H H' → Q (.bl true) H'
theorem ok_plain {f : Addr} {fd : FuncData} {cT cBadChoice cBadClaim cBadPlan cBadValues cBadVersions cBadWorld cNoActor cNoReading cNoRegister cNotTogether cNothingToUndo : Addr} (F : Fun K "_law_plain_right" "_law_plain_right" s_plain_right f fd) (B : Bi mg) (E_BadClaim : Ec K mg "BadClaim" cBadClaim) (N_BadClaim : Kin K cT [cBadChoice, cBadClaim, cBadPlan, cBadValues, cBadVersions, cBadWorld, cNoActor, cNoReading, cNoRegister, cNotTogether, cNothingToUndo] cBadClaim [false, true, false, false, false, false, false, false, false, false, false]) (k_BadClaim : PySem.W.kitOne K (.ref cBadClaim) (.ref cBadClaim) = some true) (E_NotTogether : Ec K mg "NotTogether" cNotTogether) (N_NotTogether : Kin K cT [cBadChoice, cBadClaim, cBadPlan, cBadValues, cBadVersions, cBadWorld, cNoActor, cNoReading, cNoRegister, cNotTogether, cNothingToUndo] cNotTogether [false, false, false, false, false, false, false, false, false, true, false]) (k_NotTogether : PySem.W.kitOne K (.ref cNotTogether) (.ref cNotTogether) = some true) (E_BadVersions : Ec K mg "BadVersions" cBadVersions) (N_BadVersions : Kin K cT [cBadChoice, cBadClaim, cBadPlan, cBadValues, cBadVersions, cBadWorld, cNoActor, cNoReading, cNoRegister, cNotTogether, cNothingToUndo] cBadVersions [false, false, false, false, true, false, false, false, false, false, false]) (k_BadVersions : PySem.W.kitOne K (.ref cBadVersions) (.ref cBadVersions) = some true) (E_BadChoice : Ec K mg "BadChoice" cBadChoice) (N_BadChoice : Kin K cT [cBadChoice, cBadClaim, cBadPlan, cBadValues, cBadVersions, cBadWorld, cNoActor, cNoReading, cNoRegister, cNotTogether, cNothingToUndo] cBadChoice [true, false, false, false, false, false, false, false, false, false, false]) (k_BadChoice : PySem.W.kitOne K (.ref cBadChoice) (.ref cBadChoice) = some true) (E_NothingToUndo : Ec K mg "NothingToUndo" cNothingToUndo) (N_NothingToUndo : Kin K cT [cBadChoice, cBadClaim, cBadPlan, cBadValues, cBadVersions, cBadWorld, cNoActor, cNoReading, cNoRegister, cNotTogether, cNothingToUndo] cNothingToUndo [false, false, false, false, false, false, false, false, false, false, true]) (k_NothingToUndo : PySem.W.kitOne K (.ref cNothingToUndo) (.ref cNothingToUndo) = some true) (C_is_one : Cal P w K mg base CX0 2 "_law_is_one" P_is_one (spOne K cT [cBadChoice, cBadClaim, cBadPlan, cBadValues, cBadVersions, cBadWorld, cNoActor, cNoReading, cNoRegister, cNotTogether, cNothingToUndo])) : FnOk P w K mg base CX0 3 f fd P_plain_right spPlain := by
  refine F.ok sc_plain_right (fun vs H Q E h => ?_) (fun cdv A outer s H vs Q E hr h => ?_)
  · obtain ⟨rfl, _⟩ := h
    rfl
  · obtain ⟨rfl, q⟩ := h
    refine ⟨_, (pss_cons (ps_par3 (i := 0) (j := 1) (l := 2) (by rfl) sc_plain_right.nd rfl rfl rfl (by decide) (by decide) (by decide) rfl rfl rfl (pa_cons (pe_err0 E_BadClaim (by rfl)) (pa_cons (pe_err0 E_NotTogether (by rfl)) (pa_cons (pe_err0 E_BadVersions (by rfl)) pa_nil))) (by rfl))
      (pss_cons (ps_par (i := 3) (j := 4) (by rfl) sc_plain_right.nd rfl rfl (by decide) rfl rfl (pa_cons (pe_err0 E_BadChoice (by rfl)) (pa_cons (pe_err0 E_NothingToUndo (by rfl)) pa_nil)) (by rfl))
      (pss_cons (ps_set (i := 5) sc_plain_right.nd rfl (.inl rfl) (pe_lst (pa_cons (pe_cal C_is_one (hr.mono (by decide)) (by rfl) pass0 (pa_cons (pv 0) (pa_cons (pe_callB call_isX (by rfl) B.b_isinstance (by decide +kernel) (pa_cons (pv 0) (pa_cons (pe_glob (by rfl) E_BadClaim.gC (rel_ref _)) pa_nil))) pa_nil))) pa_nil)))
      (pss_cons (ps_expr (pe_bm PySem.F.plainAttrs_list PySem.F.slot_list_append PySem.F.type_list_append mt_append (pv 5) (pa_cons (pe_cal C_is_one (hr.mono (by decide)) (by rfl) pass0 (pa_cons (pv 1) (pa_cons (pe_callB call_isX (by rfl) B.b_isinstance (by decide +kernel) (pa_cons (pv 1) (pa_cons (pe_glob (by rfl) E_NotTogether.gC (rel_ref _)) pa_nil))) pa_nil))) pa_nil)))
      (pss_cons (ps_expr (pe_bm PySem.F.plainAttrs_list PySem.F.slot_list_append PySem.F.type_list_append mt_append (pv 5) (pa_cons (pe_cal C_is_one (hr.mono (by decide)) (by rfl) pass0 (pa_cons (pv 2) (pa_cons (pe_callB call_isX (by rfl) B.b_isinstance (by decide +kernel) (pa_cons (pv 2) (pa_cons (pe_glob (by rfl) E_BadVersions.gC (rel_ref _)) pa_nil))) pa_nil))) pa_nil)))
      (pss_cons (ps_expr (pe_bm PySem.F.plainAttrs_list PySem.F.slot_list_append PySem.F.type_list_append mt_append (pv 5) (pa_cons (pe_cal C_is_one (hr.mono (by decide)) (by rfl) pass0 (pa_cons (pv 3) (pa_cons (pe_callB call_isX (by rfl) B.b_isinstance (by decide +kernel) (pa_cons (pv 3) (pa_cons (pe_glob (by rfl) E_BadChoice.gC (rel_ref _)) pa_nil))) pa_nil))) pa_nil)))
      (pss_cons (ps_expr (pe_bm PySem.F.plainAttrs_list PySem.F.slot_list_append PySem.F.type_list_append mt_append (pv 5) (pa_cons (pe_cal C_is_one (hr.mono (by decide)) (by rfl) pass0 (pa_cons (pv 4) (pa_cons (pe_callB call_isX (by rfl) B.b_isinstance (by decide +kernel) (pa_cons (pv 4) (pa_cons (pe_glob (by rfl) E_NothingToUndo.gC (rel_ref _)) pa_nil))) pa_nil))) pa_nil)))
      (pss_one (ps_ret (pe_cmpR op_notIn_seq pe_bl (pv 5) (by rfl))))))))))), ?_⟩
    refine fun e1 ne1 => ?_
    have s1 := same_new (o := exo e1 cBadClaim none) ne1
    have a1 : (upd H e1 (exo e1 cBadClaim none)) e1 = some (exo e1 cBadClaim none) := upd_same
    generalize upd H e1 (exo e1 cBadClaim none) = H1 at s1 a1
    refine fun e2 ne2 => ?_
    have s2 := same_new (o := exo e2 cNotTogether none) ne2
    have a2 : (upd H1 e2 (exo e2 cNotTogether none)) e2 = some (exo e2 cNotTogether none) := upd_same
    generalize upd H1 e2 (exo e2 cNotTogether none) = H2 at s2 a2
    refine fun e3 ne3 => ?_
    have s3 := same_new (o := exo e3 cBadVersions none) ne3
    have a3 : (upd H2 e3 (exo e3 cBadVersions none)) e3 = some (exo e3 cBadVersions none) := upd_same
    generalize upd H2 e3 (exo e3 cBadVersions none) = H3 at s3 a3
    refine ⟨_, _, _, rfl, ?_⟩
    refine fun e4 ne4 => ?_
    have s4 := same_new (o := exo e4 cBadChoice none) ne4
    have a4 : (upd H3 e4 (exo e4 cBadChoice none)) e4 = some (exo e4 cBadChoice none) := upd_same
    generalize upd H3 e4 (exo e4 cBadChoice none) = H4 at s4 a4
    refine fun e5 ne5 => ?_
    have s5 := same_new (o := exo e5 cNothingToUndo none) ne5
    have a5 : (upd H4 e5 (exo e5 cNothingToUndo none)) e5 = some (exo e5 cNothingToUndo none) := upd_same
    generalize upd H4 e5 (exo e5 cNothingToUndo none) = H5 at s5 a5
    refine ⟨_, _, rfl, ?_⟩
    have u5 : Same H5 H5 := Same.refl _
    have u4 : Same H4 H5 := s5.trans u5
    have u3 : Same H3 H5 := s4.trans u4
    have u2 : Same H2 H5 := s3.trans u3
    have u1 : Same H1 H5 := s2.trans u2
    have A1 : ErrAt H5 e1 cBadClaim := .inl (u1 _ _ a1)
    have A2 : ErrAt H5 e2 cNotTogether := .inl (u2 _ _ a2)
    have A3 : ErrAt H5 e3 cBadVersions := .inl (u3 _ _ a3)
    have A4 : ErrAt H5 e4 cBadChoice := .inl (u4 _ _ a4)
    have A5 : ErrAt H5 e5 cNothingToUndo := .inl (u5 _ _ a5)
    have s05 : Same H H5 := s1.trans u1
    refine ⟨_, rfl, _, rfl, e1, cBadClaim, _, _, _, rfl, N_BadClaim.ex, A1.same u5, (fun u r => r), k_BadClaim, e1, cBadClaim, _, rfl, A1.same u5, N_BadClaim, fun G1 w1 => ?_⟩
    refine ⟨by show 1 ≤ sizeLine; decide, fun L nL => ?_⟩
    have nL5 : H5 L = none := w1.free nL
    have z1 : Same H5 (upd G1 L (.lst [.bl true])) := same_updF w1 nL5
    have l1 : upd G1 L (.lst [.bl true]) L = some (.lst [.bl true]) := upd_same
    generalize upd G1 L (.lst [.bl true]) = K1 at z1 l1
    refine ⟨_, rfl, .inl ⟨rfl, _, sqL l1⟩, _, rfl, _, rfl, e2, cNotTogether, _, _, _, rfl, N_NotTogether.ex, A2.same z1, (fun u r => r), k_NotTogether, e2, cNotTogether, _, rfl, A2.same z1, N_NotTogether, fun G2 w2 => ?_⟩
    refine ⟨L, _, _, rfl, rfl, w2 _ _ l1, by show 1 < sizeLine; decide, ?_⟩
    have z2 : Same H5 (upd G2 L (.lst ([.bl true] ++ [.bl true]))) := same_updF (z1.trans w2) nL5
    have l2 : (upd G2 L (.lst ([.bl true] ++ [.bl true]))) L = some (.lst [.bl true, .bl true]) := upd_same
    generalize upd G2 L (.lst ([.bl true] ++ [.bl true])) = K2 at z2 l2
    refine ⟨_, rfl, .inl ⟨rfl, _, sqL l2⟩, _, rfl, _, rfl, e3, cBadVersions, _, _, _, rfl, N_BadVersions.ex, A3.same z2, (fun u r => r), k_BadVersions, e3, cBadVersions, _, rfl, A3.same z2, N_BadVersions, fun G3 w3 => ?_⟩
    refine ⟨L, _, _, rfl, rfl, w3 _ _ l2, by show 2 < sizeLine; decide, ?_⟩
    have z3 : Same H5 (upd G3 L (.lst ([.bl true, .bl true] ++ [.bl true]))) := same_updF (z2.trans w3) nL5
    have l3 : (upd G3 L (.lst ([.bl true, .bl true] ++ [.bl true]))) L = some (.lst [.bl true, .bl true, .bl true]) := upd_same
    generalize upd G3 L (.lst ([.bl true, .bl true] ++ [.bl true])) = K3 at z3 l3
    refine ⟨_, rfl, .inl ⟨rfl, _, sqL l3⟩, _, rfl, _, rfl, e4, cBadChoice, _, _, _, rfl, N_BadChoice.ex, A4.same z3, (fun u r => r), k_BadChoice, e4, cBadChoice, _, rfl, A4.same z3, N_BadChoice, fun G4 w4 => ?_⟩
    refine ⟨L, _, _, rfl, rfl, w4 _ _ l3, by show 3 < sizeLine; decide, ?_⟩
    have z4 : Same H5 (upd G4 L (.lst ([.bl true, .bl true, .bl true] ++ [.bl true]))) := same_updF (z3.trans w4) nL5
    have l4 : (upd G4 L (.lst ([.bl true, .bl true, .bl true] ++ [.bl true]))) L = some (.lst [.bl true, .bl true, .bl true, .bl true]) := upd_same
    generalize upd G4 L (.lst ([.bl true, .bl true, .bl true] ++ [.bl true])) = K4 at z4 l4
    refine ⟨_, rfl, .inl ⟨rfl, _, sqL l4⟩, _, rfl, _, rfl, e5, cNothingToUndo, _, _, _, rfl, N_NothingToUndo.ex, A5.same z4, (fun u r => r), k_NothingToUndo, e5, cNothingToUndo, _, rfl, A5.same z4, N_NothingToUndo, fun G5 w5 => ?_⟩
    refine ⟨L, _, _, rfl, rfl, w5 _ _ l4, by show 4 < sizeLine; decide, ?_⟩
    have z5 : Same H5 (upd G5 L (.lst ([.bl true, .bl true, .bl true, .bl true] ++ [.bl true]))) := same_updF (z4.trans w5) nL5
    have l5 : (upd G5 L (.lst ([.bl true, .bl true, .bl true, .bl true] ++ [.bl true]))) L = some (.lst [.bl true, .bl true, .bl true, .bl true, .bl true]) := upd_same
    generalize upd G5 L (.lst ([.bl true, .bl true, .bl true, .bl true] ++ [.bl true])) = K5 at z5 l5
    refine ⟨_, rfl, L, _, rfl, .inl (sqL l5), rfl, rfl, ?_⟩
    exact q _ (s05.trans z5)
end
end Dg
namespace Dg
open PySem PySem.Spec PyProof.Rows L2
local macro_rules | `(tactic| walk_at "rd1") => `(tactic| first | refine ⟨_, rfl, ?_⟩ | refine ⟨_, _, rfl, rfl, ?_⟩)
local macro_rules | `(tactic| walk_at "rd") => `(tactic| repeat walk_at "rd1")
section
variable {P : Program} {w : World} {K : PySem.W.Frag} {mg : Str → Option Value} {base : Heap}
abbrev s_law : Stmt := topS 23
abbrev N_law : List Str := ["script", "pen", "turn", "number", "text", "other", "made", "others", "k", "e", "field", "due", "is_own", "again", "names"]
abbrev P_law : List Str := ["script"]
theorem sc_law : FnScope N_law P_law (defScope s_law) := ⟨rfl, rfl, rfl, by decide +kernel, rfl, by decide +kernel, by decide +kernel⟩
def spLaw (K : PySem.W.Frag) : Sp := fun vs H Q _ => ∃ (a : Addr) (ns : List Int), vs = [.ref a] ∧ SqL K H a (ns.map V.int) ∧ ns.length ≤ 63 ∧ ∀ H', Q (.bl true) H'
def OkV (v : V) : Prop := (∃ i : Int, v = .int i ∧ i.natAbs.log2 < 1920) ∨ ∃ x, v = .str x ∧ Good x
theorem log_ok {z : Int} (h1 : -(10 ^ 61) < z) (h2 : z < 10 ^ 61) : z.natAbs.log2 < 1920 := by
  have hn : z.natAbs < 10 ^ 61 := by omega
  by_cases e : z.natAbs = 0
  · rw [e]
    decide
  · rw [Nat.log2_lt e]
    exact Nat.lt_of_lt_of_le hn (Nat.le_of_lt (Nat.lt_of_lt_of_le (show 10 ^ 61 < 2 ^ 220 by decide) (Nat.pow_le_pow_right (by decide) (by decide))))
theorem six_get {cT cBadChoice cBadClaim cBadPlan cBadValues cBadVersions cBadWorld cNoActor cNoReading cNoRegister cNotTogether cNothingToUndo : Addr} (N_BadChoice : Kin K cT [cBadChoice, cBadClaim, cBadPlan, cBadValues, cBadVersions, cBadWorld, cNoActor, cNoReading, cNoRegister, cNotTogether, cNothingToUndo] cBadChoice [true, false, false, false, false, false, false, false, false, false, false]) (N_BadClaim : Kin K cT [cBadChoice, cBadClaim, cBadPlan, cBadValues, cBadVersions, cBadWorld, cNoActor, cNoReading, cNoRegister, cNotTogether, cNothingToUndo] cBadClaim [false, true, false, false, false, false, false, false, false, false, false]) (N_BadPlan : Kin K cT [cBadChoice, cBadClaim, cBadPlan, cBadValues, cBadVersions, cBadWorld, cNoActor, cNoReading, cNoRegister, cNotTogether, cNothingToUndo] cBadPlan [false, false, true, false, false, false, false, false, false, false, false]) (N_BadValues : Kin K cT [cBadChoice, cBadClaim, cBadPlan, cBadValues, cBadVersions, cBadWorld, cNoActor, cNoReading, cNoRegister, cNotTogether, cNothingToUndo] cBadValues [false, false, false, true, false, false, false, false, false, false, false]) (N_BadVersions : Kin K cT [cBadChoice, cBadClaim, cBadPlan, cBadValues, cBadVersions, cBadWorld, cNoActor, cNoReading, cNoRegister, cNotTogether, cNothingToUndo] cBadVersions [false, false, false, false, true, false, false, false, false, false, false]) (N_BadWorld : Kin K cT [cBadChoice, cBadClaim, cBadPlan, cBadValues, cBadVersions, cBadWorld, cNoActor, cNoReading, cNoRegister, cNotTogether, cNothingToUndo] cBadWorld [false, false, false, false, false, true, false, false, false, false, false]) (N_NoActor : Kin K cT [cBadChoice, cBadClaim, cBadPlan, cBadValues, cBadVersions, cBadWorld, cNoActor, cNoReading, cNoRegister, cNotTogether, cNothingToUndo] cNoActor [false, false, false, false, false, false, true, false, false, false, false]) (N_NoReading : Kin K cT [cBadChoice, cBadClaim, cBadPlan, cBadValues, cBadVersions, cBadWorld, cNoActor, cNoReading, cNoRegister, cNotTogether, cNothingToUndo] cNoReading [false, false, false, false, false, false, false, true, false, false, false]) (N_NoRegister : Kin K cT [cBadChoice, cBadClaim, cBadPlan, cBadValues, cBadVersions, cBadWorld, cNoActor, cNoReading, cNoRegister, cNotTogether, cNothingToUndo] cNoRegister [false, false, false, false, false, false, false, false, true, false, false]) (N_NotTogether : Kin K cT [cBadChoice, cBadClaim, cBadPlan, cBadValues, cBadVersions, cBadWorld, cNoActor, cNoReading, cNoRegister, cNotTogether, cNothingToUndo] cNotTogether [false, false, false, false, false, false, false, false, false, true, false]) (N_NothingToUndo : Kin K cT [cBadChoice, cBadClaim, cBadPlan, cBadValues, cBadVersions, cBadWorld, cNoActor, cNoReading, cNoRegister, cNotTogether, cNothingToUndo] cNothingToUndo [false, false, false, false, false, false, false, false, false, false, true]) {H : Hp} {L : Addr} {z : Int} {x : Str} (h : Six H L cBadWorld cBadPlan cBadValues cNoReading cNoActor cNoRegister z x) (hz : z.natAbs.log2 < 1920) (hx : Good x) (k : Nat) (hk : k < 6) :
    ∃ l t C fld v bs, H L = some (.lst l) ∧ l[k]? = some (V.ref t) ∧ ItemAt H t C fld v ∧ Kin K cT [cBadChoice, cBadClaim, cBadPlan, cBadValues, cBadVersions, cBadWorld, cNoActor, cNoReading, cNoRegister, cNotTogether, cNothingToUndo] C bs ∧ OkV v := by
  obtain ⟨t1, t2, t3, t4, t5, t6, hL, i1, i2, i3, i4, i5, i6⟩ := h.at_
  match k, hk with
  | 0, _ => exact ⟨_, t1, _, _, _, _, hL, rfl, i1, N_BadWorld, .inl ⟨z, rfl, hz⟩⟩
  | 1, _ => exact ⟨_, t2, _, _, _, _, hL, rfl, i2, N_BadPlan, .inl ⟨z, rfl, hz⟩⟩
  | 2, _ => exact ⟨_, t3, _, _, _, _, hL, rfl, i3, N_BadValues, .inl ⟨z, rfl, hz⟩⟩
  | 3, _ => exact ⟨_, t4, _, _, _, _, hL, rfl, i4, N_NoReading, .inr ⟨x, rfl, hx⟩⟩
  | 4, _ => exact ⟨_, t5, _, _, _, _, hL, rfl, i5, N_NoActor, .inr ⟨x, rfl, hx⟩⟩
  | 5, _ => exact ⟨_, t6, _, _, _, _, hL, rfl, i6, N_NoRegister, .inr ⟨x, rfl, hx⟩⟩
  | _ + 6, h => omega
theorem ok_law {f : Addr} {fd : FuncData} {cT cBadChoice cBadClaim cBadPlan cBadValues cBadVersions cBadWorld cNoActor cNoReading cNoRegister cNotTogether cNothingToUndo : Addr} (F : Fun K "law" "law" s_law f fd) (B : Bi mg) (O_BadWorld : Ef P w K mg base "BadWorld" "line" cBadWorld) (O_BadPlan : Ef P w K mg base "BadPlan" "line" cBadPlan) (O_BadValues : Ef P w K mg base "BadValues" "index" cBadValues) (O_NoReading : Ef P w K mg base "NoReading" "name" cNoReading) (O_NoActor : Ef P w K mg base "NoActor" "name" cNoActor) (O_NoRegister : Ef P w K mg base "NoRegister" "name" cNoRegister) (N_BadChoice : Kin K cT [cBadChoice, cBadClaim, cBadPlan, cBadValues, cBadVersions, cBadWorld, cNoActor, cNoReading, cNoRegister, cNotTogether, cNothingToUndo] cBadChoice [true, false, false, false, false, false, false, false, false, false, false]) (N_BadClaim : Kin K cT [cBadChoice, cBadClaim, cBadPlan, cBadValues, cBadVersions, cBadWorld, cNoActor, cNoReading, cNoRegister, cNotTogether, cNothingToUndo] cBadClaim [false, true, false, false, false, false, false, false, false, false, false]) (N_BadPlan : Kin K cT [cBadChoice, cBadClaim, cBadPlan, cBadValues, cBadVersions, cBadWorld, cNoActor, cNoReading, cNoRegister, cNotTogether, cNothingToUndo] cBadPlan [false, false, true, false, false, false, false, false, false, false, false]) (N_BadValues : Kin K cT [cBadChoice, cBadClaim, cBadPlan, cBadValues, cBadVersions, cBadWorld, cNoActor, cNoReading, cNoRegister, cNotTogether, cNothingToUndo] cBadValues [false, false, false, true, false, false, false, false, false, false, false]) (N_BadVersions : Kin K cT [cBadChoice, cBadClaim, cBadPlan, cBadValues, cBadVersions, cBadWorld, cNoActor, cNoReading, cNoRegister, cNotTogether, cNothingToUndo] cBadVersions [false, false, false, false, true, false, false, false, false, false, false]) (N_BadWorld : Kin K cT [cBadChoice, cBadClaim, cBadPlan, cBadValues, cBadVersions, cBadWorld, cNoActor, cNoReading, cNoRegister, cNotTogether, cNothingToUndo] cBadWorld [false, false, false, false, false, true, false, false, false, false, false]) (N_NoActor : Kin K cT [cBadChoice, cBadClaim, cBadPlan, cBadValues, cBadVersions, cBadWorld, cNoActor, cNoReading, cNoRegister, cNotTogether, cNothingToUndo] cNoActor [false, false, false, false, false, false, true, false, false, false, false]) (N_NoReading : Kin K cT [cBadChoice, cBadClaim, cBadPlan, cBadValues, cBadVersions, cBadWorld, cNoActor, cNoReading, cNoRegister, cNotTogether, cNothingToUndo] cNoReading [false, false, false, false, false, false, false, true, false, false, false]) (N_NoRegister : Kin K cT [cBadChoice, cBadClaim, cBadPlan, cBadValues, cBadVersions, cBadWorld, cNoActor, cNoReading, cNoRegister, cNotTogether, cNothingToUndo] cNoRegister [false, false, false, false, false, false, false, false, true, false, false]) (N_NotTogether : Kin K cT [cBadChoice, cBadClaim, cBadPlan, cBadValues, cBadVersions, cBadWorld, cNoActor, cNoReading, cNoRegister, cNotTogether, cNothingToUndo] cNotTogether [false, false, false, false, false, false, false, false, false, true, false]) (N_NothingToUndo : Kin K cT [cBadChoice, cBadClaim, cBadPlan, cBadValues, cBadVersions, cBadWorld, cNoActor, cNoReading, cNoRegister, cNotTogether, cNothingToUndo] cNothingToUndo [false, false, false, false, false, false, false, false, false, false, true]) (C_begun_pen : Cal P w K mg base CX0 1 "_law_begun_pen" P_begun_pen (spBegun K)) (C_draw : Cal P w K mg base CX0 1 "_law_draw" P_draw spDraw) (C_pick : Cal P w K mg base CX0 2 "_law_pick" P_pick spPick)
    (C_new_names : Cal P w K mg base CX0 3 "_law_new_names" P_new_names spNames) (C_fielded : Cal P w K mg base CX0 3 "_law_fielded" P_fielded (spFielded cBadWorld cBadPlan cBadValues cNoReading cNoActor cNoRegister)) (C_is_one : Cal P w K mg base CX0 2 "_law_is_one" P_is_one (spOne K cT [cBadChoice, cBadClaim, cBadPlan, cBadValues, cBadVersions, cBadWorld, cNoActor, cNoReading, cNoRegister, cNotTogether, cNothingToUndo])) (C_plain_right : Cal P w K mg base CX0 3 "_law_plain_right" P_plain_right spPlain) :
    FnOk P w K mg base CX0 4 f fd P_law (spLaw K) := by
  refine F.ok sc_law (fun vs H Q E h => ?_) (fun cdv A outer s H vs Q E hr h => ?_)
  · obtain ⟨a, ns, rfl, _⟩ := h
    rfl
  · obtain ⟨a, ns, rfl, ha, h63, q⟩ := h
    refine ⟨_, (pss_cons (ps_set (i := 1) sc_law.nd rfl (.inl rfl) (pe_cal C_begun_pen (hr.mono (by decide)) (by rfl) pass0 (pa_cons (pv 0) pa_nil)))
      (pss_cons (ps_for PassesOwn.never rfl (pi_range1 (by rfl) B.b_range (pa_cons pe_int pa_nil)) (pg_name (i := 2) sc_law.nd rfl (.inl rfl)) 
          (pss_cons (ps_set (i := 3) sc_law.nd rfl (.inl rfl) (pe_op op_sub (pe_cal C_draw (hr.mono (by decide)) (by rfl) pass0 (pa_cons (pv 1) (pa_cons (pe_op op_pow pe_int pe_int) pa_nil))) (pe_ix ix_list (pe_lst (pa_cons (pe_op op_pow pe_int pe_int) (pa_cons pe_int (pa_cons (pe_cal C_pick (hr.mono (by decide)) (by rfl) pass0 (pa_cons (pv 1) (pa_cons (pe_lst (pa_cons pe_int (pa_cons (pe_op op_pow pe_int pe_int) pa_nil))) pa_nil))) pa_nil)))) (pv 2) (fun _ _ => rfl))))
          (pss_cons (ps_asg (pe_cal C_new_names (hr.mono (by decide)) (by rfl) pass0 (pa_cons (pv 1) (pa_cons pe_int pa_nil))) (pg_unl (by rfl) (pgs_cons (pg_name (i := 4) sc_law.nd rfl (.inl rfl)) (pgs_cons (pg_name (i := 5) sc_law.nd rfl (.inl rfl)) pgs_nil))))
          (pss_cons (ps_par (i := 6) (j := 7) (by rfl) sc_law.nd rfl rfl (by decide) rfl rfl (pa_cons (pe_cal C_fielded (hr.mono (by decide)) (by rfl) pass0 (pa_cons (pv 3) (pa_cons (pv 4) pa_nil))) (pa_cons (pe_cal C_fielded (hr.mono (by decide)) (by rfl) pass0 (pa_cons (pe_op op_add (pv 3) pe_int) (pa_cons (pv 5) pa_nil))) pa_nil)) (by rfl))
          (pss_cons (ps_for PassesOwn.never rfl (pi_range1 (by rfl) B.b_range (pa_cons pe_int pa_nil)) (pg_name (i := 8) sc_law.nd rfl (.inl rfl)) 
              (pss_one (ps_for PassesOwn.never rfl (pi_tup (pe_tup (pa_cons (pe_ix ix_list (pv 6) (pv 8) (fun _ _ => rfl)) (pa_cons (pe_ix ix_list (pv 7) (pv 8) (fun _ _ => rfl)) pa_nil)))) (pg_tup (by rfl) (pgs_cons (pg_name (i := 9) sc_law.nd rfl (.inl rfl)) (pgs_cons (pg_name (i := 10) sc_law.nd rfl (.inl rfl)) (pgs_cons (pg_name (i := 11) sc_law.nd rfl (.inl rfl)) (pgs_cons (pg_name (i := 12) sc_law.nd rfl (.inl rfl)) pgs_nil))))) 
                  (pss_one (ps_if (PW.pt (pw_or (pt_cmpR op_ne (pe_callB cr_reprA (by rfl) B.b_repr (by decide +kernel) (pa_cons (pv 10) pa_nil)) (pe_callB cr_reprA (by rfl) B.b_repr (by decide +kernel) (pa_cons (pv 11) pa_nil)) (nomark _)) (pw_or1 (pt_not (pt_val (pe_cal C_is_one (hr.mono (by decide)) (by rfl) pass0 (pa_cons (pv 9) (pa_cons (pv 12) pa_nil)))))))) 
                      (pss_one (ps_ret pe_bl)) pss_nil)))))
          (pss_cons (ps_set (i := 13) sc_law.nd rfl (.inl rfl) (pe_lst (pa_cons (pe_errF (pe_ix ix_tup (pe_ix ix_list (pv 6) pe_int (fun _ _ => rfl)) pe_int (fun _ _ => rfl))) (pa_cons (pe_errF (pe_ix ix_tup (pe_ix ix_list (pv 6) pe_int (fun _ _ => rfl)) pe_int (fun _ _ => rfl))) (pa_cons (pe_errF (pe_ix ix_tup (pe_ix ix_list (pv 6) pe_int (fun _ _ => rfl)) pe_int (fun _ _ => rfl))) pa_nil)))))
          (pss_cons (ps_set (i := 14) sc_law.nd rfl (.inl rfl) (pe_lst (pa_cons (pe_errF (pe_ix ix_tup (pe_ix ix_list (pv 6) pe_int (fun _ _ => rfl)) pe_int (fun _ _ => rfl))) (pa_cons (pe_errF (pe_ix ix_tup (pe_ix ix_list (pv 6) pe_int (fun _ _ => rfl)) pe_int (fun _ _ => rfl))) (pa_cons (pe_errF (pe_ix ix_tup (pe_ix ix_list (pv 6) pe_int (fun _ _ => rfl)) pe_int (fun _ _ => rfl))) pa_nil)))))
          (pss_cons (ps_if (PW.pt (pw_or (pt_cmpR (op_neD hr.units) (pv 13) (pe_op op_rep (pe_lst (pa_cons (pv 3) pa_nil)) pe_int) (nomark _)) (pw_or1 (pt_cmpR (op_neD hr.units) (pv 14) (pe_op op_rep (pe_lst (pa_cons (pv 4) pa_nil)) pe_int) (nomark _))))) 
              (pss_one (ps_ret pe_bl)) pss_nil)
          (pss_one (ps_if (pt_not (pt_val (pe_cal0 C_plain_right (hr.mono (by decide)) (by rfl) pass0))) 
              (pss_one (ps_ret pe_bl)) pss_nil))))))))))
      (pss_one (ps_ret pe_bl)))), ?_⟩
    refine ⟨_, rfl, a, ns, rfl, ha, h63, fun H1 p s1 np c hp => ?_⟩
    refine ⟨3, rfl, by decide, by decide, for_range (lo := 0) (n := 3) (fun i σ H' => ∃ v2 v3 v4 v5 v6 v7 v8 v9 v10 v11 v12 v13 v14, σ = [some (.ref a), some (.ref p), v2, v3, v4, v5, v6, v7, v8, v9, v10, v11, v12, v13, v14] ∧ Pen H' p c (100 * i))
      ⟨none, none, none, none, none, none, none, none, none, none, none, none, none, rfl, hp.mono (by omega)⟩ ?_ ?_⟩
    · rintro i σ H2 hi ⟨v2, v3, v4, v5, v6, v7, v8, v9, v10, v11, v12, v13, v14, rfl, hp2⟩
      refine ⟨_, rfl, _, _, rfl, rfl, ⟨by decide, by decide, by decide⟩, p, c, _, 100 * i, rfl, hp2, by decide, by decide, by omega, fun r H3 r0 r1 p3 s3 => ?_⟩
      refine ⟨_, _, rfl, rfl, ⟨by decide, by decide, by decide⟩, _, rfl, _, _, rfl, rfl, ⟨by decide, by decide, by decide⟩, by show 2 ≤ sizeLine; decide, fun o no => ?_⟩
      have so := fun u => same_new (o := u) no
      refine ⟨p, o, c, 100 * i + 1, _, rfl, upd_same, p3.same (so _), Nat.zero_lt_succ _, by show 2 ≤ 1000; decide, by omega, fun r2 x2 H5 hx2 p5 s5 => ?_⟩
      have hx2' : ∃ v : Int, x2 = .int v ∧ 0 ≤ v ∧ v ≤ 10 ^ 60 := by
        match r2, hx2 with
        | 0, h => exact ⟨_, (Option.some.inj h).symm, by decide, by decide⟩
        | 1, h => exact ⟨_, (Option.some.inj h).symm, by decide, by decide⟩
        | _ + 2, h => cases h
      obtain ⟨v, rfl, v0, v60⟩ := hx2'
      refine ⟨by show 3 ≤ sizeLine; decide, fun D nD => ?_⟩
      have sD := fun u => same_new (o := u) nD
      have hy : ∃ y : Int, ([V.int ((10 : Int) ^ Int.toNat 60), .int 0, .int v] : List V)[i]? = some (.int y) ∧ 0 ≤ y ∧ y ≤ 10 ^ 60 := by
        match i, hi with
        | 0, _ => exact ⟨_, rfl, by decide, by decide⟩
        | 1, _ => exact ⟨_, rfl, by decide, by decide⟩
        | 2, _ => exact ⟨_, rfl, v0, v60⟩
        | _ + 3, h => omega
      obtain ⟨y, hy, y0, y60⟩ := hy
      refine ⟨_, rfl, D, _, _, _, rfl, rfl, sqL upd_same, at_of (j := i) (by omega) hy, _, _, rfl, rfl, ?_⟩
      have pD := p5.same (sD (.lst [V.int ((10 : Int) ^ Int.toNat 60), .int 0, .int v]))
      generalize upd H5 D (.lst [V.int ((10 : Int) ^ Int.toNat 60), .int 0, .int v]) = H6 at pD
      have r1' : r < 10 ^ 60 := r1
      have z1 : r - y < 10 ^ 60 := by omega
      have z2 : -(10 ^ 60) ≤ r - y := by omega
      generalize hz : r - y = z at z1 z2
      show gName 3 (V.int (r - y)) _ _ _
      rw [hz]
      refine ⟨_, rfl, p, c, 100 * i + 1 + 1, rfl, pD, by omega, fun H7 LN xt xo s7 p7 hLN gx go => ?_⟩
      refine ⟨LN, _, rfl, sqL hLN, rfl, _, _, rfl, _, _, rfl, rfl, ?_⟩
      refine ⟨_, rfl, _, rfl, z, xt, rfl, fun H8 L1 s8 six1 => ?_⟩
      refine ⟨_, rfl, _, _, rfl, rfl, _, rfl, z + 1, xo, rfl, fun H10 L2 s10 six2 => ?_⟩
      refine ⟨_, _, rfl, ?_⟩
      have lz : z.natAbs.log2 < 1920 := log_ok (by omega) (by omega)
      have lz1 : (z + 1).natAbs.log2 < 1920 := log_ok (by omega) (by omega)
      have p10 := p7.same (s8.trans s10)
      have get1 := fun k hk => six_get (H := H8) N_BadChoice N_BadClaim N_BadPlan N_BadValues N_BadVersions N_BadWorld N_NoActor N_NoReading N_NoRegister N_NotTogether N_NothingToUndo six1 lz gx k hk
      have get2 := fun k hk => six_get (H := H10) N_BadChoice N_BadClaim N_BadPlan N_BadValues N_BadVersions N_BadWorld N_NoActor N_NoReading N_NoRegister N_NotTogether N_NothingToUndo six2 lz1 go k hk
      obtain ⟨t1, t2, t3, t4, t5, t6, hL1, ⟨e1, d1, T1, E1, D1⟩, ⟨e2, d2, T2, E2, D2⟩, ⟨e3, d3, T3, E3, D3⟩, ⟨e4, d4, T4, E4, D4⟩, ⟨e5, d5, T5, E5, D5⟩, ⟨e6, d6, T6, E6, D6⟩⟩ := six1.at_
      refine ⟨6, rfl, by decide, by decide, for_range (lo := 0) (n := 6) (fun k σ H' => ∃ w8 w9 w10 w11 w12, σ = [some (.ref a), some (.ref p), some (.int (0 + (i : Int))), some (.int z), some (.str xt), some (.str xo), some (.ref L1), some (.ref L2), w8, w9, w10, w11, w12, v13, v14] ∧ Same H10 H') ⟨_, _, _, _, _, rfl, Same.refl _⟩ ?_ ?_⟩
      · rintro k σ H11 hk ⟨w8, w9, w10, w11, w12, rfl, s11⟩
        obtain ⟨l1, u1, C1, f1, x1, bs1, hl1, hu1, it1, kin1, ok1⟩ := get1 k hk
        obtain ⟨l2, u2, C2, f2, x2, bs2, hl2, hu2, it2, kin2, ok2⟩ := get2 k hk
        have s811 := s10.trans s11
        refine ⟨_, rfl, _, rfl, L1, _, _, _, rfl, rfl, sqL (s811 _ _ hl1), at_of (j := k) (by omega) hu1, ?_⟩
        refine ⟨_, rfl, _, rfl, L2, _, _, _, rfl, rfl, sqL (s11 _ _ hl2), at_of (j := k) (by omega) hu2, by show 2 ≤ sizeLine; decide, fun T nT => ?_⟩
        have s12 := same_new (o := .tup [.ref u1, .ref u2]) nT
        refine ⟨T, rfl, ⟨_, sqT upd_same⟩, for_tup (K := K) (a := T) (xs := [.ref u1, .ref u2]) (fun _ σ H' => ∃ w9 w10 w11 w12, σ = [some (.ref a), some (.ref p), some (.int (0 + (i : Int))), some (.int z), some (.str xt), some (.str xo), some (.ref L1), some (.ref L2), some (.int (0 + (k : Int))), w9, w10, w11, w12, v13, v14] ∧ Same (upd H11 T (.tup [.ref u1, .ref u2])) H') ⟨_, _, _, _, rfl, Same.refl _⟩ (fun _ σ H' _ hP => ?_) ?_ ?_⟩
        · obtain ⟨_, _, _, _, _, zz⟩ := hP
          exact same_t zz (sqT upd_same)
        · rintro j x σ H13 hx ⟨w9, w10, w11, w12, rfl, s13⟩
          have hxx : ∃ (u C : Addr) (f : Str) (vv : V) (bs : List Bool), x = .ref u ∧ ItemAt H10 u C f vv ∧ Kin K cT [cBadChoice, cBadClaim, cBadPlan, cBadValues, cBadVersions, cBadWorld, cNoActor, cNoReading, cNoRegister, cNotTogether, cNothingToUndo] C bs ∧ OkV vv := by
            match j, hx with
            | 0, h => exact ⟨u1, C1, f1, x1, bs1, (Option.some.inj h).symm, it1.same s10, kin1, ok1⟩
            | 1, h => exact ⟨u2, C2, f2, x2, bs2, (Option.some.inj h).symm, it2, kin2, ok2⟩
            | _ + 2, h => cases h
          obtain ⟨u, C, f, vv, bs, rfl, it, kin, okv⟩ := hxx
          obtain ⟨e, d, hU, hEx, hDx⟩ := it.same (s11.trans (s12.trans s13))
          refine ⟨u, _, rfl, sqT hU, rfl, _, _, rfl, _, _, rfl, _, _, rfl, _, _, rfl, rfl, ?_⟩
          have rest : ∀ {H' : Hp}, Same H13 H' → ErrAt H' e C := fun sx => .inr ⟨d, _, sx _ _ hEx, sx _ _ hDx⟩
          rcases okv with ⟨iv, rfl, hiv⟩ | ⟨xv, rfl, gv⟩
          · refine ⟨_, rfl, .inl ⟨iv, rfl, hiv, _, rfl, .inl ⟨iv, rfl, hiv, rfl, _, rfl, ?_⟩⟩⟩
            rw [decide_eq_true rfl]
            refine iteF ?_
            refine ⟨_, rfl, _, rfl, e, C, bs, rfl, rest (Same.refl _), kin, fun H14 s14 => ?_⟩
            refine ⟨_, rfl, iteF ?_⟩
            exact ⟨_, _, _, _, rfl, s13.trans s14⟩
          · refine ⟨_, rfl, .inr ⟨xv, rfl, gv.1, _, rfl, .inr ⟨xv, rfl, gv.1, rfl, _, rfl, ?_⟩⟩⟩
            rw [decide_eq_true rfl]
            refine iteF ?_
            refine ⟨_, rfl, _, rfl, e, C, bs, rfl, rest (Same.refl _), kin, fun H14 s14 => ?_⟩
            refine ⟨_, rfl, iteF ?_⟩
            exact ⟨_, _, _, _, rfl, s13.trans s14⟩
        · rintro σ H13 ⟨w9, w10, w11, w12, rfl, s13⟩
          exact ⟨_, _, _, _, _, rfl, s11.trans (s12.trans s13)⟩
      rintro σ H11 ⟨w8, w9, w10, w11, w12, rfl, s11⟩
      have SG := s10.trans s11
      refine ⟨_, rfl, L1, _, 0, _, rfl, rfl, sqL (SG _ _ hL1), atI_nat (j := 0) rfl, t1, _, 0, _, rfl, rfl, sqT (SG _ _ T1), atI_nat (j := 0) rfl, e1, cBadWorld, d1, _, _, rfl, O_BadWorld.xf, O_BadWorld.no, SG _ _ E1, SG _ _ D1, rfl, ?_⟩
      refine ⟨_, rfl, L1, _, 1, _, rfl, rfl, sqL (SG _ _ hL1), atI_nat (j := 1) rfl, t2, _, 0, _, rfl, rfl, sqT (SG _ _ T2), atI_nat (j := 0) rfl, e2, cBadPlan, d2, _, _, rfl, O_BadPlan.xf, O_BadPlan.no, SG _ _ E2, SG _ _ D2, rfl, ?_⟩
      refine ⟨_, rfl, L1, _, 2, _, rfl, rfl, sqL (SG _ _ hL1), atI_nat (j := 2) rfl, t3, _, 0, _, rfl, rfl, sqT (SG _ _ T3), atI_nat (j := 0) rfl, e3, cBadValues, d3, _, _, rfl, O_BadValues.xf, O_BadValues.no, SG _ _ E3, SG _ _ D3, rfl, by show 3 ≤ sizeLine; decide, fun AL nA => ?_⟩
      have sA := same_new (o := .lst [.int z, .int z, .int z]) nA
      have hA : upd H11 AL (.lst [.int z, .int z, .int z]) AL = some (.lst [.int z, .int z, .int z]) := upd_same
      have SG0 := SG
      have SG := SG0.trans sA
      have sA0 := s11.trans sA
      generalize upd H11 AL (.lst [.int z, .int z, .int z]) = H12 at sA hA SG sA0
      refine ⟨_, rfl, L1, _, 3, _, rfl, rfl, sqL (SG _ _ hL1), atI_nat (j := 3) rfl, t4, _, 0, _, rfl, rfl, sqT (SG _ _ T4), atI_nat (j := 0) rfl, e4, cNoReading, d4, _, _, rfl, O_NoReading.xf, O_NoReading.no, SG _ _ E4, SG _ _ D4, rfl, ?_⟩
      refine ⟨_, rfl, L1, _, 4, _, rfl, rfl, sqL (SG _ _ hL1), atI_nat (j := 4) rfl, t5, _, 0, _, rfl, rfl, sqT (SG _ _ T5), atI_nat (j := 0) rfl, e5, cNoActor, d5, _, _, rfl, O_NoActor.xf, O_NoActor.no, SG _ _ E5, SG _ _ D5, rfl, ?_⟩
      refine ⟨_, rfl, L1, _, 5, _, rfl, rfl, sqL (SG _ _ hL1), atI_nat (j := 5) rfl, t6, _, 0, _, rfl, rfl, sqT (SG _ _ T6), atI_nat (j := 0) rfl, e6, cNoRegister, d6, _, _, rfl, O_NoRegister.xf, O_NoRegister.no, SG _ _ E6, SG _ _ D6, rfl, by show 3 ≤ sizeLine; decide, fun BL nB => ?_⟩
      have sB := same_new (o := .lst [.str xt, .str xt, .str xt]) nB
      have hB : upd H12 BL (.lst [.str xt, .str xt, .str xt]) BL = some (.lst [.str xt, .str xt, .str xt]) := upd_same
      have hA2 := sB _ _ hA
      have sAB := sA0.trans sB
      generalize upd H12 BL (.lst [.str xt, .str xt, .str xt]) = H13 at sB hB hA2 sAB
      refine ⟨_, rfl, _, rfl, by show 1 ≤ sizeLine; decide, fun q1 nq1 => ⟨q1, 3, _, rfl, rfl, upd_same, by decide, by decide, by show 1 * 3 ≤ sizeLine; decide, fun q2 nq2 => ?_⟩⟩
      have m1 := same_new (o := .lst [.int z]) nq1
      have m2 := same_new (o := .lst (List.replicate (Int.toNat 3) [V.int z]).flatten) nq2
      refine ⟨.list ([z, z, z].map .int), .list ([z, z, z].map .int), .lst (sqL (m2 _ _ (m1 _ _ hA2))) (dp_ints [z, z, z]), .lst (sqL upd_same) (dp_ints [z, z, z]), shaped_ints _, shaped_ints _, _, rfl, ?_⟩
      rw [SeqAt.eqv_refl _ (okD_list (okD_ints 0 [z, z, z])).1]
      refine iteF ?_
      have m12 := m1.trans m2
      generalize upd (upd H13 q1 (.lst [.int z])) q2 (.lst (List.replicate (Int.toNat 3) [V.int z]).flatten) = H14 at m12
      refine ⟨_, rfl, _, rfl, by show 1 ≤ sizeLine; decide, fun q3 nq3 => ⟨q3, 3, _, rfl, rfl, upd_same, by decide, by decide, by show 1 * 3 ≤ sizeLine; decide, fun q4 nq4 => ?_⟩⟩
      have m3 := same_new (o := .lst [.str xt]) nq3
      have m4 := same_new (o := .lst (List.replicate (Int.toNat 3) [V.str xt]).flatten) nq4
      have g3 : ∀ x ∈ [xt, xt, xt], Good x := fun x hx => by
        have : x = xt := by simpa using hx
        rw [this]
        exact gx
      refine ⟨.list ([xt, xt, xt].map .str), .list ([xt, xt, xt].map .str), .lst (sqL (m4 _ _ (m3 _ _ (m12 _ _ hB)))) (dp_strs [xt, xt, xt]), .lst (sqL upd_same) (dp_strs [xt, xt, xt]), okD_shaped (okD_list (okD_strs 0 g3)) (by decide), okD_shaped (okD_list (okD_strs 0 g3)) (by decide), _, rfl, ?_⟩
      rw [SeqAt.eqv_refl _ (okD_list (okD_strs 0 g3)).1]
      refine iteF ?_
      refine ⟨rfl, fun H15 s15 => ?_⟩
      refine ⟨_, rfl, iteF ?_⟩
      exact ⟨_, _, _, _, _, _, _, _, _, _, _, _, _, rfl, (p10.same (sAB.trans (m12.trans (m3.trans (m4.trans s15))))).mono (by omega)⟩
    · rintro σ H2 ⟨v2, v3, v4, v5, v6, v7, v8, v9, v10, v11, v12, v13, v14, rfl, hp2⟩
      exact q H2
end
end Dg
namespace Dg
open PySem PySem.Spec PyProof.Rows L2
theorem all_mk {P : Program} {w : World} {K : PySem.W.Frag} {h : Heap} {mg : Str → Option Value} {fa : Addr} (X : K.In h) (G : h.Ns mainGlobals mg) (hfa : mg "law" = some (.ref fa))
    {od0 an0 : Option Addr} {sl0 : Array (Option Value)} {oc0 kV0 dc0 pm0 cd0 ct0 : Value} {f0 : Addr}
    {od1 an1 : Option Addr} {sl1 : Array (Option Value)} {oc1 kV1 dc1 pm1 cd1 ct1 : Value} {f1 : Addr}
    {od2 an2 : Option Addr} {sl2 : Array (Option Value)} {oc2 kV2 dc2 pm2 cd2 ct2 : Value} {f2 : Addr}
    {od3 an3 : Option Addr} {sl3 : Array (Option Value)} {oc3 kV3 dc3 pm3 cd3 ct3 : Value} {f3 : Addr}
    {od4 an4 : Option Addr} {sl4 : Array (Option Value)} {oc4 kV4 dc4 pm4 cd4 ct4 : Value} {f4 : Addr}
    {od5 an5 : Option Addr} {sl5 : Array (Option Value)} {oc5 kV5 dc5 pm5 cd5 ct5 : Value} {f5 : Addr}
    {od6 an6 : Option Addr} {sl6 : Array (Option Value)} {oc6 kV6 dc6 pm6 cd6 ct6 : Value} {f6 : Addr}
    {od7 an7 : Option Addr} {sl7 : Array (Option Value)} {oc7 kV7 dc7 pm7 cd7 ct7 : Value} {f7 : Addr}
    {od8 an8 : Option Addr} {sl8 : Array (Option Value)} {oc8 kV8 dc8 pm8 cd8 ct8 : Value} {f8 : Addr}
    {od9 an9 : Option Addr} {sl9 : Array (Option Value)} {oc9 kV9 dc9 pm9 cd9 ct9 : Value} {f9 : Addr}
    {cE_BadChoice : Addr}
    {cE_BadClaim : Addr}
    {cE_BadVersions : Addr}
    {cE_NotTogether : Addr}
    {cE_NothingToUndo : Addr}
    {cT : Addr}
    {cE_BadPlan fI_BadPlan N_BadPlan : Addr} {nm_BadPlan q_BadPlan : Str} {bs_BadPlan bm_BadPlan sub_BadPlan : List Value} {sn_BadPlan : List Str} {ab_BadPlan : Bool} {col_BadPlan : Option Bool} {dd_BadPlan odI_BadPlan anI_BadPlan : Option Addr} {m0_BadPlan m1_BadPlan m2_BadPlan m3_BadPlan m5_BadPlan : Option Value} {slI_BadPlan : Array (Option Value)} {ocI_BadPlan kVI_BadPlan dcI_BadPlan pmI_BadPlan cdI_BadPlan ctI_BadPlan : Value}
    {cE_BadValues fI_BadValues N_BadValues : Addr} {nm_BadValues q_BadValues : Str} {bs_BadValues bm_BadValues sub_BadValues : List Value} {sn_BadValues : List Str} {ab_BadValues : Bool} {col_BadValues : Option Bool} {dd_BadValues odI_BadValues anI_BadValues : Option Addr} {m0_BadValues m1_BadValues m2_BadValues m3_BadValues m5_BadValues : Option Value} {slI_BadValues : Array (Option Value)} {ocI_BadValues kVI_BadValues dcI_BadValues pmI_BadValues cdI_BadValues ctI_BadValues : Value}
    {cE_BadWorld fI_BadWorld N_BadWorld : Addr} {nm_BadWorld q_BadWorld : Str} {bs_BadWorld bm_BadWorld sub_BadWorld : List Value} {sn_BadWorld : List Str} {ab_BadWorld : Bool} {col_BadWorld : Option Bool} {dd_BadWorld odI_BadWorld anI_BadWorld : Option Addr} {m0_BadWorld m1_BadWorld m2_BadWorld m3_BadWorld m5_BadWorld : Option Value} {slI_BadWorld : Array (Option Value)} {ocI_BadWorld kVI_BadWorld dcI_BadWorld pmI_BadWorld cdI_BadWorld ctI_BadWorld : Value}
    {cE_NoActor fI_NoActor N_NoActor : Addr} {nm_NoActor q_NoActor : Str} {bs_NoActor bm_NoActor sub_NoActor : List Value} {sn_NoActor : List Str} {ab_NoActor : Bool} {col_NoActor : Option Bool} {dd_NoActor odI_NoActor anI_NoActor : Option Addr} {m0_NoActor m1_NoActor m2_NoActor m3_NoActor m5_NoActor : Option Value} {slI_NoActor : Array (Option Value)} {ocI_NoActor kVI_NoActor dcI_NoActor pmI_NoActor cdI_NoActor ctI_NoActor : Value}
    {cE_NoReading fI_NoReading N_NoReading : Addr} {nm_NoReading q_NoReading : Str} {bs_NoReading bm_NoReading sub_NoReading : List Value} {sn_NoReading : List Str} {ab_NoReading : Bool} {col_NoReading : Option Bool} {dd_NoReading odI_NoReading anI_NoReading : Option Addr} {m0_NoReading m1_NoReading m2_NoReading m3_NoReading m5_NoReading : Option Value} {slI_NoReading : Array (Option Value)} {ocI_NoReading kVI_NoReading dcI_NoReading pmI_NoReading cdI_NoReading ctI_NoReading : Value}
    {cE_NoRegister fI_NoRegister N_NoRegister : Addr} {nm_NoRegister q_NoRegister : Str} {bs_NoRegister bm_NoRegister sub_NoRegister : List Value} {sn_NoRegister : List Str} {ab_NoRegister : Bool} {col_NoRegister : Option Bool} {dd_NoRegister odI_NoRegister anI_NoRegister : Option Addr} {m0_NoRegister m1_NoRegister m2_NoRegister m3_NoRegister m5_NoRegister : Option Value} {slI_NoRegister : Array (Option Value)} {ocI_NoRegister kVI_NoRegister dcI_NoRegister pmI_NoRegister cdI_NoRegister ctI_NoRegister : Value}
    (a0 : PySem.W.nsIn K mainGlobals "_law_draw" = some (some (.ref f0)))
    (l0 : K.lookup f0 = some ⟨oc0, od0, .func (PySem.W.fnOf "_law_draw" "_law_draw" (defArgs s_draw) (defBody s_draw) (defScope s_draw) .none kV0 dc0 pm0 an0 cd0 ct0), sl0⟩)
    (c0 : PySem.W.codeIn K cd0 "_law_draw" = true)
    (k0 : PySem.W.keepIn K (.ref f0) = true)
    (a1 : PySem.W.nsIn K mainGlobals "_law_begun_pen" = some (some (.ref f1)))
    (l1 : K.lookup f1 = some ⟨oc1, od1, .func (PySem.W.fnOf "_law_begun_pen" "_law_begun_pen" (defArgs s_begun_pen) (defBody s_begun_pen) (defScope s_begun_pen) .none kV1 dc1 pm1 an1 cd1 ct1), sl1⟩)
    (c1 : PySem.W.codeIn K cd1 "_law_begun_pen" = true)
    (k1 : PySem.W.keepIn K (.ref f1) = true)
    (a2 : PySem.W.nsIn K mainGlobals "_law_pick" = some (some (.ref f2)))
    (l2 : K.lookup f2 = some ⟨oc2, od2, .func (PySem.W.fnOf "_law_pick" "_law_pick" (defArgs s_pick) (defBody s_pick) (defScope s_pick) .none kV2 dc2 pm2 an2 cd2 ct2), sl2⟩)
    (c2 : PySem.W.codeIn K cd2 "_law_pick" = true)
    (k2 : PySem.W.keepIn K (.ref f2) = true)
    (a3 : PySem.W.nsIn K mainGlobals "_law_shuffled" = some (some (.ref f3)))
    (l3 : K.lookup f3 = some ⟨oc3, od3, .func (PySem.W.fnOf "_law_shuffled" "_law_shuffled" (defArgs s_shuffled) (defBody s_shuffled) (defScope s_shuffled) .none kV3 dc3 pm3 an3 cd3 ct3), sl3⟩)
    (c3 : PySem.W.codeIn K cd3 "_law_shuffled" = true)
    (k3 : PySem.W.keepIn K (.ref f3) = true)
    (a4 : PySem.W.nsIn K mainGlobals "_law_new_names" = some (some (.ref f4)))
    (l4 : K.lookup f4 = some ⟨oc4, od4, .func (PySem.W.fnOf "_law_new_names" "_law_new_names" (defArgs s_new_names) (defBody s_new_names) (defScope s_new_names) .none kV4 dc4 pm4 an4 cd4 ct4), sl4⟩)
    (c4 : PySem.W.codeIn K cd4 "_law_new_names" = true)
    (k4 : PySem.W.keepIn K (.ref f4) = true)
    (a5 : PySem.W.nsIn K mainGlobals "_law_classes" = some (some (.ref f5)))
    (l5 : K.lookup f5 = some ⟨oc5, od5, .func (PySem.W.fnOf "_law_classes" "_law_classes" (defArgs s_classes) (defBody s_classes) (defScope s_classes) .none kV5 dc5 pm5 an5 cd5 ct5), sl5⟩)
    (c5 : PySem.W.codeIn K cd5 "_law_classes" = true)
    (k5 : PySem.W.keepIn K (.ref f5) = true)
    (a6 : PySem.W.nsIn K mainGlobals "_law_is_one" = some (some (.ref f6)))
    (l6 : K.lookup f6 = some ⟨oc6, od6, .func (PySem.W.fnOf "_law_is_one" "_law_is_one" (defArgs s_is_one) (defBody s_is_one) (defScope s_is_one) .none kV6 dc6 pm6 an6 cd6 ct6), sl6⟩)
    (c6 : PySem.W.codeIn K cd6 "_law_is_one" = true)
    (k6 : PySem.W.keepIn K (.ref f6) = true)
    (a7 : PySem.W.nsIn K mainGlobals "_law_fielded" = some (some (.ref f7)))
    (l7 : K.lookup f7 = some ⟨oc7, od7, .func (PySem.W.fnOf "_law_fielded" "_law_fielded" (defArgs s_fielded) (defBody s_fielded) (defScope s_fielded) .none kV7 dc7 pm7 an7 cd7 ct7), sl7⟩)
    (c7 : PySem.W.codeIn K cd7 "_law_fielded" = true)
    (k7 : PySem.W.keepIn K (.ref f7) = true)
    (a8 : PySem.W.nsIn K mainGlobals "_law_plain_right" = some (some (.ref f8)))
    (l8 : K.lookup f8 = some ⟨oc8, od8, .func (PySem.W.fnOf "_law_plain_right" "_law_plain_right" (defArgs s_plain_right) (defBody s_plain_right) (defScope s_plain_right) .none kV8 dc8 pm8 an8 cd8 ct8), sl8⟩)
    (c8 : PySem.W.codeIn K cd8 "_law_plain_right" = true)
    (k8 : PySem.W.keepIn K (.ref f8) = true)
    (a9 : PySem.W.nsIn K mainGlobals "law" = some (some (.ref f9)))
    (l9 : K.lookup f9 = some ⟨oc9, od9, .func (PySem.W.fnOf "law" "law" (defArgs s_law) (defBody s_law) (defScope s_law) .none kV9 dc9 pm9 an9 cd9 ct9), sl9⟩)
    (c9 : PySem.W.codeIn K cd9 "law" = true)
    (k9 : PySem.W.keepIn K (.ref f9) = true)
    (aE_BadChoice : PySem.W.nsIn K mainGlobals "BadChoice" = some (some (.ref cE_BadChoice)))
    (xE_BadChoice : PySem.W.excIn K cE_BadChoice [.type "ValueError", .type "Exception", .type "BaseException", .type "object"] "ValueError.__new__" = true)
    (kE_BadChoice : PySem.W.keepIn K (.ref cE_BadChoice) = true)
    (bE_BadChoice : PySem.W.subIn K (.ref cE_BadChoice) (.type "BaseException") = some true)
    (tE_BadChoice : PySem.W.typeIn K (.ref cE_BadChoice) = some (.type "type"))
    (iE_BadChoice : PySem.W.isClsIn K cE_BadChoice = true)
    (sE_BadChoice : PySem.W.subIn K (.ref cE_BadChoice) (.ref cE_BadChoice) = some true)
    (aE_BadClaim : PySem.W.nsIn K mainGlobals "BadClaim" = some (some (.ref cE_BadClaim)))
    (xE_BadClaim : PySem.W.excIn K cE_BadClaim [.type "ValueError", .type "Exception", .type "BaseException", .type "object"] "ValueError.__new__" = true)
    (kE_BadClaim : PySem.W.keepIn K (.ref cE_BadClaim) = true)
    (bE_BadClaim : PySem.W.subIn K (.ref cE_BadClaim) (.type "BaseException") = some true)
    (tE_BadClaim : PySem.W.typeIn K (.ref cE_BadClaim) = some (.type "type"))
    (iE_BadClaim : PySem.W.isClsIn K cE_BadClaim = true)
    (sE_BadClaim : PySem.W.subIn K (.ref cE_BadClaim) (.ref cE_BadClaim) = some true)
    (aE_BadVersions : PySem.W.nsIn K mainGlobals "BadVersions" = some (some (.ref cE_BadVersions)))
    (xE_BadVersions : PySem.W.excIn K cE_BadVersions [.type "ValueError", .type "Exception", .type "BaseException", .type "object"] "ValueError.__new__" = true)
    (kE_BadVersions : PySem.W.keepIn K (.ref cE_BadVersions) = true)
    (bE_BadVersions : PySem.W.subIn K (.ref cE_BadVersions) (.type "BaseException") = some true)
    (tE_BadVersions : PySem.W.typeIn K (.ref cE_BadVersions) = some (.type "type"))
    (iE_BadVersions : PySem.W.isClsIn K cE_BadVersions = true)
    (sE_BadVersions : PySem.W.subIn K (.ref cE_BadVersions) (.ref cE_BadVersions) = some true)
    (aE_NotTogether : PySem.W.nsIn K mainGlobals "NotTogether" = some (some (.ref cE_NotTogether)))
    (xE_NotTogether : PySem.W.excIn K cE_NotTogether [.type "ValueError", .type "Exception", .type "BaseException", .type "object"] "ValueError.__new__" = true)
    (kE_NotTogether : PySem.W.keepIn K (.ref cE_NotTogether) = true)
    (bE_NotTogether : PySem.W.subIn K (.ref cE_NotTogether) (.type "BaseException") = some true)
    (tE_NotTogether : PySem.W.typeIn K (.ref cE_NotTogether) = some (.type "type"))
    (iE_NotTogether : PySem.W.isClsIn K cE_NotTogether = true)
    (sE_NotTogether : PySem.W.subIn K (.ref cE_NotTogether) (.ref cE_NotTogether) = some true)
    (aE_NothingToUndo : PySem.W.nsIn K mainGlobals "NothingToUndo" = some (some (.ref cE_NothingToUndo)))
    (xE_NothingToUndo : PySem.W.excIn K cE_NothingToUndo [.type "ValueError", .type "Exception", .type "BaseException", .type "object"] "ValueError.__new__" = true)
    (kE_NothingToUndo : PySem.W.keepIn K (.ref cE_NothingToUndo) = true)
    (bE_NothingToUndo : PySem.W.subIn K (.ref cE_NothingToUndo) (.type "BaseException") = some true)
    (tE_NothingToUndo : PySem.W.typeIn K (.ref cE_NothingToUndo) = some (.type "type"))
    (iE_NothingToUndo : PySem.W.isClsIn K cE_NothingToUndo = true)
    (sE_NothingToUndo : PySem.W.subIn K (.ref cE_NothingToUndo) (.ref cE_NothingToUndo) = some true)
    (aT : PySem.W.nsIn K mainGlobals "TurnError" = some (some (.ref cT)))
    (g1_BadChoice : PySem.W.findIn K (.ref cE_BadChoice) "__getattribute__" = some (some (.builtin "BaseException.__getattribute__")))
    (g2_BadChoice : PySem.W.findIn K (.ref cE_BadChoice) "__getattr__" = some none)
    (g3_BadChoice : PySem.W.hasDictIn K cE_BadChoice = true)
    (g4_BadChoice : PySem.W.findIn K (.ref cE_BadChoice) "__class__" = some (some (.builtin "object.__class__")))
    (g5_BadChoice : PySem.W.specialIn K (.builtin "object.__class__") "__get__" = some (some (.builtin "getset_descriptor.__get__")))
    (g6_BadChoice : PySem.W.takesIn K (.builtin "object.__class__") = some true)
    (g7_BadChoice : PySem.W.mroIn K cE_BadChoice (.type "object") = some true)
    (kT_BadChoice : PySem.W.kitOne K (.ref cE_BadChoice) (.ref cT) = some true)
    (kV_BadChoice : PySem.W.kitOne K (.ref cE_BadChoice) (.type "ValueError") = some true)
    (g1_BadClaim : PySem.W.findIn K (.ref cE_BadClaim) "__getattribute__" = some (some (.builtin "BaseException.__getattribute__")))
    (g2_BadClaim : PySem.W.findIn K (.ref cE_BadClaim) "__getattr__" = some none)
    (g3_BadClaim : PySem.W.hasDictIn K cE_BadClaim = true)
    (g4_BadClaim : PySem.W.findIn K (.ref cE_BadClaim) "__class__" = some (some (.builtin "object.__class__")))
    (g5_BadClaim : PySem.W.specialIn K (.builtin "object.__class__") "__get__" = some (some (.builtin "getset_descriptor.__get__")))
    (g6_BadClaim : PySem.W.takesIn K (.builtin "object.__class__") = some true)
    (g7_BadClaim : PySem.W.mroIn K cE_BadClaim (.type "object") = some true)
    (kT_BadClaim : PySem.W.kitOne K (.ref cE_BadClaim) (.ref cT) = some true)
    (kV_BadClaim : PySem.W.kitOne K (.ref cE_BadClaim) (.type "ValueError") = some true)
    (g1_BadPlan : PySem.W.findIn K (.ref cE_BadPlan) "__getattribute__" = some (some (.builtin "BaseException.__getattribute__")))
    (g2_BadPlan : PySem.W.findIn K (.ref cE_BadPlan) "__getattr__" = some none)
    (g3_BadPlan : PySem.W.hasDictIn K cE_BadPlan = true)
    (g4_BadPlan : PySem.W.findIn K (.ref cE_BadPlan) "__class__" = some (some (.builtin "object.__class__")))
    (g5_BadPlan : PySem.W.specialIn K (.builtin "object.__class__") "__get__" = some (some (.builtin "getset_descriptor.__get__")))
    (g6_BadPlan : PySem.W.takesIn K (.builtin "object.__class__") = some true)
    (g7_BadPlan : PySem.W.mroIn K cE_BadPlan (.type "object") = some true)
    (kT_BadPlan : PySem.W.kitOne K (.ref cE_BadPlan) (.ref cT) = some true)
    (kV_BadPlan : PySem.W.kitOne K (.ref cE_BadPlan) (.type "ValueError") = some true)
    (g1_BadValues : PySem.W.findIn K (.ref cE_BadValues) "__getattribute__" = some (some (.builtin "BaseException.__getattribute__")))
    (g2_BadValues : PySem.W.findIn K (.ref cE_BadValues) "__getattr__" = some none)
    (g3_BadValues : PySem.W.hasDictIn K cE_BadValues = true)
    (g4_BadValues : PySem.W.findIn K (.ref cE_BadValues) "__class__" = some (some (.builtin "object.__class__")))
    (g5_BadValues : PySem.W.specialIn K (.builtin "object.__class__") "__get__" = some (some (.builtin "getset_descriptor.__get__")))
    (g6_BadValues : PySem.W.takesIn K (.builtin "object.__class__") = some true)
    (g7_BadValues : PySem.W.mroIn K cE_BadValues (.type "object") = some true)
    (kT_BadValues : PySem.W.kitOne K (.ref cE_BadValues) (.ref cT) = some true)
    (kV_BadValues : PySem.W.kitOne K (.ref cE_BadValues) (.type "ValueError") = some true)
    (g1_BadVersions : PySem.W.findIn K (.ref cE_BadVersions) "__getattribute__" = some (some (.builtin "BaseException.__getattribute__")))
    (g2_BadVersions : PySem.W.findIn K (.ref cE_BadVersions) "__getattr__" = some none)
    (g3_BadVersions : PySem.W.hasDictIn K cE_BadVersions = true)
    (g4_BadVersions : PySem.W.findIn K (.ref cE_BadVersions) "__class__" = some (some (.builtin "object.__class__")))
    (g5_BadVersions : PySem.W.specialIn K (.builtin "object.__class__") "__get__" = some (some (.builtin "getset_descriptor.__get__")))
    (g6_BadVersions : PySem.W.takesIn K (.builtin "object.__class__") = some true)
    (g7_BadVersions : PySem.W.mroIn K cE_BadVersions (.type "object") = some true)
    (kT_BadVersions : PySem.W.kitOne K (.ref cE_BadVersions) (.ref cT) = some true)
    (kV_BadVersions : PySem.W.kitOne K (.ref cE_BadVersions) (.type "ValueError") = some true)
    (g1_BadWorld : PySem.W.findIn K (.ref cE_BadWorld) "__getattribute__" = some (some (.builtin "BaseException.__getattribute__")))
    (g2_BadWorld : PySem.W.findIn K (.ref cE_BadWorld) "__getattr__" = some none)
    (g3_BadWorld : PySem.W.hasDictIn K cE_BadWorld = true)
    (g4_BadWorld : PySem.W.findIn K (.ref cE_BadWorld) "__class__" = some (some (.builtin "object.__class__")))
    (g5_BadWorld : PySem.W.specialIn K (.builtin "object.__class__") "__get__" = some (some (.builtin "getset_descriptor.__get__")))
    (g6_BadWorld : PySem.W.takesIn K (.builtin "object.__class__") = some true)
    (g7_BadWorld : PySem.W.mroIn K cE_BadWorld (.type "object") = some true)
    (kT_BadWorld : PySem.W.kitOne K (.ref cE_BadWorld) (.ref cT) = some true)
    (kV_BadWorld : PySem.W.kitOne K (.ref cE_BadWorld) (.type "ValueError") = some true)
    (g1_NoActor : PySem.W.findIn K (.ref cE_NoActor) "__getattribute__" = some (some (.builtin "BaseException.__getattribute__")))
    (g2_NoActor : PySem.W.findIn K (.ref cE_NoActor) "__getattr__" = some none)
    (g3_NoActor : PySem.W.hasDictIn K cE_NoActor = true)
    (g4_NoActor : PySem.W.findIn K (.ref cE_NoActor) "__class__" = some (some (.builtin "object.__class__")))
    (g5_NoActor : PySem.W.specialIn K (.builtin "object.__class__") "__get__" = some (some (.builtin "getset_descriptor.__get__")))
    (g6_NoActor : PySem.W.takesIn K (.builtin "object.__class__") = some true)
    (g7_NoActor : PySem.W.mroIn K cE_NoActor (.type "object") = some true)
    (kT_NoActor : PySem.W.kitOne K (.ref cE_NoActor) (.ref cT) = some true)
    (kV_NoActor : PySem.W.kitOne K (.ref cE_NoActor) (.type "ValueError") = some true)
    (g1_NoReading : PySem.W.findIn K (.ref cE_NoReading) "__getattribute__" = some (some (.builtin "BaseException.__getattribute__")))
    (g2_NoReading : PySem.W.findIn K (.ref cE_NoReading) "__getattr__" = some none)
    (g3_NoReading : PySem.W.hasDictIn K cE_NoReading = true)
    (g4_NoReading : PySem.W.findIn K (.ref cE_NoReading) "__class__" = some (some (.builtin "object.__class__")))
    (g5_NoReading : PySem.W.specialIn K (.builtin "object.__class__") "__get__" = some (some (.builtin "getset_descriptor.__get__")))
    (g6_NoReading : PySem.W.takesIn K (.builtin "object.__class__") = some true)
    (g7_NoReading : PySem.W.mroIn K cE_NoReading (.type "object") = some true)
    (kT_NoReading : PySem.W.kitOne K (.ref cE_NoReading) (.ref cT) = some true)
    (kV_NoReading : PySem.W.kitOne K (.ref cE_NoReading) (.type "ValueError") = some true)
    (g1_NoRegister : PySem.W.findIn K (.ref cE_NoRegister) "__getattribute__" = some (some (.builtin "BaseException.__getattribute__")))
    (g2_NoRegister : PySem.W.findIn K (.ref cE_NoRegister) "__getattr__" = some none)
    (g3_NoRegister : PySem.W.hasDictIn K cE_NoRegister = true)
    (g4_NoRegister : PySem.W.findIn K (.ref cE_NoRegister) "__class__" = some (some (.builtin "object.__class__")))
    (g5_NoRegister : PySem.W.specialIn K (.builtin "object.__class__") "__get__" = some (some (.builtin "getset_descriptor.__get__")))
    (g6_NoRegister : PySem.W.takesIn K (.builtin "object.__class__") = some true)
    (g7_NoRegister : PySem.W.mroIn K cE_NoRegister (.type "object") = some true)
    (kT_NoRegister : PySem.W.kitOne K (.ref cE_NoRegister) (.ref cT) = some true)
    (kV_NoRegister : PySem.W.kitOne K (.ref cE_NoRegister) (.type "ValueError") = some true)
    (g1_NotTogether : PySem.W.findIn K (.ref cE_NotTogether) "__getattribute__" = some (some (.builtin "BaseException.__getattribute__")))
    (g2_NotTogether : PySem.W.findIn K (.ref cE_NotTogether) "__getattr__" = some none)
    (g3_NotTogether : PySem.W.hasDictIn K cE_NotTogether = true)
    (g4_NotTogether : PySem.W.findIn K (.ref cE_NotTogether) "__class__" = some (some (.builtin "object.__class__")))
    (g5_NotTogether : PySem.W.specialIn K (.builtin "object.__class__") "__get__" = some (some (.builtin "getset_descriptor.__get__")))
    (g6_NotTogether : PySem.W.takesIn K (.builtin "object.__class__") = some true)
    (g7_NotTogether : PySem.W.mroIn K cE_NotTogether (.type "object") = some true)
    (kT_NotTogether : PySem.W.kitOne K (.ref cE_NotTogether) (.ref cT) = some true)
    (kV_NotTogether : PySem.W.kitOne K (.ref cE_NotTogether) (.type "ValueError") = some true)
    (g1_NothingToUndo : PySem.W.findIn K (.ref cE_NothingToUndo) "__getattribute__" = some (some (.builtin "BaseException.__getattribute__")))
    (g2_NothingToUndo : PySem.W.findIn K (.ref cE_NothingToUndo) "__getattr__" = some none)
    (g3_NothingToUndo : PySem.W.hasDictIn K cE_NothingToUndo = true)
    (g4_NothingToUndo : PySem.W.findIn K (.ref cE_NothingToUndo) "__class__" = some (some (.builtin "object.__class__")))
    (g5_NothingToUndo : PySem.W.specialIn K (.builtin "object.__class__") "__get__" = some (some (.builtin "getset_descriptor.__get__")))
    (g6_NothingToUndo : PySem.W.takesIn K (.builtin "object.__class__") = some true)
    (g7_NothingToUndo : PySem.W.mroIn K cE_NothingToUndo (.type "object") = some true)
    (kT_NothingToUndo : PySem.W.kitOne K (.ref cE_NothingToUndo) (.ref cT) = some true)
    (kV_NothingToUndo : PySem.W.kitOne K (.ref cE_NothingToUndo) (.type "ValueError") = some true)
    (aE_BadPlan : PySem.W.nsIn K mainGlobals "BadPlan" = some (some (.ref cE_BadPlan)))
    (xL_BadPlan : K.lookup cE_BadPlan = some (excClassObj nm_BadPlan q_BadPlan cE_BadPlan N_BadPlan bs_BadPlan bm_BadPlan true sn_BadPlan sub_BadPlan ab_BadPlan col_BadPlan dd_BadPlan m0_BadPlan m1_BadPlan m2_BadPlan m3_BadPlan m5_BadPlan "ValueError.__new__"))
    (rv_BadPlan : PySem.HandSPX.refsVE bm_BadPlan = true)
    (sa_BadPlan : PySem.W.findIn K (.ref cE_BadPlan) "__setattr__" = some (some (.builtin "object.__setattr__")))
    (bE_BadPlan : PySem.W.subIn K (.ref cE_BadPlan) (.type "BaseException") = some true)
    (tE_BadPlan : PySem.W.typeIn K (.ref cE_BadPlan) = some (.type "type"))
    (kE_BadPlan : PySem.W.keepIn K (.ref cE_BadPlan) = true)
    (no_BadPlan : PySem.W.findIn K (.ref cE_BadPlan) "line" = some none)
    (in_BadPlan : PySem.W.findIn K (.ref cE_BadPlan) "__init__" = some (some (.ref fI_BadPlan)))
    (ti_BadPlan : PySem.W.typeIn K (.ref fI_BadPlan) = some (.type "function"))
    (lI_BadPlan : K.lookup fI_BadPlan = some ⟨ocI_BadPlan, odI_BadPlan, .func (PySem.W.fnOf "__init__" "BadPlan.__init__" (defArgs s_BadPlan___init) (defBody s_BadPlan___init) (defScope s_BadPlan___init) .none kVI_BadPlan dcI_BadPlan pmI_BadPlan anI_BadPlan cdI_BadPlan ctI_BadPlan), slI_BadPlan⟩)
    (cI_BadPlan : PySem.W.codeIn K cdI_BadPlan "BadPlan.__init__" = true)
    (kI_BadPlan : PySem.W.keepIn K (.ref fI_BadPlan) = true)
    (ga_BadPlan : PySem.W.findIn K (.ref cE_BadPlan) "__getattribute__" = some (some (.builtin "BaseException.__getattribute__")))
    (gg_BadPlan : PySem.W.findIn K (.ref cE_BadPlan) "__getattr__" = some none)
    (hd_BadPlan : PySem.W.hasDictIn K cE_BadPlan = true)
    (iE_BadPlan : PySem.W.isClsIn K cE_BadPlan = true)
    (sE_BadPlan : PySem.W.subIn K (.ref cE_BadPlan) (.ref cE_BadPlan) = some true)
    (aE_BadValues : PySem.W.nsIn K mainGlobals "BadValues" = some (some (.ref cE_BadValues)))
    (xL_BadValues : K.lookup cE_BadValues = some (excClassObj nm_BadValues q_BadValues cE_BadValues N_BadValues bs_BadValues bm_BadValues true sn_BadValues sub_BadValues ab_BadValues col_BadValues dd_BadValues m0_BadValues m1_BadValues m2_BadValues m3_BadValues m5_BadValues "ValueError.__new__"))
    (rv_BadValues : PySem.HandSPX.refsVE bm_BadValues = true)
    (sa_BadValues : PySem.W.findIn K (.ref cE_BadValues) "__setattr__" = some (some (.builtin "object.__setattr__")))
    (bE_BadValues : PySem.W.subIn K (.ref cE_BadValues) (.type "BaseException") = some true)
    (tE_BadValues : PySem.W.typeIn K (.ref cE_BadValues) = some (.type "type"))
    (kE_BadValues : PySem.W.keepIn K (.ref cE_BadValues) = true)
    (no_BadValues : PySem.W.findIn K (.ref cE_BadValues) "index" = some none)
    (in_BadValues : PySem.W.findIn K (.ref cE_BadValues) "__init__" = some (some (.ref fI_BadValues)))
    (ti_BadValues : PySem.W.typeIn K (.ref fI_BadValues) = some (.type "function"))
    (lI_BadValues : K.lookup fI_BadValues = some ⟨ocI_BadValues, odI_BadValues, .func (PySem.W.fnOf "__init__" "BadValues.__init__" (defArgs s_BadValues___init) (defBody s_BadValues___init) (defScope s_BadValues___init) .none kVI_BadValues dcI_BadValues pmI_BadValues anI_BadValues cdI_BadValues ctI_BadValues), slI_BadValues⟩)
    (cI_BadValues : PySem.W.codeIn K cdI_BadValues "BadValues.__init__" = true)
    (kI_BadValues : PySem.W.keepIn K (.ref fI_BadValues) = true)
    (ga_BadValues : PySem.W.findIn K (.ref cE_BadValues) "__getattribute__" = some (some (.builtin "BaseException.__getattribute__")))
    (gg_BadValues : PySem.W.findIn K (.ref cE_BadValues) "__getattr__" = some none)
    (hd_BadValues : PySem.W.hasDictIn K cE_BadValues = true)
    (iE_BadValues : PySem.W.isClsIn K cE_BadValues = true)
    (sE_BadValues : PySem.W.subIn K (.ref cE_BadValues) (.ref cE_BadValues) = some true)
    (aE_BadWorld : PySem.W.nsIn K mainGlobals "BadWorld" = some (some (.ref cE_BadWorld)))
    (xL_BadWorld : K.lookup cE_BadWorld = some (excClassObj nm_BadWorld q_BadWorld cE_BadWorld N_BadWorld bs_BadWorld bm_BadWorld true sn_BadWorld sub_BadWorld ab_BadWorld col_BadWorld dd_BadWorld m0_BadWorld m1_BadWorld m2_BadWorld m3_BadWorld m5_BadWorld "ValueError.__new__"))
    (rv_BadWorld : PySem.HandSPX.refsVE bm_BadWorld = true)
    (sa_BadWorld : PySem.W.findIn K (.ref cE_BadWorld) "__setattr__" = some (some (.builtin "object.__setattr__")))
    (bE_BadWorld : PySem.W.subIn K (.ref cE_BadWorld) (.type "BaseException") = some true)
    (tE_BadWorld : PySem.W.typeIn K (.ref cE_BadWorld) = some (.type "type"))
    (kE_BadWorld : PySem.W.keepIn K (.ref cE_BadWorld) = true)
    (no_BadWorld : PySem.W.findIn K (.ref cE_BadWorld) "line" = some none)
    (in_BadWorld : PySem.W.findIn K (.ref cE_BadWorld) "__init__" = some (some (.ref fI_BadWorld)))
    (ti_BadWorld : PySem.W.typeIn K (.ref fI_BadWorld) = some (.type "function"))
    (lI_BadWorld : K.lookup fI_BadWorld = some ⟨ocI_BadWorld, odI_BadWorld, .func (PySem.W.fnOf "__init__" "BadWorld.__init__" (defArgs s_BadWorld___init) (defBody s_BadWorld___init) (defScope s_BadWorld___init) .none kVI_BadWorld dcI_BadWorld pmI_BadWorld anI_BadWorld cdI_BadWorld ctI_BadWorld), slI_BadWorld⟩)
    (cI_BadWorld : PySem.W.codeIn K cdI_BadWorld "BadWorld.__init__" = true)
    (kI_BadWorld : PySem.W.keepIn K (.ref fI_BadWorld) = true)
    (ga_BadWorld : PySem.W.findIn K (.ref cE_BadWorld) "__getattribute__" = some (some (.builtin "BaseException.__getattribute__")))
    (gg_BadWorld : PySem.W.findIn K (.ref cE_BadWorld) "__getattr__" = some none)
    (hd_BadWorld : PySem.W.hasDictIn K cE_BadWorld = true)
    (iE_BadWorld : PySem.W.isClsIn K cE_BadWorld = true)
    (sE_BadWorld : PySem.W.subIn K (.ref cE_BadWorld) (.ref cE_BadWorld) = some true)
    (aE_NoActor : PySem.W.nsIn K mainGlobals "NoActor" = some (some (.ref cE_NoActor)))
    (xL_NoActor : K.lookup cE_NoActor = some (excClassObj nm_NoActor q_NoActor cE_NoActor N_NoActor bs_NoActor bm_NoActor true sn_NoActor sub_NoActor ab_NoActor col_NoActor dd_NoActor m0_NoActor m1_NoActor m2_NoActor m3_NoActor m5_NoActor "ValueError.__new__"))
    (rv_NoActor : PySem.HandSPX.refsVE bm_NoActor = true)
    (sa_NoActor : PySem.W.findIn K (.ref cE_NoActor) "__setattr__" = some (some (.builtin "object.__setattr__")))
    (bE_NoActor : PySem.W.subIn K (.ref cE_NoActor) (.type "BaseException") = some true)
    (tE_NoActor : PySem.W.typeIn K (.ref cE_NoActor) = some (.type "type"))
    (kE_NoActor : PySem.W.keepIn K (.ref cE_NoActor) = true)
    (no_NoActor : PySem.W.findIn K (.ref cE_NoActor) "name" = some none)
    (in_NoActor : PySem.W.findIn K (.ref cE_NoActor) "__init__" = some (some (.ref fI_NoActor)))
    (ti_NoActor : PySem.W.typeIn K (.ref fI_NoActor) = some (.type "function"))
    (lI_NoActor : K.lookup fI_NoActor = some ⟨ocI_NoActor, odI_NoActor, .func (PySem.W.fnOf "__init__" "NoActor.__init__" (defArgs s_NoActor___init) (defBody s_NoActor___init) (defScope s_NoActor___init) .none kVI_NoActor dcI_NoActor pmI_NoActor anI_NoActor cdI_NoActor ctI_NoActor), slI_NoActor⟩)
    (cI_NoActor : PySem.W.codeIn K cdI_NoActor "NoActor.__init__" = true)
    (kI_NoActor : PySem.W.keepIn K (.ref fI_NoActor) = true)
    (ga_NoActor : PySem.W.findIn K (.ref cE_NoActor) "__getattribute__" = some (some (.builtin "BaseException.__getattribute__")))
    (gg_NoActor : PySem.W.findIn K (.ref cE_NoActor) "__getattr__" = some none)
    (hd_NoActor : PySem.W.hasDictIn K cE_NoActor = true)
    (iE_NoActor : PySem.W.isClsIn K cE_NoActor = true)
    (sE_NoActor : PySem.W.subIn K (.ref cE_NoActor) (.ref cE_NoActor) = some true)
    (aE_NoReading : PySem.W.nsIn K mainGlobals "NoReading" = some (some (.ref cE_NoReading)))
    (xL_NoReading : K.lookup cE_NoReading = some (excClassObj nm_NoReading q_NoReading cE_NoReading N_NoReading bs_NoReading bm_NoReading true sn_NoReading sub_NoReading ab_NoReading col_NoReading dd_NoReading m0_NoReading m1_NoReading m2_NoReading m3_NoReading m5_NoReading "ValueError.__new__"))
    (rv_NoReading : PySem.HandSPX.refsVE bm_NoReading = true)
    (sa_NoReading : PySem.W.findIn K (.ref cE_NoReading) "__setattr__" = some (some (.builtin "object.__setattr__")))
    (bE_NoReading : PySem.W.subIn K (.ref cE_NoReading) (.type "BaseException") = some true)
    (tE_NoReading : PySem.W.typeIn K (.ref cE_NoReading) = some (.type "type"))
    (kE_NoReading : PySem.W.keepIn K (.ref cE_NoReading) = true)
    (no_NoReading : PySem.W.findIn K (.ref cE_NoReading) "name" = some none)
    (in_NoReading : PySem.W.findIn K (.ref cE_NoReading) "__init__" = some (some (.ref fI_NoReading)))
    (ti_NoReading : PySem.W.typeIn K (.ref fI_NoReading) = some (.type "function"))
    (lI_NoReading : K.lookup fI_NoReading = some ⟨ocI_NoReading, odI_NoReading, .func (PySem.W.fnOf "__init__" "NoReading.__init__" (defArgs s_NoReading___init) (defBody s_NoReading___init) (defScope s_NoReading___init) .none kVI_NoReading dcI_NoReading pmI_NoReading anI_NoReading cdI_NoReading ctI_NoReading), slI_NoReading⟩)
    (cI_NoReading : PySem.W.codeIn K cdI_NoReading "NoReading.__init__" = true)
    (kI_NoReading : PySem.W.keepIn K (.ref fI_NoReading) = true)
    (ga_NoReading : PySem.W.findIn K (.ref cE_NoReading) "__getattribute__" = some (some (.builtin "BaseException.__getattribute__")))
    (gg_NoReading : PySem.W.findIn K (.ref cE_NoReading) "__getattr__" = some none)
    (hd_NoReading : PySem.W.hasDictIn K cE_NoReading = true)
    (iE_NoReading : PySem.W.isClsIn K cE_NoReading = true)
    (sE_NoReading : PySem.W.subIn K (.ref cE_NoReading) (.ref cE_NoReading) = some true)
    (aE_NoRegister : PySem.W.nsIn K mainGlobals "NoRegister" = some (some (.ref cE_NoRegister)))
    (xL_NoRegister : K.lookup cE_NoRegister = some (excClassObj nm_NoRegister q_NoRegister cE_NoRegister N_NoRegister bs_NoRegister bm_NoRegister true sn_NoRegister sub_NoRegister ab_NoRegister col_NoRegister dd_NoRegister m0_NoRegister m1_NoRegister m2_NoRegister m3_NoRegister m5_NoRegister "ValueError.__new__"))
    (rv_NoRegister : PySem.HandSPX.refsVE bm_NoRegister = true)
    (sa_NoRegister : PySem.W.findIn K (.ref cE_NoRegister) "__setattr__" = some (some (.builtin "object.__setattr__")))
    (bE_NoRegister : PySem.W.subIn K (.ref cE_NoRegister) (.type "BaseException") = some true)
    (tE_NoRegister : PySem.W.typeIn K (.ref cE_NoRegister) = some (.type "type"))
    (kE_NoRegister : PySem.W.keepIn K (.ref cE_NoRegister) = true)
    (no_NoRegister : PySem.W.findIn K (.ref cE_NoRegister) "name" = some none)
    (in_NoRegister : PySem.W.findIn K (.ref cE_NoRegister) "__init__" = some (some (.ref fI_NoRegister)))
    (ti_NoRegister : PySem.W.typeIn K (.ref fI_NoRegister) = some (.type "function"))
    (lI_NoRegister : K.lookup fI_NoRegister = some ⟨ocI_NoRegister, odI_NoRegister, .func (PySem.W.fnOf "__init__" "NoRegister.__init__" (defArgs s_NoRegister___init) (defBody s_NoRegister___init) (defScope s_NoRegister___init) .none kVI_NoRegister dcI_NoRegister pmI_NoRegister anI_NoRegister cdI_NoRegister ctI_NoRegister), slI_NoRegister⟩)
    (cI_NoRegister : PySem.W.codeIn K cdI_NoRegister "NoRegister.__init__" = true)
    (kI_NoRegister : PySem.W.keepIn K (.ref fI_NoRegister) = true)
    (ga_NoRegister : PySem.W.findIn K (.ref cE_NoRegister) "__getattribute__" = some (some (.builtin "BaseException.__getattribute__")))
    (gg_NoRegister : PySem.W.findIn K (.ref cE_NoRegister) "__getattr__" = some none)
    (hd_NoRegister : PySem.W.hasDictIn K cE_NoRegister = true)
    (iE_NoRegister : PySem.W.isClsIn K cE_NoRegister = true)
    (sE_NoRegister : PySem.W.subIn K (.ref cE_NoRegister) (.ref cE_NoRegister) = some true)
    (r_BadChoice_BadChoice : PySem.W.kitOne K (.ref cE_BadChoice) (.ref cE_BadChoice) = some true)
    (r_BadChoice_BadClaim : PySem.W.kitOne K (.ref cE_BadChoice) (.ref cE_BadClaim) = some false)
    (r_BadChoice_BadPlan : PySem.W.kitOne K (.ref cE_BadChoice) (.ref cE_BadPlan) = some false)
    (r_BadChoice_BadValues : PySem.W.kitOne K (.ref cE_BadChoice) (.ref cE_BadValues) = some false)
    (r_BadChoice_BadVersions : PySem.W.kitOne K (.ref cE_BadChoice) (.ref cE_BadVersions) = some false)
    (r_BadChoice_BadWorld : PySem.W.kitOne K (.ref cE_BadChoice) (.ref cE_BadWorld) = some false)
    (r_BadChoice_NoActor : PySem.W.kitOne K (.ref cE_BadChoice) (.ref cE_NoActor) = some false)
    (r_BadChoice_NoReading : PySem.W.kitOne K (.ref cE_BadChoice) (.ref cE_NoReading) = some false)
    (r_BadChoice_NoRegister : PySem.W.kitOne K (.ref cE_BadChoice) (.ref cE_NoRegister) = some false)
    (r_BadChoice_NotTogether : PySem.W.kitOne K (.ref cE_BadChoice) (.ref cE_NotTogether) = some false)
    (r_BadChoice_NothingToUndo : PySem.W.kitOne K (.ref cE_BadChoice) (.ref cE_NothingToUndo) = some false)
    (r_BadClaim_BadChoice : PySem.W.kitOne K (.ref cE_BadClaim) (.ref cE_BadChoice) = some false)
    (r_BadClaim_BadClaim : PySem.W.kitOne K (.ref cE_BadClaim) (.ref cE_BadClaim) = some true)
    (r_BadClaim_BadPlan : PySem.W.kitOne K (.ref cE_BadClaim) (.ref cE_BadPlan) = some false)
    (r_BadClaim_BadValues : PySem.W.kitOne K (.ref cE_BadClaim) (.ref cE_BadValues) = some false)
    (r_BadClaim_BadVersions : PySem.W.kitOne K (.ref cE_BadClaim) (.ref cE_BadVersions) = some false)
    (r_BadClaim_BadWorld : PySem.W.kitOne K (.ref cE_BadClaim) (.ref cE_BadWorld) = some false)
    (r_BadClaim_NoActor : PySem.W.kitOne K (.ref cE_BadClaim) (.ref cE_NoActor) = some false)
    (r_BadClaim_NoReading : PySem.W.kitOne K (.ref cE_BadClaim) (.ref cE_NoReading) = some false)
    (r_BadClaim_NoRegister : PySem.W.kitOne K (.ref cE_BadClaim) (.ref cE_NoRegister) = some false)
    (r_BadClaim_NotTogether : PySem.W.kitOne K (.ref cE_BadClaim) (.ref cE_NotTogether) = some false)
    (r_BadClaim_NothingToUndo : PySem.W.kitOne K (.ref cE_BadClaim) (.ref cE_NothingToUndo) = some false)
    (r_BadPlan_BadChoice : PySem.W.kitOne K (.ref cE_BadPlan) (.ref cE_BadChoice) = some false)
    (r_BadPlan_BadClaim : PySem.W.kitOne K (.ref cE_BadPlan) (.ref cE_BadClaim) = some false)
    (r_BadPlan_BadPlan : PySem.W.kitOne K (.ref cE_BadPlan) (.ref cE_BadPlan) = some true)
    (r_BadPlan_BadValues : PySem.W.kitOne K (.ref cE_BadPlan) (.ref cE_BadValues) = some false)
    (r_BadPlan_BadVersions : PySem.W.kitOne K (.ref cE_BadPlan) (.ref cE_BadVersions) = some false)
    (r_BadPlan_BadWorld : PySem.W.kitOne K (.ref cE_BadPlan) (.ref cE_BadWorld) = some false)
    (r_BadPlan_NoActor : PySem.W.kitOne K (.ref cE_BadPlan) (.ref cE_NoActor) = some false)
    (r_BadPlan_NoReading : PySem.W.kitOne K (.ref cE_BadPlan) (.ref cE_NoReading) = some false)
    (r_BadPlan_NoRegister : PySem.W.kitOne K (.ref cE_BadPlan) (.ref cE_NoRegister) = some false)
    (r_BadPlan_NotTogether : PySem.W.kitOne K (.ref cE_BadPlan) (.ref cE_NotTogether) = some false)
    (r_BadPlan_NothingToUndo : PySem.W.kitOne K (.ref cE_BadPlan) (.ref cE_NothingToUndo) = some false)
    (r_BadValues_BadChoice : PySem.W.kitOne K (.ref cE_BadValues) (.ref cE_BadChoice) = some false)
    (r_BadValues_BadClaim : PySem.W.kitOne K (.ref cE_BadValues) (.ref cE_BadClaim) = some false)
    (r_BadValues_BadPlan : PySem.W.kitOne K (.ref cE_BadValues) (.ref cE_BadPlan) = some false)
    (r_BadValues_BadValues : PySem.W.kitOne K (.ref cE_BadValues) (.ref cE_BadValues) = some true)
    (r_BadValues_BadVersions : PySem.W.kitOne K (.ref cE_BadValues) (.ref cE_BadVersions) = some false)
    (r_BadValues_BadWorld : PySem.W.kitOne K (.ref cE_BadValues) (.ref cE_BadWorld) = some false)
    (r_BadValues_NoActor : PySem.W.kitOne K (.ref cE_BadValues) (.ref cE_NoActor) = some false)
    (r_BadValues_NoReading : PySem.W.kitOne K (.ref cE_BadValues) (.ref cE_NoReading) = some false)
    (r_BadValues_NoRegister : PySem.W.kitOne K (.ref cE_BadValues) (.ref cE_NoRegister) = some false)
    (r_BadValues_NotTogether : PySem.W.kitOne K (.ref cE_BadValues) (.ref cE_NotTogether) = some false)
    (r_BadValues_NothingToUndo : PySem.W.kitOne K (.ref cE_BadValues) (.ref cE_NothingToUndo) = some false)
    (r_BadVersions_BadChoice : PySem.W.kitOne K (.ref cE_BadVersions) (.ref cE_BadChoice) = some false)
    (r_BadVersions_BadClaim : PySem.W.kitOne K (.ref cE_BadVersions) (.ref cE_BadClaim) = some false)
    (r_BadVersions_BadPlan : PySem.W.kitOne K (.ref cE_BadVersions) (.ref cE_BadPlan) = some false)
    (r_BadVersions_BadValues : PySem.W.kitOne K (.ref cE_BadVersions) (.ref cE_BadValues) = some false)
    (r_BadVersions_BadVersions : PySem.W.kitOne K (.ref cE_BadVersions) (.ref cE_BadVersions) = some true)
    (r_BadVersions_BadWorld : PySem.W.kitOne K (.ref cE_BadVersions) (.ref cE_BadWorld) = some false)
    (r_BadVersions_NoActor : PySem.W.kitOne K (.ref cE_BadVersions) (.ref cE_NoActor) = some false)
    (r_BadVersions_NoReading : PySem.W.kitOne K (.ref cE_BadVersions) (.ref cE_NoReading) = some false)
    (r_BadVersions_NoRegister : PySem.W.kitOne K (.ref cE_BadVersions) (.ref cE_NoRegister) = some false)
    (r_BadVersions_NotTogether : PySem.W.kitOne K (.ref cE_BadVersions) (.ref cE_NotTogether) = some false)
    (r_BadVersions_NothingToUndo : PySem.W.kitOne K (.ref cE_BadVersions) (.ref cE_NothingToUndo) = some false)
    (r_BadWorld_BadChoice : PySem.W.kitOne K (.ref cE_BadWorld) (.ref cE_BadChoice) = some false)
    (r_BadWorld_BadClaim : PySem.W.kitOne K (.ref cE_BadWorld) (.ref cE_BadClaim) = some false)
    (r_BadWorld_BadPlan : PySem.W.kitOne K (.ref cE_BadWorld) (.ref cE_BadPlan) = some false)
    (r_BadWorld_BadValues : PySem.W.kitOne K (.ref cE_BadWorld) (.ref cE_BadValues) = some false)
    (r_BadWorld_BadVersions : PySem.W.kitOne K (.ref cE_BadWorld) (.ref cE_BadVersions) = some false)
    (r_BadWorld_BadWorld : PySem.W.kitOne K (.ref cE_BadWorld) (.ref cE_BadWorld) = some true)
    (r_BadWorld_NoActor : PySem.W.kitOne K (.ref cE_BadWorld) (.ref cE_NoActor) = some false)
    (r_BadWorld_NoReading : PySem.W.kitOne K (.ref cE_BadWorld) (.ref cE_NoReading) = some false)
    (r_BadWorld_NoRegister : PySem.W.kitOne K (.ref cE_BadWorld) (.ref cE_NoRegister) = some false)
    (r_BadWorld_NotTogether : PySem.W.kitOne K (.ref cE_BadWorld) (.ref cE_NotTogether) = some false)
    (r_BadWorld_NothingToUndo : PySem.W.kitOne K (.ref cE_BadWorld) (.ref cE_NothingToUndo) = some false)
    (r_NoActor_BadChoice : PySem.W.kitOne K (.ref cE_NoActor) (.ref cE_BadChoice) = some false)
    (r_NoActor_BadClaim : PySem.W.kitOne K (.ref cE_NoActor) (.ref cE_BadClaim) = some false)
    (r_NoActor_BadPlan : PySem.W.kitOne K (.ref cE_NoActor) (.ref cE_BadPlan) = some false)
    (r_NoActor_BadValues : PySem.W.kitOne K (.ref cE_NoActor) (.ref cE_BadValues) = some false)
    (r_NoActor_BadVersions : PySem.W.kitOne K (.ref cE_NoActor) (.ref cE_BadVersions) = some false)
    (r_NoActor_BadWorld : PySem.W.kitOne K (.ref cE_NoActor) (.ref cE_BadWorld) = some false)
    (r_NoActor_NoActor : PySem.W.kitOne K (.ref cE_NoActor) (.ref cE_NoActor) = some true)
    (r_NoActor_NoReading : PySem.W.kitOne K (.ref cE_NoActor) (.ref cE_NoReading) = some false)
    (r_NoActor_NoRegister : PySem.W.kitOne K (.ref cE_NoActor) (.ref cE_NoRegister) = some false)
    (r_NoActor_NotTogether : PySem.W.kitOne K (.ref cE_NoActor) (.ref cE_NotTogether) = some false)
    (r_NoActor_NothingToUndo : PySem.W.kitOne K (.ref cE_NoActor) (.ref cE_NothingToUndo) = some false)
    (r_NoReading_BadChoice : PySem.W.kitOne K (.ref cE_NoReading) (.ref cE_BadChoice) = some false)
    (r_NoReading_BadClaim : PySem.W.kitOne K (.ref cE_NoReading) (.ref cE_BadClaim) = some false)
    (r_NoReading_BadPlan : PySem.W.kitOne K (.ref cE_NoReading) (.ref cE_BadPlan) = some false)
    (r_NoReading_BadValues : PySem.W.kitOne K (.ref cE_NoReading) (.ref cE_BadValues) = some false)
    (r_NoReading_BadVersions : PySem.W.kitOne K (.ref cE_NoReading) (.ref cE_BadVersions) = some false)
    (r_NoReading_BadWorld : PySem.W.kitOne K (.ref cE_NoReading) (.ref cE_BadWorld) = some false)
    (r_NoReading_NoActor : PySem.W.kitOne K (.ref cE_NoReading) (.ref cE_NoActor) = some false)
    (r_NoReading_NoReading : PySem.W.kitOne K (.ref cE_NoReading) (.ref cE_NoReading) = some true)
    (r_NoReading_NoRegister : PySem.W.kitOne K (.ref cE_NoReading) (.ref cE_NoRegister) = some false)
    (r_NoReading_NotTogether : PySem.W.kitOne K (.ref cE_NoReading) (.ref cE_NotTogether) = some false)
    (r_NoReading_NothingToUndo : PySem.W.kitOne K (.ref cE_NoReading) (.ref cE_NothingToUndo) = some false)
    (r_NoRegister_BadChoice : PySem.W.kitOne K (.ref cE_NoRegister) (.ref cE_BadChoice) = some false)
    (r_NoRegister_BadClaim : PySem.W.kitOne K (.ref cE_NoRegister) (.ref cE_BadClaim) = some false)
    (r_NoRegister_BadPlan : PySem.W.kitOne K (.ref cE_NoRegister) (.ref cE_BadPlan) = some false)
    (r_NoRegister_BadValues : PySem.W.kitOne K (.ref cE_NoRegister) (.ref cE_BadValues) = some false)
    (r_NoRegister_BadVersions : PySem.W.kitOne K (.ref cE_NoRegister) (.ref cE_BadVersions) = some false)
    (r_NoRegister_BadWorld : PySem.W.kitOne K (.ref cE_NoRegister) (.ref cE_BadWorld) = some false)
    (r_NoRegister_NoActor : PySem.W.kitOne K (.ref cE_NoRegister) (.ref cE_NoActor) = some false)
    (r_NoRegister_NoReading : PySem.W.kitOne K (.ref cE_NoRegister) (.ref cE_NoReading) = some false)
    (r_NoRegister_NoRegister : PySem.W.kitOne K (.ref cE_NoRegister) (.ref cE_NoRegister) = some true)
    (r_NoRegister_NotTogether : PySem.W.kitOne K (.ref cE_NoRegister) (.ref cE_NotTogether) = some false)
    (r_NoRegister_NothingToUndo : PySem.W.kitOne K (.ref cE_NoRegister) (.ref cE_NothingToUndo) = some false)
    (r_NotTogether_BadChoice : PySem.W.kitOne K (.ref cE_NotTogether) (.ref cE_BadChoice) = some false)
    (r_NotTogether_BadClaim : PySem.W.kitOne K (.ref cE_NotTogether) (.ref cE_BadClaim) = some false)
    (r_NotTogether_BadPlan : PySem.W.kitOne K (.ref cE_NotTogether) (.ref cE_BadPlan) = some false)
    (r_NotTogether_BadValues : PySem.W.kitOne K (.ref cE_NotTogether) (.ref cE_BadValues) = some false)
    (r_NotTogether_BadVersions : PySem.W.kitOne K (.ref cE_NotTogether) (.ref cE_BadVersions) = some false)
    (r_NotTogether_BadWorld : PySem.W.kitOne K (.ref cE_NotTogether) (.ref cE_BadWorld) = some false)
    (r_NotTogether_NoActor : PySem.W.kitOne K (.ref cE_NotTogether) (.ref cE_NoActor) = some false)
    (r_NotTogether_NoReading : PySem.W.kitOne K (.ref cE_NotTogether) (.ref cE_NoReading) = some false)
    (r_NotTogether_NoRegister : PySem.W.kitOne K (.ref cE_NotTogether) (.ref cE_NoRegister) = some false)
    (r_NotTogether_NotTogether : PySem.W.kitOne K (.ref cE_NotTogether) (.ref cE_NotTogether) = some true)
    (r_NotTogether_NothingToUndo : PySem.W.kitOne K (.ref cE_NotTogether) (.ref cE_NothingToUndo) = some false)
    (r_NothingToUndo_BadChoice : PySem.W.kitOne K (.ref cE_NothingToUndo) (.ref cE_BadChoice) = some false)
    (r_NothingToUndo_BadClaim : PySem.W.kitOne K (.ref cE_NothingToUndo) (.ref cE_BadClaim) = some false)
    (r_NothingToUndo_BadPlan : PySem.W.kitOne K (.ref cE_NothingToUndo) (.ref cE_BadPlan) = some false)
    (r_NothingToUndo_BadValues : PySem.W.kitOne K (.ref cE_NothingToUndo) (.ref cE_BadValues) = some false)
    (r_NothingToUndo_BadVersions : PySem.W.kitOne K (.ref cE_NothingToUndo) (.ref cE_BadVersions) = some false)
    (r_NothingToUndo_BadWorld : PySem.W.kitOne K (.ref cE_NothingToUndo) (.ref cE_BadWorld) = some false)
    (r_NothingToUndo_NoActor : PySem.W.kitOne K (.ref cE_NothingToUndo) (.ref cE_NoActor) = some false)
    (r_NothingToUndo_NoReading : PySem.W.kitOne K (.ref cE_NothingToUndo) (.ref cE_NoReading) = some false)
    (r_NothingToUndo_NoRegister : PySem.W.kitOne K (.ref cE_NothingToUndo) (.ref cE_NoRegister) = some false)
    (r_NothingToUndo_NotTogether : PySem.W.kitOne K (.ref cE_NothingToUndo) (.ref cE_NotTogether) = some false)
    (r_NothingToUndo_NothingToUndo : PySem.W.kitOne K (.ref cE_NothingToUndo) (.ref cE_NothingToUndo) = some true)
    (z_abs : PySem.W.nsIn K mainGlobals "abs" = some none)
    (z_all : PySem.W.nsIn K mainGlobals "all" = some none)
    (z_dict : PySem.W.nsIn K mainGlobals "dict" = some none)
    (z_enumerate : PySem.W.nsIn K mainGlobals "enumerate" = some none)
    (z_int : PySem.W.nsIn K mainGlobals "int" = some none)
    (z_isinstance : PySem.W.nsIn K mainGlobals "isinstance" = some none)
    (z_len : PySem.W.nsIn K mainGlobals "len" = some none)
    (z_list : PySem.W.nsIn K mainGlobals "list" = some none)
    (z_max : PySem.W.nsIn K mainGlobals "max" = some none)
    (z_min : PySem.W.nsIn K mainGlobals "min" = some none)
    (z_range : PySem.W.nsIn K mainGlobals "range" = some none)
    (z_repr : PySem.W.nsIn K mainGlobals "repr" = some none)
    (z_sorted : PySem.W.nsIn K mainGlobals "sorted" = some none)
    (z_str : PySem.W.nsIn K mainGlobals "str" = some none)
    (z_sum : PySem.W.nsIn K mainGlobals "sum" = some none)
    (z_tuple : PySem.W.nsIn K mainGlobals "tuple" = some none)
    (z_zip : PySem.W.nsIn K mainGlobals "zip" = some none)
    (z_ValueError : PySem.W.nsIn K mainGlobals "ValueError" = some none) :
    ∃ fd : FuncData, (∀ (s : Shared) (v : Value), BindsTo s fd ⟨[v], []⟩ [("script", v)]) ∧ ∀ base : Heap, K.In base → base.Ns mainGlobals mg → FnOk P w K mg base CX0 4 fa fd ["script"] (spLaw K) := by
  have e := hfa.symm.trans (PySem.W.mg_of X G a9)
  cases e
  have F0 := fun_mk (st := s_draw) l0 c0 k0
  have b0 := F0.binds (ps := P_draw) fun _ _ _ _ _ _ us hl => match us, hl with | [_, _], _ => rfl
  have F1 := fun_mk (st := s_begun_pen) l1 c1 k1
  have b1 := F1.binds (ps := P_begun_pen) fun _ _ _ _ _ _ us hl => match us, hl with | [_], _ => rfl
  have F2 := fun_mk (st := s_pick) l2 c2 k2
  have b2 := F2.binds (ps := P_pick) fun _ _ _ _ _ _ us hl => match us, hl with | [_, _], _ => rfl
  have F3 := fun_mk (st := s_shuffled) l3 c3 k3
  have b3 := F3.binds (ps := P_shuffled) fun _ _ _ _ _ _ us hl => match us, hl with | [_, _], _ => rfl
  have F4 := fun_mk (st := s_new_names) l4 c4 k4
  have b4 := F4.binds (ps := P_new_names) fun _ _ _ _ _ _ us hl => match us, hl with | [_, _], _ => rfl
  have F5 := fun_mk (st := s_classes) l5 c5 k5
  have b5 := F5.binds (ps := P_classes) fun _ _ _ _ _ _ us hl => match us, hl with | [_], _ => rfl
  have F6 := fun_mk (st := s_is_one) l6 c6 k6
  have b6 := F6.binds (ps := P_is_one) fun _ _ _ _ _ _ us hl => match us, hl with | [_, _], _ => rfl
  have F7 := fun_mk (st := s_fielded) l7 c7 k7
  have b7 := F7.binds (ps := P_fielded) fun _ _ _ _ _ _ us hl => match us, hl with | [_, _], _ => rfl
  have F8 := fun_mk (st := s_plain_right) l8 c8 k8
  have b8 := F8.binds (ps := P_plain_right) fun _ _ _ _ _ _ us hl => match us, hl with | [], _ => rfl
  have F9 := fun_mk (st := s_law) l9 c9 k9
  have E_BadChoice : Ec K mg "BadChoice" cE_BadChoice := ⟨PySem.W.mg_of X G aE_BadChoice, xE_BadChoice, kE_BadChoice, bE_BadChoice, tE_BadChoice, iE_BadChoice, sE_BadChoice⟩
  have E_BadClaim : Ec K mg "BadClaim" cE_BadClaim := ⟨PySem.W.mg_of X G aE_BadClaim, xE_BadClaim, kE_BadClaim, bE_BadClaim, tE_BadClaim, iE_BadClaim, sE_BadClaim⟩
  have E_BadVersions : Ec K mg "BadVersions" cE_BadVersions := ⟨PySem.W.mg_of X G aE_BadVersions, xE_BadVersions, kE_BadVersions, bE_BadVersions, tE_BadVersions, iE_BadVersions, sE_BadVersions⟩
  have E_NotTogether : Ec K mg "NotTogether" cE_NotTogether := ⟨PySem.W.mg_of X G aE_NotTogether, xE_NotTogether, kE_NotTogether, bE_NotTogether, tE_NotTogether, iE_NotTogether, sE_NotTogether⟩
  have E_NothingToUndo : Ec K mg "NothingToUndo" cE_NothingToUndo := ⟨PySem.W.mg_of X G aE_NothingToUndo, xE_NothingToUndo, kE_NothingToUndo, bE_NothingToUndo, tE_NothingToUndo, iE_NothingToUndo, sE_NothingToUndo⟩
  have FI_BadPlan := fun_mk (st := s_BadPlan___init) lI_BadPlan cI_BadPlan kI_BadPlan
  have bI_BadPlan := FI_BadPlan.binds (ps := ["self", "line"]) fun _ _ _ _ _ _ us hl => match us, hl with | [_, _], _ => rfl
  have T_BadPlan : OexC K cE_BadPlan := ⟨⟨_, _, _, _, _, _, _, _, _, _, _, _, _, _, _, xL_BadPlan, rv_BadPlan⟩, sa_BadPlan, bE_BadPlan, tE_BadPlan, kE_BadPlan⟩
  have gC_BadPlan : mg "BadPlan" = some (.ref cE_BadPlan) := PySem.W.mg_of X G aE_BadPlan
  have FI_BadValues := fun_mk (st := s_BadValues___init) lI_BadValues cI_BadValues kI_BadValues
  have bI_BadValues := FI_BadValues.binds (ps := ["self", "index"]) fun _ _ _ _ _ _ us hl => match us, hl with | [_, _], _ => rfl
  have T_BadValues : OexC K cE_BadValues := ⟨⟨_, _, _, _, _, _, _, _, _, _, _, _, _, _, _, xL_BadValues, rv_BadValues⟩, sa_BadValues, bE_BadValues, tE_BadValues, kE_BadValues⟩
  have gC_BadValues : mg "BadValues" = some (.ref cE_BadValues) := PySem.W.mg_of X G aE_BadValues
  have FI_BadWorld := fun_mk (st := s_BadWorld___init) lI_BadWorld cI_BadWorld kI_BadWorld
  have bI_BadWorld := FI_BadWorld.binds (ps := ["self", "line"]) fun _ _ _ _ _ _ us hl => match us, hl with | [_, _], _ => rfl
  have T_BadWorld : OexC K cE_BadWorld := ⟨⟨_, _, _, _, _, _, _, _, _, _, _, _, _, _, _, xL_BadWorld, rv_BadWorld⟩, sa_BadWorld, bE_BadWorld, tE_BadWorld, kE_BadWorld⟩
  have gC_BadWorld : mg "BadWorld" = some (.ref cE_BadWorld) := PySem.W.mg_of X G aE_BadWorld
  have FI_NoActor := fun_mk (st := s_NoActor___init) lI_NoActor cI_NoActor kI_NoActor
  have bI_NoActor := FI_NoActor.binds (ps := ["self", "name"]) fun _ _ _ _ _ _ us hl => match us, hl with | [_, _], _ => rfl
  have T_NoActor : OexC K cE_NoActor := ⟨⟨_, _, _, _, _, _, _, _, _, _, _, _, _, _, _, xL_NoActor, rv_NoActor⟩, sa_NoActor, bE_NoActor, tE_NoActor, kE_NoActor⟩
  have gC_NoActor : mg "NoActor" = some (.ref cE_NoActor) := PySem.W.mg_of X G aE_NoActor
  have FI_NoReading := fun_mk (st := s_NoReading___init) lI_NoReading cI_NoReading kI_NoReading
  have bI_NoReading := FI_NoReading.binds (ps := ["self", "name"]) fun _ _ _ _ _ _ us hl => match us, hl with | [_, _], _ => rfl
  have T_NoReading : OexC K cE_NoReading := ⟨⟨_, _, _, _, _, _, _, _, _, _, _, _, _, _, _, xL_NoReading, rv_NoReading⟩, sa_NoReading, bE_NoReading, tE_NoReading, kE_NoReading⟩
  have gC_NoReading : mg "NoReading" = some (.ref cE_NoReading) := PySem.W.mg_of X G aE_NoReading
  have FI_NoRegister := fun_mk (st := s_NoRegister___init) lI_NoRegister cI_NoRegister kI_NoRegister
  have bI_NoRegister := FI_NoRegister.binds (ps := ["self", "name"]) fun _ _ _ _ _ _ us hl => match us, hl with | [_, _], _ => rfl
  have T_NoRegister : OexC K cE_NoRegister := ⟨⟨_, _, _, _, _, _, _, _, _, _, _, _, _, _, _, xL_NoRegister, rv_NoRegister⟩, sa_NoRegister, bE_NoRegister, tE_NoRegister, kE_NoRegister⟩
  have gC_NoRegister : mg "NoRegister" = some (.ref cE_NoRegister) := PySem.W.mg_of X G aE_NoRegister
  have B : Bi mg := ⟨PySem.W.mg_none_of X G z_abs, PySem.W.mg_none_of X G z_all, PySem.W.mg_none_of X G z_dict, PySem.W.mg_none_of X G z_enumerate, PySem.W.mg_none_of X G z_int, PySem.W.mg_none_of X G z_isinstance, PySem.W.mg_none_of X G z_len, PySem.W.mg_none_of X G z_list, PySem.W.mg_none_of X G z_max, PySem.W.mg_none_of X G z_min, PySem.W.mg_none_of X G z_range, PySem.W.mg_none_of X G z_repr, PySem.W.mg_none_of X G z_sorted, PySem.W.mg_none_of X G z_str, PySem.W.mg_none_of X G z_sum, PySem.W.mg_none_of X G z_tuple, PySem.W.mg_none_of X G z_zip, PySem.W.mg_none_of X G z_ValueError⟩
  have X_BadChoice : Ei K mg cE_BadChoice cT := ⟨⟨g1_BadChoice, g2_BadChoice, bE_BadChoice, g3_BadChoice, g4_BadChoice, g5_BadChoice, g6_BadChoice, g7_BadChoice⟩, PySem.W.mg_of X G aT, kT_BadChoice, kV_BadChoice⟩
  have X_BadClaim : Ei K mg cE_BadClaim cT := ⟨⟨g1_BadClaim, g2_BadClaim, bE_BadClaim, g3_BadClaim, g4_BadClaim, g5_BadClaim, g6_BadClaim, g7_BadClaim⟩, PySem.W.mg_of X G aT, kT_BadClaim, kV_BadClaim⟩
  have X_BadPlan : Ei K mg cE_BadPlan cT := ⟨⟨g1_BadPlan, g2_BadPlan, bE_BadPlan, g3_BadPlan, g4_BadPlan, g5_BadPlan, g6_BadPlan, g7_BadPlan⟩, PySem.W.mg_of X G aT, kT_BadPlan, kV_BadPlan⟩
  have X_BadValues : Ei K mg cE_BadValues cT := ⟨⟨g1_BadValues, g2_BadValues, bE_BadValues, g3_BadValues, g4_BadValues, g5_BadValues, g6_BadValues, g7_BadValues⟩, PySem.W.mg_of X G aT, kT_BadValues, kV_BadValues⟩
  have X_BadVersions : Ei K mg cE_BadVersions cT := ⟨⟨g1_BadVersions, g2_BadVersions, bE_BadVersions, g3_BadVersions, g4_BadVersions, g5_BadVersions, g6_BadVersions, g7_BadVersions⟩, PySem.W.mg_of X G aT, kT_BadVersions, kV_BadVersions⟩
  have X_BadWorld : Ei K mg cE_BadWorld cT := ⟨⟨g1_BadWorld, g2_BadWorld, bE_BadWorld, g3_BadWorld, g4_BadWorld, g5_BadWorld, g6_BadWorld, g7_BadWorld⟩, PySem.W.mg_of X G aT, kT_BadWorld, kV_BadWorld⟩
  have X_NoActor : Ei K mg cE_NoActor cT := ⟨⟨g1_NoActor, g2_NoActor, bE_NoActor, g3_NoActor, g4_NoActor, g5_NoActor, g6_NoActor, g7_NoActor⟩, PySem.W.mg_of X G aT, kT_NoActor, kV_NoActor⟩
  have X_NoReading : Ei K mg cE_NoReading cT := ⟨⟨g1_NoReading, g2_NoReading, bE_NoReading, g3_NoReading, g4_NoReading, g5_NoReading, g6_NoReading, g7_NoReading⟩, PySem.W.mg_of X G aT, kT_NoReading, kV_NoReading⟩
  have X_NoRegister : Ei K mg cE_NoRegister cT := ⟨⟨g1_NoRegister, g2_NoRegister, bE_NoRegister, g3_NoRegister, g4_NoRegister, g5_NoRegister, g6_NoRegister, g7_NoRegister⟩, PySem.W.mg_of X G aT, kT_NoRegister, kV_NoRegister⟩
  have X_NotTogether : Ei K mg cE_NotTogether cT := ⟨⟨g1_NotTogether, g2_NotTogether, bE_NotTogether, g3_NotTogether, g4_NotTogether, g5_NotTogether, g6_NotTogether, g7_NotTogether⟩, PySem.W.mg_of X G aT, kT_NotTogether, kV_NotTogether⟩
  have X_NothingToUndo : Ei K mg cE_NothingToUndo cT := ⟨⟨g1_NothingToUndo, g2_NothingToUndo, bE_NothingToUndo, g3_NothingToUndo, g4_NothingToUndo, g5_NothingToUndo, g6_NothingToUndo, g7_NothingToUndo⟩, PySem.W.mg_of X G aT, kT_NothingToUndo, kV_NothingToUndo⟩
  have N_BadChoice : Kin K cT [cE_BadChoice, cE_BadClaim, cE_BadPlan, cE_BadValues, cE_BadVersions, cE_BadWorld, cE_NoActor, cE_NoReading, cE_NoRegister, cE_NotTogether, cE_NothingToUndo] cE_BadChoice [true, false, false, false, false, false, false, false, false, false, false] := ⟨X_BadChoice.ex, (.cons r_BadChoice_BadChoice (.cons r_BadChoice_BadClaim (.cons r_BadChoice_BadPlan (.cons r_BadChoice_BadValues (.cons r_BadChoice_BadVersions (.cons r_BadChoice_BadWorld (.cons r_BadChoice_NoActor (.cons r_BadChoice_NoReading (.cons r_BadChoice_NoRegister (.cons r_BadChoice_NotTogether (.cons r_BadChoice_NothingToUndo .nil))))))))))), rfl, X_BadChoice.kT, X_BadChoice.kV⟩
  have N_BadClaim : Kin K cT [cE_BadChoice, cE_BadClaim, cE_BadPlan, cE_BadValues, cE_BadVersions, cE_BadWorld, cE_NoActor, cE_NoReading, cE_NoRegister, cE_NotTogether, cE_NothingToUndo] cE_BadClaim [false, true, false, false, false, false, false, false, false, false, false] := ⟨X_BadClaim.ex, (.cons r_BadClaim_BadChoice (.cons r_BadClaim_BadClaim (.cons r_BadClaim_BadPlan (.cons r_BadClaim_BadValues (.cons r_BadClaim_BadVersions (.cons r_BadClaim_BadWorld (.cons r_BadClaim_NoActor (.cons r_BadClaim_NoReading (.cons r_BadClaim_NoRegister (.cons r_BadClaim_NotTogether (.cons r_BadClaim_NothingToUndo .nil))))))))))), rfl, X_BadClaim.kT, X_BadClaim.kV⟩
  have N_BadPlan : Kin K cT [cE_BadChoice, cE_BadClaim, cE_BadPlan, cE_BadValues, cE_BadVersions, cE_BadWorld, cE_NoActor, cE_NoReading, cE_NoRegister, cE_NotTogether, cE_NothingToUndo] cE_BadPlan [false, false, true, false, false, false, false, false, false, false, false] := ⟨X_BadPlan.ex, (.cons r_BadPlan_BadChoice (.cons r_BadPlan_BadClaim (.cons r_BadPlan_BadPlan (.cons r_BadPlan_BadValues (.cons r_BadPlan_BadVersions (.cons r_BadPlan_BadWorld (.cons r_BadPlan_NoActor (.cons r_BadPlan_NoReading (.cons r_BadPlan_NoRegister (.cons r_BadPlan_NotTogether (.cons r_BadPlan_NothingToUndo .nil))))))))))), rfl, X_BadPlan.kT, X_BadPlan.kV⟩
  have N_BadValues : Kin K cT [cE_BadChoice, cE_BadClaim, cE_BadPlan, cE_BadValues, cE_BadVersions, cE_BadWorld, cE_NoActor, cE_NoReading, cE_NoRegister, cE_NotTogether, cE_NothingToUndo] cE_BadValues [false, false, false, true, false, false, false, false, false, false, false] := ⟨X_BadValues.ex, (.cons r_BadValues_BadChoice (.cons r_BadValues_BadClaim (.cons r_BadValues_BadPlan (.cons r_BadValues_BadValues (.cons r_BadValues_BadVersions (.cons r_BadValues_BadWorld (.cons r_BadValues_NoActor (.cons r_BadValues_NoReading (.cons r_BadValues_NoRegister (.cons r_BadValues_NotTogether (.cons r_BadValues_NothingToUndo .nil))))))))))), rfl, X_BadValues.kT, X_BadValues.kV⟩
  have N_BadVersions : Kin K cT [cE_BadChoice, cE_BadClaim, cE_BadPlan, cE_BadValues, cE_BadVersions, cE_BadWorld, cE_NoActor, cE_NoReading, cE_NoRegister, cE_NotTogether, cE_NothingToUndo] cE_BadVersions [false, false, false, false, true, false, false, false, false, false, false] := ⟨X_BadVersions.ex, (.cons r_BadVersions_BadChoice (.cons r_BadVersions_BadClaim (.cons r_BadVersions_BadPlan (.cons r_BadVersions_BadValues (.cons r_BadVersions_BadVersions (.cons r_BadVersions_BadWorld (.cons r_BadVersions_NoActor (.cons r_BadVersions_NoReading (.cons r_BadVersions_NoRegister (.cons r_BadVersions_NotTogether (.cons r_BadVersions_NothingToUndo .nil))))))))))), rfl, X_BadVersions.kT, X_BadVersions.kV⟩
  have N_BadWorld : Kin K cT [cE_BadChoice, cE_BadClaim, cE_BadPlan, cE_BadValues, cE_BadVersions, cE_BadWorld, cE_NoActor, cE_NoReading, cE_NoRegister, cE_NotTogether, cE_NothingToUndo] cE_BadWorld [false, false, false, false, false, true, false, false, false, false, false] := ⟨X_BadWorld.ex, (.cons r_BadWorld_BadChoice (.cons r_BadWorld_BadClaim (.cons r_BadWorld_BadPlan (.cons r_BadWorld_BadValues (.cons r_BadWorld_BadVersions (.cons r_BadWorld_BadWorld (.cons r_BadWorld_NoActor (.cons r_BadWorld_NoReading (.cons r_BadWorld_NoRegister (.cons r_BadWorld_NotTogether (.cons r_BadWorld_NothingToUndo .nil))))))))))), rfl, X_BadWorld.kT, X_BadWorld.kV⟩
  have N_NoActor : Kin K cT [cE_BadChoice, cE_BadClaim, cE_BadPlan, cE_BadValues, cE_BadVersions, cE_BadWorld, cE_NoActor, cE_NoReading, cE_NoRegister, cE_NotTogether, cE_NothingToUndo] cE_NoActor [false, false, false, false, false, false, true, false, false, false, false] := ⟨X_NoActor.ex, (.cons r_NoActor_BadChoice (.cons r_NoActor_BadClaim (.cons r_NoActor_BadPlan (.cons r_NoActor_BadValues (.cons r_NoActor_BadVersions (.cons r_NoActor_BadWorld (.cons r_NoActor_NoActor (.cons r_NoActor_NoReading (.cons r_NoActor_NoRegister (.cons r_NoActor_NotTogether (.cons r_NoActor_NothingToUndo .nil))))))))))), rfl, X_NoActor.kT, X_NoActor.kV⟩
  have N_NoReading : Kin K cT [cE_BadChoice, cE_BadClaim, cE_BadPlan, cE_BadValues, cE_BadVersions, cE_BadWorld, cE_NoActor, cE_NoReading, cE_NoRegister, cE_NotTogether, cE_NothingToUndo] cE_NoReading [false, false, false, false, false, false, false, true, false, false, false] := ⟨X_NoReading.ex, (.cons r_NoReading_BadChoice (.cons r_NoReading_BadClaim (.cons r_NoReading_BadPlan (.cons r_NoReading_BadValues (.cons r_NoReading_BadVersions (.cons r_NoReading_BadWorld (.cons r_NoReading_NoActor (.cons r_NoReading_NoReading (.cons r_NoReading_NoRegister (.cons r_NoReading_NotTogether (.cons r_NoReading_NothingToUndo .nil))))))))))), rfl, X_NoReading.kT, X_NoReading.kV⟩
  have N_NoRegister : Kin K cT [cE_BadChoice, cE_BadClaim, cE_BadPlan, cE_BadValues, cE_BadVersions, cE_BadWorld, cE_NoActor, cE_NoReading, cE_NoRegister, cE_NotTogether, cE_NothingToUndo] cE_NoRegister [false, false, false, false, false, false, false, false, true, false, false] := ⟨X_NoRegister.ex, (.cons r_NoRegister_BadChoice (.cons r_NoRegister_BadClaim (.cons r_NoRegister_BadPlan (.cons r_NoRegister_BadValues (.cons r_NoRegister_BadVersions (.cons r_NoRegister_BadWorld (.cons r_NoRegister_NoActor (.cons r_NoRegister_NoReading (.cons r_NoRegister_NoRegister (.cons r_NoRegister_NotTogether (.cons r_NoRegister_NothingToUndo .nil))))))))))), rfl, X_NoRegister.kT, X_NoRegister.kV⟩
  have N_NotTogether : Kin K cT [cE_BadChoice, cE_BadClaim, cE_BadPlan, cE_BadValues, cE_BadVersions, cE_BadWorld, cE_NoActor, cE_NoReading, cE_NoRegister, cE_NotTogether, cE_NothingToUndo] cE_NotTogether [false, false, false, false, false, false, false, false, false, true, false] := ⟨X_NotTogether.ex, (.cons r_NotTogether_BadChoice (.cons r_NotTogether_BadClaim (.cons r_NotTogether_BadPlan (.cons r_NotTogether_BadValues (.cons r_NotTogether_BadVersions (.cons r_NotTogether_BadWorld (.cons r_NotTogether_NoActor (.cons r_NotTogether_NoReading (.cons r_NotTogether_NoRegister (.cons r_NotTogether_NotTogether (.cons r_NotTogether_NothingToUndo .nil))))))))))), rfl, X_NotTogether.kT, X_NotTogether.kV⟩
  have N_NothingToUndo : Kin K cT [cE_BadChoice, cE_BadClaim, cE_BadPlan, cE_BadValues, cE_BadVersions, cE_BadWorld, cE_NoActor, cE_NoReading, cE_NoRegister, cE_NotTogether, cE_NothingToUndo] cE_NothingToUndo [false, false, false, false, false, false, false, false, false, false, true] := ⟨X_NothingToUndo.ex, (.cons r_NothingToUndo_BadChoice (.cons r_NothingToUndo_BadClaim (.cons r_NothingToUndo_BadPlan (.cons r_NothingToUndo_BadValues (.cons r_NothingToUndo_BadVersions (.cons r_NothingToUndo_BadWorld (.cons r_NothingToUndo_NoActor (.cons r_NothingToUndo_NoReading (.cons r_NothingToUndo_NoRegister (.cons r_NothingToUndo_NotTogether (.cons r_NothingToUndo_NothingToUndo .nil))))))))))), rfl, X_NothingToUndo.kT, X_NothingToUndo.kV⟩
  have g_TurnError := X_BadChoice.g_TurnError
  refine ⟨PySem.W.fnOf "law" "law" (defArgs s_law) (defBody s_law) (defScope s_law) .none kV9 dc9 pm9 an9 cd9 ct9, fun s v => .of_eq rfl, fun base _ _ => ?_⟩
  have O_BadPlan : Ef P w K mg base "BadPlan" "line" cE_BadPlan := ⟨T_BadPlan, gC_BadPlan, no_BadPlan, ⟨fI_BadPlan, _, in_BadPlan, ti_BadPlan, ok_init_BadPlan FI_BadPlan T_BadPlan no_BadPlan, bI_BadPlan⟩, ⟨ga_BadPlan, gg_BadPlan, bE_BadPlan, hd_BadPlan⟩, iE_BadPlan, sE_BadPlan⟩
  have O_BadValues : Ef P w K mg base "BadValues" "index" cE_BadValues := ⟨T_BadValues, gC_BadValues, no_BadValues, ⟨fI_BadValues, _, in_BadValues, ti_BadValues, ok_init_BadValues FI_BadValues T_BadValues no_BadValues, bI_BadValues⟩, ⟨ga_BadValues, gg_BadValues, bE_BadValues, hd_BadValues⟩, iE_BadValues, sE_BadValues⟩
  have O_BadWorld : Ef P w K mg base "BadWorld" "line" cE_BadWorld := ⟨T_BadWorld, gC_BadWorld, no_BadWorld, ⟨fI_BadWorld, _, in_BadWorld, ti_BadWorld, ok_init_BadWorld FI_BadWorld T_BadWorld no_BadWorld, bI_BadWorld⟩, ⟨ga_BadWorld, gg_BadWorld, bE_BadWorld, hd_BadWorld⟩, iE_BadWorld, sE_BadWorld⟩
  have O_NoActor : Ef P w K mg base "NoActor" "name" cE_NoActor := ⟨T_NoActor, gC_NoActor, no_NoActor, ⟨fI_NoActor, _, in_NoActor, ti_NoActor, ok_init_NoActor FI_NoActor T_NoActor no_NoActor, bI_NoActor⟩, ⟨ga_NoActor, gg_NoActor, bE_NoActor, hd_NoActor⟩, iE_NoActor, sE_NoActor⟩
  have O_NoReading : Ef P w K mg base "NoReading" "name" cE_NoReading := ⟨T_NoReading, gC_NoReading, no_NoReading, ⟨fI_NoReading, _, in_NoReading, ti_NoReading, ok_init_NoReading FI_NoReading T_NoReading no_NoReading, bI_NoReading⟩, ⟨ga_NoReading, gg_NoReading, bE_NoReading, hd_NoReading⟩, iE_NoReading, sE_NoReading⟩
  have O_NoRegister : Ef P w K mg base "NoRegister" "name" cE_NoRegister := ⟨T_NoRegister, gC_NoRegister, no_NoRegister, ⟨fI_NoRegister, _, in_NoRegister, ti_NoRegister, ok_init_NoRegister FI_NoRegister T_NoRegister no_NoRegister, bI_NoRegister⟩, ⟨ga_NoRegister, gg_NoRegister, bE_NoRegister, hd_NoRegister⟩, iE_NoRegister, sE_NoRegister⟩
  have C_draw : Cal P w K mg base CX0 1 "_law_draw" P_draw spDraw := ⟨f0, _, ok_draw F0 B, PySem.W.mg_of X G a0, k0, b0⟩
  have C_begun_pen : Cal P w K mg base CX0 1 "_law_begun_pen" P_begun_pen (spBegun K) := ⟨f1, _, ok_begun F1 B, PySem.W.mg_of X G a1, k1, b1⟩
  have C_pick : Cal P w K mg base CX0 2 "_law_pick" P_pick spPick := ⟨f2, _, ok_pick F2 B C_draw, PySem.W.mg_of X G a2, k2, b2⟩
  have C_shuffled : Cal P w K mg base CX0 2 "_law_shuffled" P_shuffled spShuffled := ⟨f3, _, ok_shuffled F3 B C_draw, PySem.W.mg_of X G a3, k3, b3⟩
  have C_new_names : Cal P w K mg base CX0 3 "_law_new_names" P_new_names spNames := ⟨f4, _, ok_names F4 B C_shuffled, PySem.W.mg_of X G a4, k4, b4⟩
  have C_classes : Cal P w K mg base CX0 1 "_law_classes" P_classes (spClasses K cT [cE_BadChoice, cE_BadClaim, cE_BadPlan, cE_BadValues, cE_BadVersions, cE_BadWorld, cE_NoActor, cE_NoReading, cE_NoRegister, cE_NotTogether, cE_NothingToUndo]) := ⟨f5, _, ok_classes F5 B E_BadChoice E_BadClaim O_BadPlan O_BadValues E_BadVersions O_BadWorld O_NoActor O_NoReading O_NoRegister E_NotTogether E_NothingToUndo g_TurnError, PySem.W.mg_of X G a5, k5, b5⟩
  have C_is_one : Cal P w K mg base CX0 2 "_law_is_one" P_is_one (spOne K cT [cE_BadChoice, cE_BadClaim, cE_BadPlan, cE_BadValues, cE_BadVersions, cE_BadWorld, cE_NoActor, cE_NoReading, cE_NoRegister, cE_NotTogether, cE_NothingToUndo]) := ⟨f6, _, ok_one F6 B g_TurnError C_classes, PySem.W.mg_of X G a6, k6, b6⟩
  have C_fielded : Cal P w K mg base CX0 3 "_law_fielded" P_fielded (spFielded cE_BadWorld cE_BadPlan cE_BadValues cE_NoReading cE_NoActor cE_NoRegister) := ⟨f7, _, ok_fielded F7 B O_BadWorld O_BadPlan O_BadValues O_NoReading O_NoActor O_NoRegister X_BadWorld.ex r_BadWorld_BadWorld X_BadPlan.ex r_BadPlan_BadPlan X_BadValues.ex r_BadValues_BadValues X_NoReading.ex r_NoReading_NoReading X_NoActor.ex r_NoActor_NoActor X_NoRegister.ex r_NoRegister_NoRegister, PySem.W.mg_of X G a7, k7, b7⟩
  have C_plain_right : Cal P w K mg base CX0 3 "_law_plain_right" P_plain_right spPlain := ⟨f8, _, ok_plain F8 B E_BadClaim N_BadClaim r_BadClaim_BadClaim E_NotTogether N_NotTogether r_NotTogether_NotTogether E_BadVersions N_BadVersions r_BadVersions_BadVersions E_BadChoice N_BadChoice r_BadChoice_BadChoice E_NothingToUndo N_NothingToUndo r_NothingToUndo_NothingToUndo C_is_one, PySem.W.mg_of X G a8, k8, b8⟩
  exact ok_law F9 B O_BadWorld O_BadPlan O_BadValues O_NoReading O_NoActor O_NoRegister N_BadChoice N_BadClaim N_BadPlan N_BadValues N_BadVersions N_BadWorld N_NoActor N_NoReading N_NoRegister N_NotTogether N_NothingToUndo C_begun_pen C_draw C_pick C_new_names C_fielded C_is_one C_plain_right
end Dg
open PySem PySem.W PyProof.Rows
set_option maxRecDepth 100000 in
set_option maxHeartbeats 0 in
theorem PySem.Challenge.cw_digitsturn_k16_errors_holds : PySem.Challenge.rw_digitsturn_k16_errors.Holds := by
  w_on; o_law; k_head; (case hw => w_witness2)
  k_fill
  refine L2.walk_of (l := PySem.Challenge.rw_digitsturn_k16_errors) (n := 63) (k := 4) (x := "script") (CX := fun _ => L2.CX0) (sp := fun w => Dg.spLaw _) rfl (by decide) rfl ⟨rfl, by decide, by decide⟩ (fun w h Y => PySem.W.kIn_of Y) ?F (fun _ _ a ns hl _ hS => ⟨a, ns, rfl, hS, hl, fun _ => rfl⟩) (fun _ _ _ _ _ h => h)
  case F =>
    intro w mg fa h KX G hmg
    refine' Dg.all_mk KX G hmg ?a0 ?l0 ?c0 ?k0 ?a1 ?l1 ?c1 ?k1 ?a2 ?l2 ?c2 ?k2 ?a3 ?l3 ?c3 ?k3 ?a4 ?l4 ?c4 ?k4 ?a5 ?l5 ?c5 ?k5 ?a6 ?l6 ?c6 ?k6 ?a7 ?l7 ?c7 ?k7 ?a8 ?l8 ?c8 ?k8 ?a9 ?l9 ?c9 ?k9 ?aE_BadChoice ?xE_BadChoice ?kE_BadChoice ?bE_BadChoice ?tE_BadChoice ?iE_BadChoice ?sE_BadChoice ?aE_BadClaim ?xE_BadClaim ?kE_BadClaim ?bE_BadClaim ?tE_BadClaim ?iE_BadClaim ?sE_BadClaim ?aE_BadVersions ?xE_BadVersions ?kE_BadVersions ?bE_BadVersions ?tE_BadVersions ?iE_BadVersions ?sE_BadVersions ?aE_NotTogether ?xE_NotTogether ?kE_NotTogether ?bE_NotTogether ?tE_NotTogether ?iE_NotTogether ?sE_NotTogether ?aE_NothingToUndo ?xE_NothingToUndo ?kE_NothingToUndo ?bE_NothingToUndo ?tE_NothingToUndo ?iE_NothingToUndo ?sE_NothingToUndo ?aT ?g1_BadChoice ?g2_BadChoice ?g3_BadChoice ?g4_BadChoice ?g5_BadChoice ?g6_BadChoice ?g7_BadChoice ?kT_BadChoice ?kV_BadChoice ?g1_BadClaim ?g2_BadClaim ?g3_BadClaim ?g4_BadClaim ?g5_BadClaim ?g6_BadClaim ?g7_BadClaim ?kT_BadClaim ?kV_BadClaim ?g1_BadPlan ?g2_BadPlan ?g3_BadPlan ?g4_BadPlan ?g5_BadPlan ?g6_BadPlan ?g7_BadPlan ?kT_BadPlan ?kV_BadPlan ?g1_BadValues ?g2_BadValues ?g3_BadValues ?g4_BadValues ?g5_BadValues ?g6_BadValues ?g7_BadValues ?kT_BadValues ?kV_BadValues ?g1_BadVersions ?g2_BadVersions ?g3_BadVersions ?g4_BadVersions ?g5_BadVersions ?g6_BadVersions ?g7_BadVersions ?kT_BadVersions ?kV_BadVersions ?g1_BadWorld ?g2_BadWorld ?g3_BadWorld ?g4_BadWorld ?g5_BadWorld ?g6_BadWorld ?g7_BadWorld ?kT_BadWorld ?kV_BadWorld ?g1_NoActor ?g2_NoActor ?g3_NoActor ?g4_NoActor ?g5_NoActor ?g6_NoActor ?g7_NoActor ?kT_NoActor ?kV_NoActor ?g1_NoReading ?g2_NoReading ?g3_NoReading ?g4_NoReading ?g5_NoReading ?g6_NoReading ?g7_NoReading ?kT_NoReading ?kV_NoReading ?g1_NoRegister ?g2_NoRegister ?g3_NoRegister ?g4_NoRegister ?g5_NoRegister ?g6_NoRegister ?g7_NoRegister ?kT_NoRegister ?kV_NoRegister ?g1_NotTogether ?g2_NotTogether ?g3_NotTogether ?g4_NotTogether ?g5_NotTogether ?g6_NotTogether ?g7_NotTogether ?kT_NotTogether ?kV_NotTogether ?g1_NothingToUndo ?g2_NothingToUndo ?g3_NothingToUndo ?g4_NothingToUndo ?g5_NothingToUndo ?g6_NothingToUndo ?g7_NothingToUndo ?kT_NothingToUndo ?kV_NothingToUndo ?aE_BadPlan ?xL_BadPlan ?rv_BadPlan ?sa_BadPlan ?bE_BadPlan ?tE_BadPlan ?kE_BadPlan ?no_BadPlan ?in_BadPlan ?ti_BadPlan ?lI_BadPlan ?cI_BadPlan ?kI_BadPlan ?ga_BadPlan ?gg_BadPlan ?hd_BadPlan ?iE_BadPlan ?sE_BadPlan ?aE_BadValues ?xL_BadValues ?rv_BadValues ?sa_BadValues ?bE_BadValues ?tE_BadValues ?kE_BadValues ?no_BadValues ?in_BadValues ?ti_BadValues ?lI_BadValues ?cI_BadValues ?kI_BadValues ?ga_BadValues ?gg_BadValues ?hd_BadValues ?iE_BadValues ?sE_BadValues ?aE_BadWorld ?xL_BadWorld ?rv_BadWorld ?sa_BadWorld ?bE_BadWorld ?tE_BadWorld ?kE_BadWorld ?no_BadWorld ?in_BadWorld ?ti_BadWorld ?lI_BadWorld ?cI_BadWorld ?kI_BadWorld ?ga_BadWorld ?gg_BadWorld ?hd_BadWorld ?iE_BadWorld ?sE_BadWorld ?aE_NoActor ?xL_NoActor ?rv_NoActor ?sa_NoActor ?bE_NoActor ?tE_NoActor ?kE_NoActor ?no_NoActor ?in_NoActor ?ti_NoActor ?lI_NoActor ?cI_NoActor ?kI_NoActor ?ga_NoActor ?gg_NoActor ?hd_NoActor ?iE_NoActor ?sE_NoActor ?aE_NoReading ?xL_NoReading ?rv_NoReading ?sa_NoReading ?bE_NoReading ?tE_NoReading ?kE_NoReading ?no_NoReading ?in_NoReading ?ti_NoReading ?lI_NoReading ?cI_NoReading ?kI_NoReading ?ga_NoReading ?gg_NoReading ?hd_NoReading ?iE_NoReading ?sE_NoReading ?aE_NoRegister ?xL_NoRegister ?rv_NoRegister ?sa_NoRegister ?bE_NoRegister ?tE_NoRegister ?kE_NoRegister ?no_NoRegister ?in_NoRegister ?ti_NoRegister ?lI_NoRegister ?cI_NoRegister ?kI_NoRegister ?ga_NoRegister ?gg_NoRegister ?hd_NoRegister ?iE_NoRegister ?sE_NoRegister ?r_BadChoice_BadChoice ?r_BadChoice_BadClaim ?r_BadChoice_BadPlan ?r_BadChoice_BadValues ?r_BadChoice_BadVersions ?r_BadChoice_BadWorld ?r_BadChoice_NoActor ?r_BadChoice_NoReading ?r_BadChoice_NoRegister ?r_BadChoice_NotTogether ?r_BadChoice_NothingToUndo ?r_BadClaim_BadChoice ?r_BadClaim_BadClaim ?r_BadClaim_BadPlan ?r_BadClaim_BadValues ?r_BadClaim_BadVersions ?r_BadClaim_BadWorld ?r_BadClaim_NoActor ?r_BadClaim_NoReading ?r_BadClaim_NoRegister ?r_BadClaim_NotTogether ?r_BadClaim_NothingToUndo ?r_BadPlan_BadChoice ?r_BadPlan_BadClaim ?r_BadPlan_BadPlan ?r_BadPlan_BadValues ?r_BadPlan_BadVersions ?r_BadPlan_BadWorld ?r_BadPlan_NoActor ?r_BadPlan_NoReading ?r_BadPlan_NoRegister ?r_BadPlan_NotTogether ?r_BadPlan_NothingToUndo ?r_BadValues_BadChoice ?r_BadValues_BadClaim ?r_BadValues_BadPlan ?r_BadValues_BadValues ?r_BadValues_BadVersions ?r_BadValues_BadWorld ?r_BadValues_NoActor ?r_BadValues_NoReading ?r_BadValues_NoRegister ?r_BadValues_NotTogether ?r_BadValues_NothingToUndo ?r_BadVersions_BadChoice ?r_BadVersions_BadClaim ?r_BadVersions_BadPlan ?r_BadVersions_BadValues ?r_BadVersions_BadVersions ?r_BadVersions_BadWorld ?r_BadVersions_NoActor ?r_BadVersions_NoReading ?r_BadVersions_NoRegister ?r_BadVersions_NotTogether ?r_BadVersions_NothingToUndo ?r_BadWorld_BadChoice ?r_BadWorld_BadClaim ?r_BadWorld_BadPlan ?r_BadWorld_BadValues ?r_BadWorld_BadVersions ?r_BadWorld_BadWorld ?r_BadWorld_NoActor ?r_BadWorld_NoReading ?r_BadWorld_NoRegister ?r_BadWorld_NotTogether ?r_BadWorld_NothingToUndo ?r_NoActor_BadChoice ?r_NoActor_BadClaim ?r_NoActor_BadPlan ?r_NoActor_BadValues ?r_NoActor_BadVersions ?r_NoActor_BadWorld ?r_NoActor_NoActor ?r_NoActor_NoReading ?r_NoActor_NoRegister ?r_NoActor_NotTogether ?r_NoActor_NothingToUndo ?r_NoReading_BadChoice ?r_NoReading_BadClaim ?r_NoReading_BadPlan ?r_NoReading_BadValues ?r_NoReading_BadVersions ?r_NoReading_BadWorld ?r_NoReading_NoActor ?r_NoReading_NoReading ?r_NoReading_NoRegister ?r_NoReading_NotTogether ?r_NoReading_NothingToUndo ?r_NoRegister_BadChoice ?r_NoRegister_BadClaim ?r_NoRegister_BadPlan ?r_NoRegister_BadValues ?r_NoRegister_BadVersions ?r_NoRegister_BadWorld ?r_NoRegister_NoActor ?r_NoRegister_NoReading ?r_NoRegister_NoRegister ?r_NoRegister_NotTogether ?r_NoRegister_NothingToUndo ?r_NotTogether_BadChoice ?r_NotTogether_BadClaim ?r_NotTogether_BadPlan ?r_NotTogether_BadValues ?r_NotTogether_BadVersions ?r_NotTogether_BadWorld ?r_NotTogether_NoActor ?r_NotTogether_NoReading ?r_NotTogether_NoRegister ?r_NotTogether_NotTogether ?r_NotTogether_NothingToUndo ?r_NothingToUndo_BadChoice ?r_NothingToUndo_BadClaim ?r_NothingToUndo_BadPlan ?r_NothingToUndo_BadValues ?r_NothingToUndo_BadVersions ?r_NothingToUndo_BadWorld ?r_NothingToUndo_NoActor ?r_NothingToUndo_NoReading ?r_NothingToUndo_NoRegister ?r_NothingToUndo_NotTogether ?r_NothingToUndo_NothingToUndo ?z_abs ?z_all ?z_dict ?z_enumerate ?z_int ?z_isinstance ?z_len ?z_list ?z_max ?z_min ?z_range ?z_repr ?z_sorted ?z_str ?z_sum ?z_tuple ?z_zip ?z_ValueError
    (case a0 => k_is)
    (case l0 => k_is)
    (case c0 => k_is)
    (case k0 => k_is)
    (case a1 => k_is)
    (case l1 => k_is)
    (case c1 => k_is)
    (case k1 => k_is)
    (case a2 => k_is)
    (case l2 => k_is)
    (case c2 => k_is)
    (case k2 => k_is)
    (case a3 => k_is)
    (case l3 => k_is)
    (case c3 => k_is)
    (case k3 => k_is)
    (case a4 => k_is)
    (case l4 => k_is)
    (case c4 => k_is)
    (case k4 => k_is)
    (case a5 => k_is)
    (case l5 => k_is)
    (case c5 => k_is)
    (case k5 => k_is)
    (case a6 => k_is)
    (case l6 => k_is)
    (case c6 => k_is)
    (case k6 => k_is)
    (case a7 => k_is)
    (case l7 => k_is)
    (case c7 => k_is)
    (case k7 => k_is)
    (case a8 => k_is)
    (case l8 => k_is)
    (case c8 => k_is)
    (case k8 => k_is)
    (case a9 => k_is)
    (case l9 => k_is)
    (case c9 => k_is)
    (case k9 => k_is)
    (case aE_BadChoice => k_is)
    (case xE_BadChoice => first | k_exc | k_is)
    (case kE_BadChoice => k_is)
    (case bE_BadChoice => k_is)
    (case tE_BadChoice => k_is)
    (case iE_BadChoice => k_is)
    (case sE_BadChoice => first | rfl | k_is)
    (case aE_BadClaim => k_is)
    (case xE_BadClaim => first | k_exc | k_is)
    (case kE_BadClaim => k_is)
    (case bE_BadClaim => k_is)
    (case tE_BadClaim => k_is)
    (case iE_BadClaim => k_is)
    (case sE_BadClaim => first | rfl | k_is)
    (case aE_BadVersions => k_is)
    (case xE_BadVersions => first | k_exc | k_is)
    (case kE_BadVersions => k_is)
    (case bE_BadVersions => k_is)
    (case tE_BadVersions => k_is)
    (case iE_BadVersions => k_is)
    (case sE_BadVersions => first | rfl | k_is)
    (case aE_NotTogether => k_is)
    (case xE_NotTogether => first | k_exc | k_is)
    (case kE_NotTogether => k_is)
    (case bE_NotTogether => k_is)
    (case tE_NotTogether => k_is)
    (case iE_NotTogether => k_is)
    (case sE_NotTogether => first | rfl | k_is)
    (case aE_NothingToUndo => k_is)
    (case xE_NothingToUndo => first | k_exc | k_is)
    (case kE_NothingToUndo => k_is)
    (case bE_NothingToUndo => k_is)
    (case tE_NothingToUndo => k_is)
    (case iE_NothingToUndo => k_is)
    (case sE_NothingToUndo => first | rfl | k_is)
    (case aE_BadPlan => k_is)
    (case xL_BadPlan => k_is)
    (case rv_BadPlan => rfl)
    (case sa_BadPlan => k_is)
    (case bE_BadPlan => k_is)
    (case tE_BadPlan => k_is)
    (case kE_BadPlan => k_is)
    (case no_BadPlan => k_is)
    (case in_BadPlan => k_is)
    (case ti_BadPlan => k_is)
    (case lI_BadPlan => k_is)
    (case cI_BadPlan => k_is)
    (case kI_BadPlan => k_is)
    (case ga_BadPlan => k_is)
    (case gg_BadPlan => k_is)
    (case hd_BadPlan => k_is)
    (case iE_BadPlan => k_is)
    (case sE_BadPlan => first | rfl | k_is)
    (case aE_BadValues => k_is)
    (case xL_BadValues => k_is)
    (case rv_BadValues => rfl)
    (case sa_BadValues => k_is)
    (case bE_BadValues => k_is)
    (case tE_BadValues => k_is)
    (case kE_BadValues => k_is)
    (case no_BadValues => k_is)
    (case in_BadValues => k_is)
    (case ti_BadValues => k_is)
    (case lI_BadValues => k_is)
    (case cI_BadValues => k_is)
    (case kI_BadValues => k_is)
    (case ga_BadValues => k_is)
    (case gg_BadValues => k_is)
    (case hd_BadValues => k_is)
    (case iE_BadValues => k_is)
    (case sE_BadValues => first | rfl | k_is)
    (case aE_BadWorld => k_is)
    (case xL_BadWorld => k_is)
    (case rv_BadWorld => rfl)
    (case sa_BadWorld => k_is)
    (case bE_BadWorld => k_is)
    (case tE_BadWorld => k_is)
    (case kE_BadWorld => k_is)
    (case no_BadWorld => k_is)
    (case in_BadWorld => k_is)
    (case ti_BadWorld => k_is)
    (case lI_BadWorld => k_is)
    (case cI_BadWorld => k_is)
    (case kI_BadWorld => k_is)
    (case ga_BadWorld => k_is)
    (case gg_BadWorld => k_is)
    (case hd_BadWorld => k_is)
    (case iE_BadWorld => k_is)
    (case sE_BadWorld => first | rfl | k_is)
    (case aE_NoActor => k_is)
    (case xL_NoActor => k_is)
    (case rv_NoActor => rfl)
    (case sa_NoActor => k_is)
    (case bE_NoActor => k_is)
    (case tE_NoActor => k_is)
    (case kE_NoActor => k_is)
    (case no_NoActor => k_is)
    (case in_NoActor => k_is)
    (case ti_NoActor => k_is)
    (case lI_NoActor => k_is)
    (case cI_NoActor => k_is)
    (case kI_NoActor => k_is)
    (case ga_NoActor => k_is)
    (case gg_NoActor => k_is)
    (case hd_NoActor => k_is)
    (case iE_NoActor => k_is)
    (case sE_NoActor => first | rfl | k_is)
    (case aE_NoReading => k_is)
    (case xL_NoReading => k_is)
    (case rv_NoReading => rfl)
    (case sa_NoReading => k_is)
    (case bE_NoReading => k_is)
    (case tE_NoReading => k_is)
    (case kE_NoReading => k_is)
    (case no_NoReading => k_is)
    (case in_NoReading => k_is)
    (case ti_NoReading => k_is)
    (case lI_NoReading => k_is)
    (case cI_NoReading => k_is)
    (case kI_NoReading => k_is)
    (case ga_NoReading => k_is)
    (case gg_NoReading => k_is)
    (case hd_NoReading => k_is)
    (case iE_NoReading => k_is)
    (case sE_NoReading => first | rfl | k_is)
    (case aE_NoRegister => k_is)
    (case xL_NoRegister => k_is)
    (case rv_NoRegister => rfl)
    (case sa_NoRegister => k_is)
    (case bE_NoRegister => k_is)
    (case tE_NoRegister => k_is)
    (case kE_NoRegister => k_is)
    (case no_NoRegister => k_is)
    (case in_NoRegister => k_is)
    (case ti_NoRegister => k_is)
    (case lI_NoRegister => k_is)
    (case cI_NoRegister => k_is)
    (case kI_NoRegister => k_is)
    (case ga_NoRegister => k_is)
    (case gg_NoRegister => k_is)
    (case hd_NoRegister => k_is)
    (case iE_NoRegister => k_is)
    (case sE_NoRegister => first | rfl | k_is)
    (case z_abs => k_is)
    (case z_all => k_is)
    (case z_dict => k_is)
    (case z_enumerate => k_is)
    (case z_int => k_is)
    (case z_isinstance => k_is)
    (case z_len => k_is)
    (case z_list => k_is)
    (case z_max => k_is)
    (case z_min => k_is)
    (case z_range => k_is)
    (case z_repr => k_is)
    (case z_sorted => k_is)
    (case z_str => k_is)
    (case z_sum => k_is)
    (case z_tuple => k_is)
    (case z_zip => k_is)
    (case z_ValueError => k_is)
    (case aT => k_is)
    (case g1_BadChoice => k_is)
    (case g2_BadChoice => k_is)
    (case g3_BadChoice => k_is)
    (case g4_BadChoice => k_is)
    (case g5_BadChoice => k_is)
    (case g6_BadChoice => k_is)
    (case g7_BadChoice => k_is)
    (case kT_BadChoice => first | kit_is | k_is)
    (case kV_BadChoice => first | kit_is | k_is)
    (case g1_BadClaim => k_is)
    (case g2_BadClaim => k_is)
    (case g3_BadClaim => k_is)
    (case g4_BadClaim => k_is)
    (case g5_BadClaim => k_is)
    (case g6_BadClaim => k_is)
    (case g7_BadClaim => k_is)
    (case kT_BadClaim => first | kit_is | k_is)
    (case kV_BadClaim => first | kit_is | k_is)
    (case g1_BadPlan => k_is)
    (case g2_BadPlan => k_is)
    (case g3_BadPlan => k_is)
    (case g4_BadPlan => k_is)
    (case g5_BadPlan => k_is)
    (case g6_BadPlan => k_is)
    (case g7_BadPlan => k_is)
    (case kT_BadPlan => first | kit_is | k_is)
    (case kV_BadPlan => first | kit_is | k_is)
    (case g1_BadValues => k_is)
    (case g2_BadValues => k_is)
    (case g3_BadValues => k_is)
    (case g4_BadValues => k_is)
    (case g5_BadValues => k_is)
    (case g6_BadValues => k_is)
    (case g7_BadValues => k_is)
    (case kT_BadValues => first | kit_is | k_is)
    (case kV_BadValues => first | kit_is | k_is)
    (case g1_BadVersions => k_is)
    (case g2_BadVersions => k_is)
    (case g3_BadVersions => k_is)
    (case g4_BadVersions => k_is)
    (case g5_BadVersions => k_is)
    (case g6_BadVersions => k_is)
    (case g7_BadVersions => k_is)
    (case kT_BadVersions => first | kit_is | k_is)
    (case kV_BadVersions => first | kit_is | k_is)
    (case g1_BadWorld => k_is)
    (case g2_BadWorld => k_is)
    (case g3_BadWorld => k_is)
    (case g4_BadWorld => k_is)
    (case g5_BadWorld => k_is)
    (case g6_BadWorld => k_is)
    (case g7_BadWorld => k_is)
    (case kT_BadWorld => first | kit_is | k_is)
    (case kV_BadWorld => first | kit_is | k_is)
    (case g1_NoActor => k_is)
    (case g2_NoActor => k_is)
    (case g3_NoActor => k_is)
    (case g4_NoActor => k_is)
    (case g5_NoActor => k_is)
    (case g6_NoActor => k_is)
    (case g7_NoActor => k_is)
    (case kT_NoActor => first | kit_is | k_is)
    (case kV_NoActor => first | kit_is | k_is)
    (case g1_NoReading => k_is)
    (case g2_NoReading => k_is)
    (case g3_NoReading => k_is)
    (case g4_NoReading => k_is)
    (case g5_NoReading => k_is)
    (case g6_NoReading => k_is)
    (case g7_NoReading => k_is)
    (case kT_NoReading => first | kit_is | k_is)
    (case kV_NoReading => first | kit_is | k_is)
    (case g1_NoRegister => k_is)
    (case g2_NoRegister => k_is)
    (case g3_NoRegister => k_is)
    (case g4_NoRegister => k_is)
    (case g5_NoRegister => k_is)
    (case g6_NoRegister => k_is)
    (case g7_NoRegister => k_is)
    (case kT_NoRegister => first | kit_is | k_is)
    (case kV_NoRegister => first | kit_is | k_is)
    (case g1_NotTogether => k_is)
    (case g2_NotTogether => k_is)
    (case g3_NotTogether => k_is)
    (case g4_NotTogether => k_is)
    (case g5_NotTogether => k_is)
    (case g6_NotTogether => k_is)
    (case g7_NotTogether => k_is)
    (case kT_NotTogether => first | kit_is | k_is)
    (case kV_NotTogether => first | kit_is | k_is)
    (case g1_NothingToUndo => k_is)
    (case g2_NothingToUndo => k_is)
    (case g3_NothingToUndo => k_is)
    (case g4_NothingToUndo => k_is)
    (case g5_NothingToUndo => k_is)
    (case g6_NothingToUndo => k_is)
    (case g7_NothingToUndo => k_is)
    (case kT_NothingToUndo => first | kit_is | k_is)
    (case kV_NothingToUndo => first | kit_is | k_is)
    (case r_BadChoice_BadChoice => first | kit_is | k_is)
    (case r_BadChoice_BadClaim => first | kit_is | k_is)
    (case r_BadChoice_BadPlan => first | kit_is | k_is)
    (case r_BadChoice_BadValues => first | kit_is | k_is)
    (case r_BadChoice_BadVersions => first | kit_is | k_is)
    (case r_BadChoice_BadWorld => first | kit_is | k_is)
    (case r_BadChoice_NoActor => first | kit_is | k_is)
    (case r_BadChoice_NoReading => first | kit_is | k_is)
    (case r_BadChoice_NoRegister => first | kit_is | k_is)
    (case r_BadChoice_NotTogether => first | kit_is | k_is)
    (case r_BadChoice_NothingToUndo => first | kit_is | k_is)
    (case r_BadClaim_BadChoice => first | kit_is | k_is)
    (case r_BadClaim_BadClaim => first | kit_is | k_is)
    (case r_BadClaim_BadPlan => first | kit_is | k_is)
    (case r_BadClaim_BadValues => first | kit_is | k_is)
    (case r_BadClaim_BadVersions => first | kit_is | k_is)
    (case r_BadClaim_BadWorld => first | kit_is | k_is)
    (case r_BadClaim_NoActor => first | kit_is | k_is)
    (case r_BadClaim_NoReading => first | kit_is | k_is)
    (case r_BadClaim_NoRegister => first | kit_is | k_is)
    (case r_BadClaim_NotTogether => first | kit_is | k_is)
    (case r_BadClaim_NothingToUndo => first | kit_is | k_is)
    (case r_BadPlan_BadChoice => first | kit_is | k_is)
    (case r_BadPlan_BadClaim => first | kit_is | k_is)
    (case r_BadPlan_BadPlan => first | kit_is | k_is)
    (case r_BadPlan_BadValues => first | kit_is | k_is)
    (case r_BadPlan_BadVersions => first | kit_is | k_is)
    (case r_BadPlan_BadWorld => first | kit_is | k_is)
    (case r_BadPlan_NoActor => first | kit_is | k_is)
    (case r_BadPlan_NoReading => first | kit_is | k_is)
    (case r_BadPlan_NoRegister => first | kit_is | k_is)
    (case r_BadPlan_NotTogether => first | kit_is | k_is)
    (case r_BadPlan_NothingToUndo => first | kit_is | k_is)
    (case r_BadValues_BadChoice => first | kit_is | k_is)
    (case r_BadValues_BadClaim => first | kit_is | k_is)
    (case r_BadValues_BadPlan => first | kit_is | k_is)
    (case r_BadValues_BadValues => first | kit_is | k_is)
    (case r_BadValues_BadVersions => first | kit_is | k_is)
    (case r_BadValues_BadWorld => first | kit_is | k_is)
    (case r_BadValues_NoActor => first | kit_is | k_is)
    (case r_BadValues_NoReading => first | kit_is | k_is)
    (case r_BadValues_NoRegister => first | kit_is | k_is)
    (case r_BadValues_NotTogether => first | kit_is | k_is)
    (case r_BadValues_NothingToUndo => first | kit_is | k_is)
    (case r_BadVersions_BadChoice => first | kit_is | k_is)
    (case r_BadVersions_BadClaim => first | kit_is | k_is)
    (case r_BadVersions_BadPlan => first | kit_is | k_is)
    (case r_BadVersions_BadValues => first | kit_is | k_is)
    (case r_BadVersions_BadVersions => first | kit_is | k_is)
    (case r_BadVersions_BadWorld => first | kit_is | k_is)
    (case r_BadVersions_NoActor => first | kit_is | k_is)
    (case r_BadVersions_NoReading => first | kit_is | k_is)
    (case r_BadVersions_NoRegister => first | kit_is | k_is)
    (case r_BadVersions_NotTogether => first | kit_is | k_is)
    (case r_BadVersions_NothingToUndo => first | kit_is | k_is)
    (case r_BadWorld_BadChoice => first | kit_is | k_is)
    (case r_BadWorld_BadClaim => first | kit_is | k_is)
    (case r_BadWorld_BadPlan => first | kit_is | k_is)
    (case r_BadWorld_BadValues => first | kit_is | k_is)
    (case r_BadWorld_BadVersions => first | kit_is | k_is)
    (case r_BadWorld_BadWorld => first | kit_is | k_is)
    (case r_BadWorld_NoActor => first | kit_is | k_is)
    (case r_BadWorld_NoReading => first | kit_is | k_is)
    (case r_BadWorld_NoRegister => first | kit_is | k_is)
    (case r_BadWorld_NotTogether => first | kit_is | k_is)
    (case r_BadWorld_NothingToUndo => first | kit_is | k_is)
    (case r_NoActor_BadChoice => first | kit_is | k_is)
    (case r_NoActor_BadClaim => first | kit_is | k_is)
    (case r_NoActor_BadPlan => first | kit_is | k_is)
    (case r_NoActor_BadValues => first | kit_is | k_is)
    (case r_NoActor_BadVersions => first | kit_is | k_is)
    (case r_NoActor_BadWorld => first | kit_is | k_is)
    (case r_NoActor_NoActor => first | kit_is | k_is)
    (case r_NoActor_NoReading => first | kit_is | k_is)
    (case r_NoActor_NoRegister => first | kit_is | k_is)
    (case r_NoActor_NotTogether => first | kit_is | k_is)
    (case r_NoActor_NothingToUndo => first | kit_is | k_is)
    (case r_NoReading_BadChoice => first | kit_is | k_is)
    (case r_NoReading_BadClaim => first | kit_is | k_is)
    (case r_NoReading_BadPlan => first | kit_is | k_is)
    (case r_NoReading_BadValues => first | kit_is | k_is)
    (case r_NoReading_BadVersions => first | kit_is | k_is)
    (case r_NoReading_BadWorld => first | kit_is | k_is)
    (case r_NoReading_NoActor => first | kit_is | k_is)
    (case r_NoReading_NoReading => first | kit_is | k_is)
    (case r_NoReading_NoRegister => first | kit_is | k_is)
    (case r_NoReading_NotTogether => first | kit_is | k_is)
    (case r_NoReading_NothingToUndo => first | kit_is | k_is)
    (case r_NoRegister_BadChoice => first | kit_is | k_is)
    (case r_NoRegister_BadClaim => first | kit_is | k_is)
    (case r_NoRegister_BadPlan => first | kit_is | k_is)
    (case r_NoRegister_BadValues => first | kit_is | k_is)
    (case r_NoRegister_BadVersions => first | kit_is | k_is)
    (case r_NoRegister_BadWorld => first | kit_is | k_is)
    (case r_NoRegister_NoActor => first | kit_is | k_is)
    (case r_NoRegister_NoReading => first | kit_is | k_is)
    (case r_NoRegister_NoRegister => first | kit_is | k_is)
    (case r_NoRegister_NotTogether => first | kit_is | k_is)
    (case r_NoRegister_NothingToUndo => first | kit_is | k_is)
    (case r_NotTogether_BadChoice => first | kit_is | k_is)
    (case r_NotTogether_BadClaim => first | kit_is | k_is)
    (case r_NotTogether_BadPlan => first | kit_is | k_is)
    (case r_NotTogether_BadValues => first | kit_is | k_is)
    (case r_NotTogether_BadVersions => first | kit_is | k_is)
    (case r_NotTogether_BadWorld => first | kit_is | k_is)
    (case r_NotTogether_NoActor => first | kit_is | k_is)
    (case r_NotTogether_NoReading => first | kit_is | k_is)
    (case r_NotTogether_NoRegister => first | kit_is | k_is)
    (case r_NotTogether_NotTogether => first | kit_is | k_is)
    (case r_NotTogether_NothingToUndo => first | kit_is | k_is)
    (case r_NothingToUndo_BadChoice => first | kit_is | k_is)
    (case r_NothingToUndo_BadClaim => first | kit_is | k_is)
    (case r_NothingToUndo_BadPlan => first | kit_is | k_is)
    (case r_NothingToUndo_BadValues => first | kit_is | k_is)
    (case r_NothingToUndo_BadVersions => first | kit_is | k_is)
    (case r_NothingToUndo_BadWorld => first | kit_is | k_is)
    (case r_NothingToUndo_NoActor => first | kit_is | k_is)
    (case r_NothingToUndo_NoReading => first | kit_is | k_is)
    (case r_NothingToUndo_NoRegister => first | kit_is | k_is)
    (case r_NothingToUndo_NotTogether => first | kit_is | k_is)
    (case r_NothingToUndo_NothingToUndo => first | kit_is | k_is)

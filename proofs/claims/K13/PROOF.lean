import PyProof.Rows.All
import Wide.All
import OpenK.AllK
import Wide.FinOn
import HandS.ForMost
import HandS.Wide
import HandS.TupAny
import HandS.TupMul
import HandS.Style
import HandS.Conv
import HandS.Codes
import HandS.Exc
import HandS.TryOnly
import HandS.ExcOwn
import HandS.WordsExc
import HandS.Deep
import HandS.ExcIs
import PySem.Challenge.RW_digitsturn_k13_whole_at_most
set_option Elab.async false
set_option linter.all false
set_option maxRecDepth 100000
namespace Dg
open PySem PySem.Spec PyProof.Rows L2

local macro_rules | `(tactic| walk_at "rd1") => `(tactic| first | refine ⟨_, rfl, ?_⟩ | refine ⟨_, _, rfl, rfl, ?_⟩)
local macro_rules | `(tactic| walk_at "rd") => `(tactic| repeat walk_at "rd1")
structure Cal (P : Program) (w : World) (K : PySem.W.Frag) (mg : Str → Option Value) (base : Heap) (CX : CXT) (k : Nat) (x : Str) (ps : List Str) (sp : Sp) : Prop where
  ex : ∃ (f : Addr) (fd : FuncData), FnOk P w K mg base CX k f fd ps sp ∧ mg x = some (.ref f) ∧ PySem.W.keepIn K (.ref f) = true ∧ Binds K fd ps []
section
variable {X : Cx} {CX : CXT} {k : Nat} {x : Str} {ps : List Str} {sp : Sp} {E : XK} {e : Expr} {es : List Expr} {t : TA} {p pos : Pos}
theorem pe_cal (C : Cal X.prog X.w X.K X.mg X.base CX k x ps sp) (hr : Room k X.A) (hg : Gl X x) (hx : Passes CX X E)
    (ha : PA X (e :: es) t) (hdb : (x == ("__debug__" : Str)) = false := by decide) (he : starEach (e :: es) X.env = (false, eval e X.env) :: starEach es X.env := by rfl) (hpl : (backTo pos (starEach es X.env)).any (·.1) = false := by rfl) :
    PE X (.Call (.Name x p) (e :: es) [] pos) (tCall sp [] E t) := by
  obtain ⟨f, fd, F, hm, hk, hb⟩ := C.ex
  exact pe_call F hr hg hm hk hb .nil hx ha hdb he hpl
theorem pe_cal0 (C : Cal X.prog X.w X.K X.mg X.base CX k x ps sp) (hr : Room k X.A) (hg : Gl X x) (hx : Passes CX X E) (hdb : (x == ("__debug__" : Str)) = false := by decide) :
    PE X (.Call (.Name x p) [] [] pos) (tCall sp [] E tNil) := by
  obtain ⟨f, fd, F, hm, hk, hb⟩ := C.ex
  exact pe_call0 F hr hg hm hk hb .nil hx hdb
end

structure Bi (mg : Str → Option Value) : Prop where
  b_abs : mg "abs" = none
  b_all : mg "all" = none
  b_dict : mg "dict" = none
  b_enumerate : mg "enumerate" = none
  b_int : mg "int" = none
  b_isinstance : mg "isinstance" = none
  b_len : mg "len" = none
  b_list : mg "list" = none
  b_max : mg "max" = none
  b_min : mg "min" = none
  b_range : mg "range" = none
  b_repr : mg "repr" = none
  b_sorted : mg "sorted" = none
  b_str : mg "str" = none
  b_sum : mg "sum" = none
  b_tuple : mg "tuple" = none
  b_zip : mg "zip" = none
  b_ValueError : mg "ValueError" = none

def SameB (p : Addr) (H H' : Hp) : Prop := ∀ b o, H b = some o → b ≠ p → H' b = some o
theorem SameB.refl (p : Addr) (H : Hp) : SameB p H H := fun _ _ h _ => h
theorem SameB.trans {p : Addr} {H H1 H2 : Hp} (a : SameB p H H1) (b : SameB p H1 H2) : SameB p H H2 := fun c o h n => b c o (a c o h n) n
theorem SameB.of {p : Addr} {H H' : Hp} (e : Same H H') : SameB p H H' := fun b o h _ => e b o h
theorem same_new {H : Hp} {p : Addr} {o : HO} (h : H p = none) : Same H (upd H p o) := fun b u e => by
  rw [upd_ne (ne_of_none e h)]
  exact e

theorem dp_ints {K : PySem.W.Frag} {H : Hp} : ∀ ns : List Int, DpAll K H (ns.map V.int) (ns.map .int)
  | [] => .nil
  | n :: r => .cons (.int n) (dp_ints r)
def okD (n : Nat) (d : PyData) : Prop := d.canLay0 = true ∧ d.depth ≤ n
theorem okD_shaped {n : Nat} {d : PyData} (h : okD n d) (hn : n ≤ 64) : SeqAt.shaped d = true := by
  unfold SeqAt.shaped
  rw [h.1, decide_eq_true (Nat.le_trans h.2 hn)]
  rfl
theorem okD_int (n : Nat) (i : Int) : okD n (.int i) := ⟨rfl, by simp [PyData.depth]⟩
theorem okD_none (n : Nat) : okD n .none := ⟨rfl, by simp [PyData.depth]⟩
theorem okD_str {n : Nat} {x : Str} (h : x.cps.all (· < 0x110000) = true) : okD n (.str x) := ⟨by
  simp only [PyData.canLay0, PyData.strOk]
  exact h, by simp [PyData.depth]⟩
theorem okD_all {n : Nat} : ∀ {ds : List PyData}, (∀ d ∈ ds, okD n d) → PyData.canLayAll0 ds = true ∧ PyData.depthAll ds ≤ n
  | [], _ => ⟨rfl, by simp [PyData.depthAll]⟩
  | d :: r, h => by
    obtain ⟨h1, h2⟩ := h d List.mem_cons_self
    obtain ⟨r1, r2⟩ := okD_all (ds := r) fun e he => h e (List.mem_cons_of_mem _ he)
    exact ⟨by simp only [PyData.canLayAll0, h1, r1]; rfl, by simp only [PyData.depthAll]; omega⟩
theorem okD_list {n : Nat} {ds : List PyData} (h : ∀ d ∈ ds, okD n d) : okD (n + 1) (.list ds) := by
  obtain ⟨h1, h2⟩ := okD_all h
  exact ⟨by simp only [PyData.canLay0]; exact h1, by simp only [PyData.depth]; omega⟩
theorem okD_tuple {n : Nat} {ds : List PyData} (h : ∀ d ∈ ds, okD n d) : okD (n + 1) (.tuple ds) := by
  obtain ⟨h1, h2⟩ := okD_all h
  exact ⟨by simp only [PyData.canLay0]; exact h1, by simp only [PyData.depth]; omega⟩
theorem okD_ints (n : Nat) (ns : List Int) : ∀ d ∈ ns.map PyData.int, okD n d := fun d hd => by
  obtain ⟨i, _, rfl⟩ := List.mem_map.mp hd
  exact okD_int n i
theorem shaped_ints (ns : List Int) : SeqAt.shaped (.list (ns.map .int)) = true := okD_shaped (okD_list (okD_ints 0 ns)) (by decide)
theorem shaped_tints (ns : List Int) : SeqAt.shaped (.tuple (ns.map .int)) = true := okD_shaped (okD_tuple (okD_ints 0 ns)) (by decide)
theorem eqv_nil {ds : List PyData} : PyData.eqv (.list ds) (.list []) = ds.isEmpty := by
  cases ds with
  | nil => simp only [PyData.eqv, PyData.eqvAll]; rfl
  | cons d r => simp only [PyData.eqv, PyData.eqvAll]; rfl
def penL (c : Addr) (t l : Int) : List (Key × V) := [(.inr "cells", .ref c), (.inr "turn", .int t), (.inr "left", .int l)]
theorem kct : ¬ (Sum.inr ("cells" : Str) : Key) = Sum.inr ("turn" : Str) := by decide +kernel
theorem kcl : ¬ (Sum.inr ("cells" : Str) : Key) = Sum.inr ("left" : Str) := by decide +kernel
theorem ktl : ¬ (Sum.inr ("turn" : Str) : Key) = Sum.inr ("left" : Str) := by decide +kernel
theorem klt : ¬ (Sum.inr ("left" : Str) : Key) = Sum.inr ("turn" : Str) := by decide +kernel
theorem sct : ¬ ("cells" : Str) = ("turn" : Str) := by decide +kernel
theorem scl : ¬ ("cells" : Str) = ("left" : Str) := by decide +kernel
theorem stl : ¬ ("turn" : Str) = ("left" : Str) := by decide +kernel
theorem slt : ¬ ("left" : Str) = ("turn" : Str) := by decide +kernel
theorem pen_cells (c : Addr) (t l : Int) : valV (penL c t l) (Sum.inr ("cells" : Str) : Key) = some (.ref c) := by
  unfold penL
  rw [valV_pos rfl]
theorem pen_turn (c : Addr) (t l : Int) : valV (penL c t l) (Sum.inr ("turn" : Str) : Key) = some (.int t) := by
  unfold penL
  rw [valV_neg kct, valV_pos rfl]
theorem pen_left (c : Addr) (t l : Int) : valV (penL c t l) (Sum.inr ("left" : Str) : Key) = some (.int l) := by
  unfold penL
  rw [valV_neg kcl, valV_neg ktl, valV_pos rfl]
theorem pen_put_turn (c : Addr) (t l u : Int) : putK (penL c t l) (Sum.inr ("turn" : Str) : Key) (.int u) = penL c u l := by
  unfold penL putK
  simp [sct, slt]
theorem pen_put_left (c : Addr) (t l u : Int) : putK (penL c t l) (Sum.inr ("left" : Str) : Key) (.int u) = penL c t u := by
  unfold penL putK
  simp [scl, stl]
structure PenAt (H : Hp) (p c : Addr) (ns : List Int) (t l : Int) (b : Int) : Prop where
  ob : H p = some (.dK (penL c t l))
  cs : H c = some (.lst (ns.map V.int))
  t0 : 0 ≤ t
  tb : t ≤ b
  l0 : 0 ≤ l
  n63 : ns.length ≤ 63
def Pen (H : Hp) (p c : Addr) (b : Int) : Prop := ∃ ns t l, PenAt H p c ns t l b
theorem PenAt.get_cells {H : Hp} {p c : Addr} {ns : List Int} {t l b : Int} (h : PenAt H p c ns t l b) : DGet H p (.str "cells") (some (.ref c)) := by
  have e := DGet.k (k := Sum.inr ("cells" : Str)) h.ob
  rw [pen_cells] at e
  exact e
theorem PenAt.get_turn {H : Hp} {p c : Addr} {ns : List Int} {t l b : Int} (h : PenAt H p c ns t l b) : DGet H p (.str "turn") (some (.int t)) := by
  have e := DGet.k (k := Sum.inr ("turn" : Str)) h.ob
  rw [pen_turn] at e
  exact e
theorem PenAt.get_left {H : Hp} {p c : Addr} {ns : List Int} {t l b : Int} (h : PenAt H p c ns t l b) : DGet H p (.str "left") (some (.int l)) := by
  have e := DGet.k (k := Sum.inr ("left" : Str)) h.ob
  rw [pen_left] at e
  exact e
theorem PenAt.put_turn {H : Hp} {p c : Addr} {ns : List Int} {t l b : Int} (h : PenAt H p c ns t l b) (u : Int) : DPut H p (.str "turn") (.int u) (upd H p (.dK (penL c u l))) := by
  have e := DPut.k (k := Sum.inr ("turn" : Str)) (v := .int u) h.ob (by show 3 < sizeLine; decide)
  rw [pen_put_turn] at e
  exact e
theorem PenAt.put_left {H : Hp} {p c : Addr} {ns : List Int} {t l b : Int} (h : PenAt H p c ns t l b) (u : Int) : DPut H p (.str "left") (.int u) (upd H p (.dK (penL c t u))) := by
  have e := DPut.k (k := Sum.inr ("left" : Str)) (v := .int u) h.ob (by show 3 < sizeLine; decide)
  rw [pen_put_left] at e
  exact e
theorem PenAt.ne {H : Hp} {p c : Addr} {ns : List Int} {t l b : Int} (h : PenAt H p c ns t l b) : c ≠ p := ne_of h.cs h.ob (by intro z; cases z)
theorem PenAt.upd {H : Hp} {p c : Addr} {ns : List Int} {t l b u v b' : Int} (h : PenAt H p c ns t l b) (hu : 0 ≤ u) (hb : u ≤ b') (hv : 0 ≤ v) : PenAt (upd H p (.dK (penL c u v))) p c ns u v b' :=
  ⟨upd_same, by rw [upd_ne h.ne]; exact h.cs, hu, hb, hv, h.n63⟩
theorem PenAt.same {H H' : Hp} {p c : Addr} {ns : List Int} {t l b : Int} (h : PenAt H p c ns t l b) (e : Same H H') : PenAt H' p c ns t l b :=
  ⟨e _ _ h.ob, e _ _ h.cs, h.t0, h.tb, h.l0, h.n63⟩
theorem Pen.same {H H' : Hp} {p c : Addr} {b : Int} (h : Pen H p c b) (e : Same H H') : Pen H' p c b := by
  obtain ⟨ns, t, l, h⟩ := h
  exact ⟨ns, t, l, h.same e⟩
theorem Pen.mono {H : Hp} {p c : Addr} {b b' : Int} (h : Pen H p c b) (e : b ≤ b') : Pen H p c b' := by
  obtain ⟨ns, t, l, h⟩ := h
  exact ⟨ns, t, l, h.ob, h.cs, h.t0, Int.le_trans h.tb e, h.l0, h.n63⟩
theorem sameB_upd {H : Hp} {p : Addr} {o : HO} : SameB p H (L2.upd H p o) := fun b u h n => by
  rw [upd_ne n]
  exact h
def spDraw : Sp := fun vs H Q _ => ∃ (p c : Addr) (n b : Int), vs = [.ref p, .int n] ∧ Pen H p c b ∧ 0 < n ∧ n < 2 ^ 300 ∧ b < 2 ^ 60 ∧
  ∀ (r : Int) (H' : Hp), 0 ≤ r → r < n → Pen H' p c (b + 1) → SameB p H H' → Q (.int r) H'
end Dg
namespace Dg
open PySem PySem.Spec PyProof.Rows L2
def Sq (K : PySem.W.Frag) (H : Hp) (a : Addr) (xs : List V) : Prop := SqL K H a xs ∨ SqT K H a xs
theorem sqL {K : PySem.W.Frag} {H : Hp} {a : Addr} {xs : List V} (h : H a = some (.lst xs)) : SqL K H a xs := .inl (.inl h)
theorem sqT {K : PySem.W.Frag} {H : Hp} {a : Addr} {xs : List V} (h : H a = some (.tup xs)) : SqT K H a xs := .inl (.inl h)
theorem same_t {K : PySem.W.Frag} {H H' : Hp} {a : Addr} {xs : List V} (e : Same H H') (h : SqT K H a xs) : SqT K H' a xs := by
  rcases h with (h | ⟨o, h⟩) | h
  · exact .inl (.inl (e _ _ h))
  · exact .inl (.inr ⟨o, e _ _ h⟩)
  · exact .inr h
theorem Sq.same {K : PySem.W.Frag} {H H' : Hp} {a : Addr} {xs : List V} (h : Sq K H a xs) (e : Same H H') : Sq K H' a xs := by
  rcases h with h | h
  · exact .inl (e.seq h)
  · exact .inr (same_t e h)
def rIxA (K : PySem.W.Frag) : R2 := fun x y H Q => ∃ p xs i v, x = .ref p ∧ y = .int i ∧ Sq K H p xs ∧ atI xs i = some v ∧ Q v H
theorem ix_any {X : Cx} : IxR X (rIxA X.K) := by
  intro value slice pins s σ H x y v u Q I rx ry q hs
  obtain ⟨p, xs, i, w, h1, h2, h3, h4, h5⟩ := q
  refine ix_seq value slice pins s σ H x y v u Q I rx ry ?_ hs
  rcases h3 with h3 | h3
  · exact .inl ⟨p, xs, i, w, h1, h2, h3, h4, h5⟩
  · exact .inr (.inl ⟨p, xs, i, w, h1, h2, h3, h4, h5⟩)
theorem at_int {ns : List Int} {i : Int} {j : Nat} (e : i = (j : Int)) (h : j < ns.length) : atI (ns.map V.int) i = some (.int (ns.getD j 0)) := by
  refine at_of e ?_
  rw [List.getElem?_map, List.getElem?_eq_getElem h, List.getD_eq_getElem?_getD, List.getElem?_eq_getElem h]
  rfl
theorem pmk_own0 {X : Cx} {C : Addr} {bmB : List Value} {B newId initId : String} {x : Str} {p pos : Pos} (F : ExcBaseFacts B newId initId bmB) (q : PySem.W.excIn X.K C bmB newId = true) (gC : X.mg x = some (.ref C))
    (kC : PySem.W.keepIn X.K (.ref C) = true) (r : Raises X (.ref C)) (hg : Gl X x) (hdb : (x == ("__debug__" : Str)) = false := by decide) :
    PMk X (.Call (.Name x p) [] [] pos) (fun _ H Q => Q (.ref C) none H) := by
  intro pins s σ H Q I h
  refine wpAny_Call_Name_kw (ld_glob I hg gC ?_ hdb)
  refine PySem.W.callWith_K0 I.kIn kC ?_
  show wpAny _ _ (call (.ref C) []) _ _ _
  obtain ⟨bm, N, nm, qn, bs, hdct, sn, sub, ab, col, dd, k0, k1, k2, k3, k5, mN, hC, hN, hni, T⟩ := exc_obj I.kIn q
  refine wpAny_call_exc_subT F T hC hN hni (fun h' e hm => ?_) (by decide)
  exact mk_of I hm r h (I.hok.gone hm.new)
structure Ec (K : PySem.W.Frag) (mg : Str → Option Value) (x : Str) (C : Addr) : Prop where
  gC : mg x = some (.ref C)
  xC : PySem.W.excIn K C [.type "ValueError", .type "Exception", .type "BaseException", .type "object"] "ValueError.__new__" = true
  kC : PySem.W.keepIn K (.ref C) = true
  bC : PySem.W.subIn K (.ref C) (.type "BaseException") = some true
  tC : PySem.W.typeIn K (.ref C) = some (.type "type")
  iC : PySem.W.isClsIn K C = true
  sC : PySem.W.subIn K (.ref C) (.ref C) = some true
theorem exm_self {K : PySem.W.Frag} {S : Addr} (h1 : PySem.W.subIn K (.ref S) (.type "BaseException") = some true) (h2 : PySem.W.isClsIn K S = true) (h3 : PySem.W.typeIn K (.ref S) = some (.type "type")) (h4 : PySem.W.subIn K (.ref S) (.ref S) = some true) :
    PySem.W.exmOne K (.ref S) (.ref S) = some true := by
  have e1 : (PySem.W.subIn K (.ref S) (.type "BaseException") == some true) = true := by rw [h1] <;> rfl
  have e2 : ((PySem.W.clsIn K S).isSome && PySem.W.typeIn K (.ref S) == some (.type "type")) = true := by
    have h2' : (PySem.W.clsIn K S).isSome = true := h2
    rw [h2', h3] <;> rfl
  show (if (PySem.W.subIn K (.ref S) (.type "BaseException") == some true) = true then (if ((PySem.W.clsIn K S).isSome && PySem.W.typeIn K (.ref S) == some (.type "type")) = true then PySem.W.subIn K (.ref S) (.ref S) else none) else none) = some true
  rw [if_pos e1, if_pos e2]
  exact h4
theorem Ec.te {K : PySem.W.Frag} {mg : Str → Option Value} {x : Str} {C : Addr} (c : Ec K mg x C) : PySem.W.exmOne K (.ref C) (.ref C) = some true := exm_self c.bC c.iC c.tC c.sC
end Dg
namespace Dg
open PySem PySem.Spec PyProof.Rows L2
section
variable {X : Cx} {CX : CXT} {k : Nat} {x : Str} {ps : List Str} {sp : Sp} {E : L2.St → XK} {e : Expr} {es : List Expr} {t : TA} {p pos : Pos}
theorem pe_calS (C : Cal X.prog X.w X.K X.mg X.base CX k x ps sp) (hr : Room k X.A) (hg : Gl X x) (hx : ∀ σ, PassesAt CX X σ (E σ))
    (ha : PA X (e :: es) t) (hdb : (x == ("__debug__" : Str)) = false := by decide) (he : starEach (e :: es) X.env = (false, eval e X.env) :: starEach es X.env := by rfl) (hpl : (backTo pos (starEach es X.env)).any (·.1) = false := by rfl) :
    PE X (.Call (.Name x p) (e :: es) [] pos) (tCallS sp E t) := by
  obtain ⟨f, fd, F, hm, hk, hb⟩ := C.ex
  exact pe_callS F hr hg hm hk hb hx ha hdb he hpl
end
theorem iteB {c : Bool} {A B : Prop} (h1 : c = true → A) (h2 : c = false → B) : if c = true then A else B := by
  cases c with
  | true => rw [if_pos rfl]; exact h1 rfl
  | false => rw [if_neg Bool.false_ne_true]; exact h2 rfl
end Dg
namespace Dg
open PySem PySem.Spec PyProof.Rows L2
theorem pd_length {α β : Type} {F : α → β → Prop} : ∀ {xs : List α} {ys : List β}, Paired F xs ys → xs.length = ys.length
  | _, _, .nil => rfl
  | _, _, .cons _ t => congrArg (· + 1) (pd_length t)
theorem pd_mono {α β : Type} {F G : α → β → Prop} : ∀ {xs : List α} {ys : List β}, Paired F xs ys → (∀ a b, F a b → G a b) → Paired G xs ys
  | _, _, .nil, _ => .nil
  | _, _, .cons r t, f => .cons (f _ _ r) (pd_mono t f)
theorem pd_app {α β : Type} {F : α → β → Prop} : ∀ {xs xs' : List α} {ys ys' : List β}, Paired F xs ys → Paired F xs' ys' → Paired F (xs ++ xs') (ys ++ ys')
  | _, _, _, _, .nil, h => h
  | _, _, _, _, .cons r t, h => .cons r (pd_app t h)
theorem pd_get {α β : Type} {F : α → β → Prop} : ∀ {xs : List α} {ys : List β} {i : Nat} {x : α}, Paired F xs ys → xs[i]? = some x → ∃ y, ys[i]? = some y ∧ F x y
  | _, _, _, _, .nil, e => by simp at e
  | _, _, 0, _, .cons r _, e => by
    simp at e
    subst e
    exact ⟨_, rfl, r⟩
  | _, _, i + 1, x, .cons _ t, e => by
    obtain ⟨y, h1, h2⟩ := pd_get (i := i) (x := x) t (by simpa using e)
    exact ⟨y, by simpa using h1, h2⟩
theorem pd_get' {α β : Type} {F : α → β → Prop} : ∀ {xs : List α} {ys : List β} {i : Nat} {y : β}, Paired F xs ys → ys[i]? = some y → ∃ x, xs[i]? = some x ∧ F x y
  | _, _, _, _, .nil, e => by simp at e
  | _, _, 0, _, .cons r _, e => by
    simp at e
    subst e
    exact ⟨_, rfl, r⟩
  | _, _, i + 1, y, .cons _ t, e => by
    obtain ⟨x, h1, h2⟩ := pd_get' (i := i) (y := y) t (by simpa using e)
    exact ⟨x, by simpa using h1, h2⟩
theorem pd_drop {α β : Type} {F : α → β → Prop} : ∀ {xs : List α} {ys : List β} (n : Nat), Paired F xs ys → Paired F (xs.drop n) (ys.drop n)
  | _, _, 0, r => r
  | _, _, _ + 1, .nil => .nil
  | _, _, n + 1, .cons _ t => pd_drop n t
theorem pd_take {α β : Type} {F : α → β → Prop} : ∀ {xs : List α} {ys : List β} (n : Nat), Paired F xs ys → Paired F (xs.take n) (ys.take n)
  | _, _, 0, _ => .nil
  | _, _, _ + 1, .nil => .nil
  | _, _, n + 1, .cons r t => .cons r (pd_take n t)
def RowAt (K : PySem.W.Frag) (H : Hp) (v : V) (r : List Int) : Prop := ∃ a, v = .ref a ∧ SqT K H a (r.map V.int)
def LAt (K : PySem.W.Frag) (H : Hp) (v : V) (rs : List (List Int)) : Prop := ∃ a vals, v = .ref a ∧ H a = some (.lst vals) ∧ Paired (RowAt K H) vals rs
theorem RowAt.same {K : PySem.W.Frag} {H H' : Hp} (e : Same H H') {v : V} {r : List Int} (h : RowAt K H v r) : RowAt K H' v r := by
  obtain ⟨a, h1, h2⟩ := h
  exact ⟨a, h1, same_t e h2⟩
theorem LAt.same {K : PySem.W.Frag} {H H' : Hp} (e : Same H H') {v : V} {r : List (List Int)} (h : LAt K H v r) : LAt K H' v r := by
  obtain ⟨a, vals, h1, h2, h3⟩ := h
  exact ⟨a, vals, h1, e _ _ h2, pd_mono h3 fun _ _ => RowAt.same e⟩
theorem rows_same {K : PySem.W.Frag} {H H' : Hp} (e : Same H H') {vs : List V} {rs : List (List Int)} (h : Paired (RowAt K H) vs rs) : Paired (RowAt K H') vs rs := pd_mono h fun _ _ => RowAt.same e
theorem lats_same {K : PySem.W.Frag} {H H' : Hp} (e : Same H H') {vs : List V} {rs : List (List (List Int))} (h : Paired (LAt K H) vs rs) : Paired (LAt K H') vs rs := pd_mono h fun _ _ => LAt.same e
def hid (D : Addr) (H : Hp) : Hp := fun b => if b = D then none else H b
theorem hid_same {D : Addr} {H : Hp} : Same (hid D H) H := fun b o h => by
  unfold hid at h
  split at h
  · cases h
  · exact h
theorem hid_at {D b : Addr} {H : Hp} {o : HO} (h : H b = some o) (n : b ≠ D) : hid D H b = some o := by
  unfold hid
  rw [if_neg n]
  exact h
theorem hid_upd {D : Addr} {H : Hp} {o : HO} : hid D (upd H D o) = hid D H := by
  funext b
  unfold hid
  by_cases e : b = D
  · rw [if_pos e, if_pos e]
  · rw [if_neg e, if_neg e, upd_ne e]
theorem hid_mono {D : Addr} {H H' : Hp} (e : Same H H') : Same (hid D H) (hid D H') := fun b o h => by
  unfold hid at h
  split at h
  · cases h
  · rename_i n
    exact hid_at (e b o h) n
theorem hid_none {D : Addr} {H : Hp} (n : H D = none) : Same H (hid D H) := fun b o h => hid_at h (ne_of_none h n)
theorem sb_rd {p a : Addr} {H H' : Hp} {o u : HO} (e : SameB p H H') (hp : H p = some o) (d : ∀ o', o ≠ .frz o' u) (du : o ≠ u) (h : Rd H a u) : Rd H' a u := by
  rcases h with h | ⟨o', h⟩
  · exact .inl (e a _ h fun z => by
      subst z
      rw [hp] at h
      exact du (Option.some.inj h))
  · exact .inr ⟨o', e a _ h fun z => by
      subst z
      rw [hp] at h
      exact d o' (Option.some.inj h)⟩
theorem sb_l {K : PySem.W.Frag} {p a : Addr} {H H' : Hp} {kvs : List (Key × V)} {xs : List V} (e : SameB p H H') (hp : H p = some (.dK kvs)) (h : SqL K H a xs) : SqL K H' a xs := by
  rcases h with h | h
  · exact .inl (sb_rd e hp (fun _ z => by cases z) (fun z => by cases z) h)
  · exact .inr h
theorem sb_t {K : PySem.W.Frag} {p a : Addr} {H H' : Hp} {kvs : List (Key × V)} {xs : List V} (e : SameB p H H') (hp : H p = some (.dK kvs)) (h : SqT K H a xs) : SqT K H' a xs := by
  rcases h with h | h
  · exact .inl (sb_rd e hp (fun _ z => by cases z) (fun z => by cases z) h)
  · exact .inr h
theorem sb_sq {K : PySem.W.Frag} {p a : Addr} {H H' : Hp} {kvs : List (Key × V)} {xs : List V} (e : SameB p H H') (hp : H p = some (.dK kvs)) (h : Sq K H a xs) : Sq K H' a xs := by
  rcases h with h | h
  · exact .inl (sb_l e hp h)
  · exact .inr (sb_t e hp h)
theorem Pen.dk {H : Hp} {p c : Addr} {b : Int} (h : Pen H p c b) : ∃ kvs, H p = some (.dK kvs) := by
  obtain ⟨ns, t, l, h⟩ := h
  exact ⟨_, h.ob⟩
theorem SameB.l {K : PySem.W.Frag} {p a : Addr} {H H' : Hp} {b : Int} {c : Addr} {xs : List V} (e : SameB p H H') (hp : Pen H p c b) (h : SqL K H a xs) : SqL K H' a xs := by
  obtain ⟨_, q⟩ := hp.dk
  exact sb_l e q h
theorem SameB.t {K : PySem.W.Frag} {p a : Addr} {H H' : Hp} {b : Int} {c : Addr} {xs : List V} (e : SameB p H H') (hp : Pen H p c b) (h : SqT K H a xs) : SqT K H' a xs := by
  obtain ⟨_, q⟩ := hp.dk
  exact sb_t e q h
theorem SameB.lst {p a : Addr} {H H' : Hp} {b : Int} {c : Addr} {xs : List V} (e : SameB p H H') (hp : Pen H p c b) (h : H a = some (.lst xs)) : H' a = some (.lst xs) := by
  obtain ⟨_, q⟩ := hp.dk
  exact e _ _ h (ne_of h q (by intro z; cases z))
theorem SameB.tup {p a : Addr} {H H' : Hp} {b : Int} {c : Addr} {xs : List V} (e : SameB p H H') (hp : Pen H p c b) (h : H a = some (.tup xs)) : H' a = some (.tup xs) := by
  obtain ⟨_, q⟩ := hp.dk
  exact e _ _ h (ne_of h q (by intro z; cases z))
theorem RowAt.sb {K : PySem.W.Frag} {H H' : Hp} {p c : Addr} {b : Int} (e : SameB p H H') (hp : Pen H p c b) {v : V} {r : List Int} (h : RowAt K H v r) : RowAt K H' v r := by
  obtain ⟨a, h1, h2⟩ := h
  exact ⟨a, h1, e.t hp h2⟩
theorem LAt.sb {K : PySem.W.Frag} {H H' : Hp} {p c : Addr} {b : Int} (e : SameB p H H') (hp : Pen H p c b) {v : V} {r : List (List Int)} (h : LAt K H v r) : LAt K H' v r := by
  obtain ⟨a, vals, h1, h2, h3⟩ := h
  exact ⟨a, vals, h1, e.lst hp h2, pd_mono h3 fun _ _ => RowAt.sb e hp⟩
theorem sb_free {p a : Addr} {H H' : Hp} (e : SameB p H H') (h : H' a = none) (n : a ≠ p) : H a = none := by
  cases q : H a with
  | none => rfl
  | some o =>
    rw [e a o q n] at h
    cases h
theorem OpR.imp {X : Cx} {f : Value → Value → Sem Value} {r r' : R2} (h : OpR X f r) (i : ∀ x y H Q, r' x y H Q → r x y H Q) : OpR X f r' :=
  fun pins s σ H x y v u Q I rx ry q => h pins s σ H x y v u Q I rx ry (i x y H Q q)
def rCatS (K : PySem.W.Frag) : R2 := fun x y H Q => ∃ a b xs ys, x = .ref a ∧ y = .ref b ∧ SqT K H a xs ∧ SqT K H b ys ∧ xs.length + ys.length ≤ sizeLine ∧ ∀ p H', Same H H' → SqT K H' p (xs ++ ys) → Q (.ref p) H'
theorem op_catS {X : Cx} : OpR X (binaryOp .Add) (rCatS X.K) := by
  refine OpR.imp op_catA fun x y H Q h => ?_
  obtain ⟨a, b, xs, ys, h1, h2, h3, h4, h5, q⟩ := h
  refine ⟨a, b, xs, ys, h1, h2, h3, h4, h5, fun e => ?_, fun e e2 => ?_, fun e e2 p np => ?_⟩
  · refine q b H (Same.refl H) ?_
    rw [e]
    exact h4
  · refine q a H (Same.refl H) ?_
    rw [e2, List.append_nil]
    exact h3
  · exact q p _ (same_new np) (sqT upd_same)
theorem eqv_ints : ∀ (ns ms : List Int), PyData.eqvAll (ns.map .int) (ms.map .int) = decide (ns = ms)
  | [], [] => by simp [PyData.eqvAll]
  | [], _ :: _ => by simp [PyData.eqvAll]
  | _ :: _, [] => by simp [PyData.eqvAll]
  | a :: r, b :: t => by
    simp only [List.map_cons, PyData.eqvAll, eqv_ints r t, PyData.eqv]
    by_cases h : a = b <;> by_cases h' : r = t <;> simp [h, h']
theorem eqv_tints (ns ms : List Int) : PyData.eqv (.tuple (ns.map .int)) (.tuple (ms.map .int)) = decide (ns = ms) := by
  simp only [PyData.eqv]
  exact eqv_ints ns ms
theorem eqv_lints (ns ms : List Int) : PyData.eqv (.list (ns.map .int)) (.list (ms.map .int)) = decide (ns = ms) := by
  simp only [PyData.eqv]
  exact eqv_ints ns ms
def tupD (r : List Int) : PyData := .tuple (r.map .int)
theorem dp_row {K : PySem.W.Frag} {H : Hp} {v : V} {r : List Int} (h : RowAt K H v r) : Dp K H v (tupD r) := by
  obtain ⟨a, e, h⟩ := h
  subst e
  exact .tup h (dp_ints r)
theorem dp_rows {K : PySem.W.Frag} {H : Hp} : ∀ {vs : List V} {rs : List (List Int)}, Paired (RowAt K H) vs rs → DpAll K H vs (rs.map tupD)
  | _, _, .nil => .nil
  | _, _, .cons h t => .cons (dp_row h) (dp_rows t)
theorem okD_tup (n : Nat) (r : List Int) : okD (n + 1) (tupD r) := okD_tuple (okD_ints n r)
theorem okD_tups (n : Nat) (rs : List (List Int)) : ∀ d ∈ rs.map tupD, okD (n + 1) d := fun d hd => by
  obtain ⟨r, _, rfl⟩ := List.mem_map.mp hd
  exact okD_tup n r
theorem eqv_rows : ∀ (rs ss : List (List Int)), PyData.eqvAll (rs.map tupD) (ss.map tupD) = decide (rs = ss)
  | [], [] => by simp [PyData.eqvAll]
  | [], _ :: _ => by simp [PyData.eqvAll]
  | _ :: _, [] => by simp [PyData.eqvAll]
  | a :: r, b :: t => by
    have e : PyData.eqv (tupD a) (tupD b) = decide (a = b) := eqv_tints a b
    simp only [List.map_cons, PyData.eqvAll, eqv_rows r t, e]
    by_cases h : a = b <;> by_cases h' : r = t <;> simp [h, h']
theorem cut_all (xs : List V) : cutV xs none none = xs := by
  unfold cutV
  rw [HT.sIx_none, HT.sIx_none]
  simp
theorem cut_from (xs : List V) (k : Nat) : cutV xs (some (k : Int)) none = xs.drop k := by
  unfold cutV
  rw [HT.sIx_nat, HT.sIx_none]
  by_cases h : k ≤ xs.length
  · rw [Nat.min_eq_left h, List.take_of_length_le (by rw [List.length_drop]; exact Nat.le_refl _)]
  · rw [Nat.min_eq_right (by omega), List.drop_eq_nil_of_le (Nat.le_refl _), List.drop_eq_nil_of_le (by omega)]
    simp
theorem cut_to (xs : List V) (k : Nat) : cutV xs none (some (k : Int)) = xs.take k := by
  unfold cutV
  rw [HT.sIx_nat, HT.sIx_none]
  show (xs.take (min k xs.length)) = xs.take k
  by_cases h : k ≤ xs.length
  · rw [Nat.min_eq_left h]
  · rw [Nat.min_eq_right (by omega), List.take_of_length_le (Nat.le_refl _), List.take_of_length_le (by omega)]
end Dg
namespace Dg
open PySem PySem.Spec PyProof.Rows L2
section
variable {X : Cx} {K : PySem.W.Frag} (h : X.K = K)
include h
theorem k_ix_list : IxR X (rIxL K) := h ▸ ix_list
theorem k_ix_tup : IxR X (rIxT K) := h ▸ ix_tup
theorem k_ix_any : IxR X (rIxA K) := h ▸ ix_any
theorem k_op_catS : OpR X (binaryOp .Add) (rCatS K) := h ▸ op_catS
theorem k_op_in_seq : OpR X (compareOp .In) (rIn K false) := h ▸ op_in_seq
theorem k_op_notIn_seq : OpR X (compareOp .NotIn) (rIn K true) := h ▸ op_notIn_seq
theorem k_op_eqD (hu : X.A.units + 64 < cLine) : OpR X (compareOp .Eq) (rEqD K) := h ▸ op_eqD hu
theorem k_op_neD (hu : X.A.units + 64 < cLine) : OpR X (compareOp .NotEq) (rNeD K) := h ▸ op_neD hu
theorem k_call_len_seq : CallR X (.builtin "len") (fun xs H Q => ∃ p ys, xs = [.ref p] ∧ (SqL K H p ys ∨ SqT K H p ys) ∧ Q (.int ys.length) H) := h ▸ call_len_seq
theorem k_call_list_of : CallR X (.type "list") (fun xs H Q => ∃ p ys, xs = [.ref p] ∧ (SqL K H p ys ∨ SqT K H p ys) ∧ ∀ l, H l = none → Q (.ref l) (upd H l (.lst ys))) := h ▸ call_list_of
theorem k_call_tuple_of : CallR X (.type "tuple") (fun xs H Q => ∃ p ys, xs = [.ref p] ∧ ((SqL K H p ys ∧ ∀ l, H l = none → Q (.ref l) (upd H l (.tup ys))) ∨ (SqT K H p ys ∧ Q (.ref p) H))) := h ▸ call_tuple_of
theorem k_sl_list : SlR X (rSlL K) := h ▸ sl_list
theorem k_sl_tupA : SlR X (rSlA K) := h ▸ sl_tupA
end
end Dg
namespace Dg
open PySem PySem.Spec PyProof.Rows L2
theorem at_last' {α : Type} {xs : List α} {v : α} (h : xs[xs.length - 1]? = some v) : atI xs (-1) = some v := by
  have h1 : xs.getLast? = some v := by
    rw [List.getLast?_eq_getElem?]
    exact h
  rcases List.eq_nil_or_concat xs with e | ⟨s, d, e⟩
  · rw [e] at h1
    cases h1
  · rw [List.concat_eq_append] at e
    subst e
    have : d = v := by simpa using h1
    rw [this]
    exact atI_last _ _
end Dg
namespace Dg
open PySem PySem.Spec PyProof.Rows L2
theorem SameB.upd {p q : Addr} {H H' : Hp} {o : HO} (e : SameB p H H') (h : H q = none) : SameB p H (upd H' q o) := fun b u hb n => by
  rw [upd_ne (ne_of_none hb h)]
  exact e b u hb n
theorem SameB.new {p q : Addr} {H H' : Hp} {o : HO} (e : SameB p H H') (h : H' q = none) : SameB p H (L2.upd H' q o) := e.trans (SameB.of (same_new h))
theorem Pen.upd {H : Hp} {p c q : Addr} {b : Int} {o : HO} (h : Pen H p c b) (hp : q ≠ p) (hc : q ≠ c) : Pen (L2.upd H q o) p c b := by
  obtain ⟨ns, t, l, h⟩ := h
  refine ⟨ns, t, l, ?_, ?_, h.t0, h.tb, h.l0, h.n63⟩
  · rw [upd_ne hp.symm]
    exact h.ob
  · rw [upd_ne hc.symm]
    exact h.cs
theorem Pen.fresh {H : Hp} {p c q : Addr} {b : Int} (h : Pen H p c b) (hq : H q = none) : q ≠ p ∧ q ≠ c := by
  obtain ⟨ns, t, l, h⟩ := h
  exact ⟨(ne_of_none h.ob hq).symm, (ne_of_none h.cs hq).symm⟩
end Dg
namespace Dg
open PySem PySem.Spec PyProof.Rows L2
theorem call_isE2 {X : Cx} {a D : Addr} {oe : Obj} {pn : List (Addr × Obj)} {cls : Value} {d : Option Addr} (C : ExcC X.K D) (hz : Zc cls d oe) (hf : ∃ vs, oe.data = .fields vs) :
    CallR (X.suite a ((a, oe) :: pn)) (.builtin "isinstance") (fun xs H Q => cls = .ref D ∧ d = none ∧ rIsE X.K D a xs H Q) := by
  intro pins s σ H xs us Q I r h
  obtain ⟨h1, h2, h⟩ := h
  subst h1 h2
  exact call_isE C hz hf pins s σ H xs us Q I r h
structure Ei (K : PySem.W.Frag) (mg : Str → Option Value) (C T : Addr) : Prop where
  ex : ExcC K C
  g_TurnError : mg "TurnError" = some (.ref T)
  kT : PySem.W.kitOne K (.ref C) (.ref T) = some true
  kV : PySem.W.kitOne K (.ref C) (.type "ValueError") = some true
end Dg
namespace Dg
open PySem PySem.Spec PyProof.Rows L2
theorem rel_ref (a : Addr) : RelV (.ref a) (.ref a) := rfl
theorem rel_ty (n : String) : RelV (.ty n) (.type n) := rfl
theorem boot_VE : bootBuiltins "ValueError" = some (.type "ValueError") := by decide +kernel
end Dg
namespace Dg
open PySem PySem.Spec PyProof.Rows L2
def lstD (rs : List (List Int)) : PyData := .list (rs.map tupD)
theorem dp_lats {K : PySem.W.Frag} {H : Hp} : ∀ {vs : List V} {ls : List (List (List Int))}, Paired (LAt K H) vs ls → DpAll K H vs (ls.map lstD)
  | _, _, .nil => .nil
  | _, _, .cons h t => .cons (by
      obtain ⟨a, vals, e, h1, h2⟩ := h
      subst e
      exact .lst (sqL h1) (dp_rows h2)) (dp_lats t)
theorem okD_lsts (n : Nat) (ls : List (List (List Int))) : ∀ d ∈ ls.map lstD, okD (n + 2) d := fun d hd => by
  obtain ⟨r, _, rfl⟩ := List.mem_map.mp hd
  exact okD_list (okD_tups n r)
end Dg
namespace Dg
open PySem PySem.Spec PyProof.Rows L2
theorem k_pg_tup {X : Cx} {K : PySem.W.Frag} {es : List Expr} {k n : Nat} {pos : Pos} {t : List V → L2.St → Hp → (L2.St → Hp → Prop) → Prop} (h : PG X (.Tuple es k pos) (gTup X.K n t)) (e : X.K = K) : PG X (.Tuple es k pos) (gTup K n t) := e ▸ h
end Dg
namespace Dg
def carryV (k l : List Int) (c d : Nat) : Option Int :=
  if k.getD d 0 = l.getD d 0 then none
  else if k.getD c 0 > k.getD d 0 then some (k.getD d 0 + 1)
  else if l.getD d 0 > l.getD c 0 then some (l.getD d 0)
  else none
def stepV (k l : List Int) (n : Nat) : Option (List Int × Int) :=
  (List.range n).findSome? fun i => if k.getD i 0 > l.getD i 0 then some ([(i : Int)], k.getD i 0) else none
def pairV (k l : List Int) (d n : Nat) : Option (List Int × Int) :=
  (List.range n).findSome? fun c => (carryV k l c d).map fun p => ([(c : Int), (d : Int)], p)
def carriesV (k l : List Int) (n : Nat) : Option (List Int × Int) :=
  (List.range n).findSome? fun d => pairV k l d d
def faultV (k l : List Int) : Option (List Int × Int) :=
  match stepV k l k.length with
  | some x => some x
  | none => carriesV k l k.length
theorem range_some {α : Type} (f : Nat → Option α) (n : Nat) : (List.range (n + 1)).findSome? f = ((List.range n).findSome? f).or (f n) := by
  rw [List.range_succ, List.findSome?_append]
  congr 1
  simp
theorem range_some_first {α : Type} {f : Nat → Option α} {x : α} : ∀ (n i : Nat), i < n → (List.range i).findSome? f = none → f i = some x → (List.range n).findSome? f = some x
  | 0, _, h, _, _ => absurd h (Nat.not_lt_zero _)
  | n + 1, i, h, h0, hx => by
    rw [range_some]
    by_cases e : i = n
    · subst e
      rw [h0, hx]
      rfl
    · rw [range_some_first n i (by omega) h0 hx]
      rfl
end Dg
namespace Dg
def preP (g : Nat → Nat → Int) : Nat → Nat → Int
  | 0, _ => 0
  | i + 1, v => 2 * preP g i v + g i v
def redP (g : Nat → Nat → Int) (k : Nat → Nat) : Nat → Int
  | 0 => 0
  | i + 1 => 2 * redP g k i + g i (k i)
structure Bits (g : Nat → Nat → Int) : Prop where
  lo : ∀ i v, 0 ≤ g i v
  hi : ∀ i v, g i v ≤ 1
theorem preP_mono {g : Nat → Nat → Int} (B : Bits g) {v w : Nat} : ∀ (n i : Nat), i ≤ n → preP g n v ≤ preP g n w → preP g i v ≤ preP g i w
  | 0, i, h, hn => by
    have : i = 0 := by omega
    subst this
    exact hn
  | n + 1, i, h, hn => by
    by_cases e : i = n + 1
    · subst e
      exact hn
    · refine preP_mono B n i (by omega) ?_
      have h1 := B.lo n v
      have h2 := B.hi n w
      simp only [preP] at hn
      omega
structure Crit (k l : Nat → Nat) (n : Nat) : Prop where
  le : ∀ i, i < n → k i ≤ l i
  adj : ∀ i, i + 1 < n → k (i + 1) = l (i + 1) ∨ (k i ≤ k (i + 1) ∧ l (i + 1) ≤ l i)
theorem crit_same {g : Nat → Nat → Int} {k l : Nat → Nat} {n : Nat} (C : Crit k l n) (M : ∀ i v w, i ≤ n → v ≤ w → preP g i v ≤ preP g i w) :
    ∀ x, x < n → (∀ j, j ≤ x → g j (k j) = g j (l j)) → ∀ lo hi, k x ≤ lo → lo ≤ hi → hi ≤ l x → preP g (x + 1) lo = preP g (x + 1) hi
  | 0, hx, hd, lo, hi, h1, h2, h3 => by
    have a1 := M 1 (k 0) lo (by omega) h1
    have a2 := M 1 lo hi (by omega) h2
    have a3 := M 1 hi (l 0) (by omega) h3
    have e : preP g 1 (k 0) = preP g 1 (l 0) := by
      simp only [preP]
      rw [hd 0 (Nat.le_refl _)]
    show preP g 1 lo = preP g 1 hi
    omega
  | x + 1, hx, hd, lo, hi, h1, h2, h3 => by
    rcases C.adj x hx with e | ⟨e1, e2⟩
    · have : lo = hi := by omega
      rw [this]
    · have hk := C.le (x + 1) hx
      have e : preP g (x + 1) (k (x + 1)) = preP g (x + 1) (l (x + 1)) := crit_same C M x (by omega) (fun j hj => hd j (by omega)) _ _ e1 hk e2
      have e' : preP g (x + 2) (k (x + 1)) = preP g (x + 2) (l (x + 1)) := by
        show 2 * preP g (x + 1) (k (x + 1)) + g (x + 1) (k (x + 1)) = 2 * preP g (x + 1) (l (x + 1)) + g (x + 1) (l (x + 1))
        rw [e, hd (x + 1) (Nat.le_refl _)]
      have a1 := M (x + 2) (k (x + 1)) lo (by omega) h1
      have a2 := M (x + 2) lo hi (by omega) h2
      have a3 := M (x + 2) hi (l (x + 1)) (by omega) h3
      show preP g (x + 2) lo = preP g (x + 2) hi
      omega
theorem crit_le {g : Nat → Nat → Int} (B : Bits g) {k l : Nat → Nat} {n : Nat} (C : Crit k l n) (M : ∀ i v w, i ≤ n → v ≤ w → preP g i v ≤ preP g i w) :
    ∀ i, i ≤ n → redP g k i < redP g l i ∨ (redP g k i = redP g l i ∧ ∀ j, j < i → g j (k j) = g j (l j))
  | 0, _ => .inr ⟨rfl, fun j h => absurd h (Nat.not_lt_zero _)⟩
  | i + 1, hi => by
    have b1 := B.lo i (k i)
    have b2 := B.hi i (k i)
    have b3 := B.lo i (l i)
    have b4 := B.hi i (l i)
    have ek : redP g k (i + 1) = 2 * redP g k i + g i (k i) := rfl
    have el : redP g l (i + 1) = 2 * redP g l i + g i (l i) := rfl
    rcases crit_le B C M i (by omega) with h | ⟨h, hd⟩
    · left
      omega
    · have hk := C.le i (by omega)
      have key : g i (k i) ≤ g i (l i) := by
        have m1 := M (i + 1) (k i) (l i) hi hk
        have e1 : preP g (i + 1) (k i) = 2 * preP g i (k i) + g i (k i) := rfl
        have e2 : preP g (i + 1) (l i) = 2 * preP g i (l i) + g i (l i) := rfl
        cases i with
        | zero =>
          have z1 : preP g 0 (k 0) = 0 := rfl
          have z2 : preP g 0 (l 0) = 0 := rfl
          omega
        | succ x =>
          rcases C.adj x (by omega) with e | ⟨f1, f2⟩
          · rw [e]
            exact Int.le_refl _
          · have e := crit_same C M x (by omega) (fun j hj => hd j (by omega)) _ _ f1 hk f2
            omega
      by_cases e : g i (k i) = g i (l i)
      · right
        refine ⟨by omega, fun j hj => ?_⟩
        by_cases hj2 : j = i
        · subst hj2
          exact e
        · exact hd j (by omega)
      · left
        omega
end Dg
namespace Dg
def numV (r : List Int) : Int := r.foldl (fun a d => 2 * a + d) 0
def rowsV : Nat → List (List Int)
  | 0 => [[]]
  | n + 1 => (rowsV n).flatMap fun r => [r ++ [0], r ++ [1]]
theorem numV_snoc (r : List Int) (d : Int) : numV (r ++ [d]) = 2 * numV r + d := by
  unfold numV
  rw [List.foldl_append]
  rfl
def IsBits (n : Nat) (r : List Int) : Prop := r.length = n ∧ ∀ d ∈ r, d = 0 ∨ d = 1
theorem snoc_of {α : Type} {n : Nat} {r : List α} (h : r.length = n + 1) : ∃ s d, r = s ++ [d] ∧ s.length = n := by
  rcases List.eq_nil_or_concat r with e | ⟨s, d, e⟩
  · rw [e] at h
    simp at h
  · rw [List.concat_eq_append] at e
    refine ⟨s, d, e, ?_⟩
    rw [e] at h
    simp at h
    exact h
theorem mem_rowsV : ∀ (n : Nat) (r : List Int), r ∈ rowsV n ↔ IsBits n r
  | 0, r => by
    unfold IsBits rowsV
    constructor
    · intro h
      have e : r = [] := by simpa using h
      subst e
      exact ⟨rfl, fun d hd => by simp at hd⟩
    · intro h
      have e : r = [] := List.eq_nil_of_length_eq_zero h.1
      rw [e]
      simp
  | n + 1, r => by
    unfold rowsV
    rw [List.mem_flatMap]
    constructor
    · rintro ⟨s, hs, hr⟩
      have hb := (mem_rowsV n s).mp hs
      have hr' : r = s ++ [0] ∨ r = s ++ [1] := by simpa using hr
      rcases hr' with e | e <;> subst e
      · refine ⟨by rw [List.length_append, hb.1]; rfl, fun d hd => ?_⟩
        rcases List.mem_append.mp hd with h | h
        · exact hb.2 d h
        · left
          simpa using h
      · refine ⟨by rw [List.length_append, hb.1]; rfl, fun d hd => ?_⟩
        rcases List.mem_append.mp hd with h | h
        · exact hb.2 d h
        · right
          simpa using h
    · rintro ⟨h1, h2⟩
      obtain ⟨s, d, e, hs⟩ := snoc_of h1
      subst e
      refine ⟨s, (mem_rowsV n s).mpr ⟨hs, fun x hx => h2 x (List.mem_append_left _ hx)⟩, ?_⟩
      rcases h2 d (List.mem_append_right _ List.mem_cons_self) with e | e <;> rw [e] <;> simp
theorem rowsV_len (n : Nat) : (rowsV n).length = 2 ^ n := by
  induction n with
  | zero => rfl
  | succ n ih =>
    unfold rowsV
    rw [List.length_flatMap]
    have e : (List.map (fun a => ([a ++ [(0 : Int)], a ++ [1]] : List (List Int)).length) (rowsV n)) = List.replicate (rowsV n).length 2 := by
      rw [List.eq_replicate_iff]
      refine ⟨by rw [List.length_map], fun b hb => ?_⟩
      obtain ⟨a, _, rfl⟩ := List.mem_map.mp hb
      rfl
    rw [e, List.sum_replicate_nat, ih, Nat.pow_succ]
theorem rowsV_pw : ∀ n : Nat, (rowsV n).Pairwise fun a b => numV a < numV b
  | 0 => by
    unfold rowsV
    simp
  | n + 1 => by
    unfold rowsV
    rw [List.pairwise_flatMap]
    refine ⟨fun a _ => ?_, ?_⟩
    · simp only [List.pairwise_cons, List.mem_cons, List.mem_nil_iff, or_false, forall_eq, List.not_mem_nil, false_imp_iff, implies_true, List.Pairwise.nil, and_true]
      rw [numV_snoc, numV_snoc]
      omega
    · refine (rowsV_pw n).imp fun {a b} h x hx y hy => ?_
      have hx' : x = a ++ [0] ∨ x = a ++ [1] := by simpa using hx
      have hy' : y = b ++ [0] ∨ y = b ++ [1] := by simpa using hy
      rcases hx' with e | e <;> rcases hy' with e2 | e2 <;> rw [e, e2, numV_snoc, numV_snoc] <;> omega
def firstV (rows one : List (List Int)) : Nat := match one.getLast? with
  | none => 0
  | some r => rows.findIdx (fun x => decide (x = r))
def risV (rows : List (List Int)) : Nat → List (List (List Int))
  | 0 => [[]]
  | n + 1 => (risV rows n).flatMap fun one => (rows.drop (firstV rows one)).map fun row => one ++ [row]
structure IsRis (rows : List (List Int)) (m : Nat) (rs : List (List Int)) : Prop where
  len : rs.length = m
  mem : ∀ r ∈ rs, r ∈ rows
  up : rs.Pairwise fun a b => numV a ≤ numV b
theorem getLast_snoc {α : Type} (s : List α) (d : α) : (s ++ [d]).getLast? = some d := by simp
theorem drop_le {rows : List (List Int)} (pw : rows.Pairwise fun a b => numV a < numV b) {x y : List Int} {j : Nat} (hx : rows[j]? = some x) (hy : y ∈ rows.drop j) : numV x ≤ numV y := by
  have hj : j < rows.length := (List.getElem?_eq_some_iff.mp hx).1
  have e : rows.drop j = x :: rows.drop (j + 1) := by
    rw [List.drop_eq_getElem_cons hj]
    congr 1
    exact (List.getElem?_eq_some_iff.mp hx).2
  rw [e] at hy
  have pw2 : (rows.drop j).Pairwise fun a b => numV a < numV b := pw.sublist (List.drop_sublist _ _)
  rw [e] at pw2
  rcases List.mem_cons.mp hy with h | h
  · rw [h]
    exact Int.le_refl _
  · exact Int.le_of_lt (List.rel_of_pairwise_cons pw2 h)
theorem mem_drop {rows : List (List Int)} (pw : rows.Pairwise fun a b => numV a < numV b) {x y : List Int} {j : Nat} (hx : rows[j]? = some x) (hy : y ∈ rows) (h : numV x ≤ numV y) : y ∈ rows.drop j := by
  rw [← List.take_append_drop j rows] at hy
  rcases List.mem_append.mp hy with h1 | h1
  · exfalso
    have hj : j < rows.length := (List.getElem?_eq_some_iff.mp hx).1
    have hxd : x ∈ rows.drop j := by
      rw [List.drop_eq_getElem_cons hj, (List.getElem?_eq_some_iff.mp hx).2]
      exact List.mem_cons_self
    have pw' := pw
    rw [← List.take_append_drop j rows, List.pairwise_append] at pw'
    have := pw'.2.2 y h1 x hxd
    omega
  · exact h1
theorem find_at {rows : List (List Int)} {r : List Int} (h : r ∈ rows) : rows[rows.findIdx (fun x => decide (x = r))]? = some r := by
  have hlt : rows.findIdx (fun x => decide (x = r)) < rows.length := List.findIdx_lt_length_of_exists ⟨r, h, by simp⟩
  rw [List.getElem?_eq_getElem hlt]
  have := List.findIdx_getElem (w := hlt)
  rw [of_decide_eq_true this]
theorem mem_risV {rows : List (List Int)} (pw : rows.Pairwise fun a b => numV a < numV b) : ∀ (m : Nat) (rs : List (List Int)), rs ∈ risV rows m ↔ IsRis rows m rs
  | 0, rs => by
    unfold risV
    constructor
    · intro h
      have e : rs = [] := by simpa using h
      subst e
      exact ⟨rfl, fun r hr => by simp at hr, List.Pairwise.nil⟩
    · intro h
      rw [List.eq_nil_of_length_eq_zero h.len]
      simp
  | m + 1, rs => by
    unfold risV
    rw [List.mem_flatMap]
    constructor
    · rintro ⟨one, ho, hr⟩
      obtain ⟨row, hrow, rfl⟩ := List.mem_map.mp hr
      have H := (mem_risV pw m one).mp ho
      refine ⟨by rw [List.length_append, H.len]; rfl, fun r hr => ?_, ?_⟩
      · rcases List.mem_append.mp hr with h | h
        · exact H.mem r h
        · have e : r = row := by simpa using h
          rw [e]
          exact List.mem_of_mem_drop hrow
      · rw [List.pairwise_append]
        refine ⟨H.up, by simp, fun a ha b hb => ?_⟩
        have eb : b = row := by simpa using hb
        subst eb
        rcases List.eq_nil_or_concat one with e | ⟨s, d, e⟩
        · rw [e] at ha
          simp at ha
        · have e' : one = s ++ [d] := e.trans (List.concat_eq_append)
          have hf : firstV rows one = rows.findIdx (fun x => decide (x = d)) := by
            unfold firstV
            rw [e', getLast_snoc]
          have hd : d ∈ rows := H.mem d (by rw [e']; simp)
          have h1 : numV d ≤ numV b := drop_le pw (find_at hd) (by rw [← hf]; exact hrow)
          rw [e'] at ha
          rcases List.mem_append.mp ha with h | h
          · have up := H.up
            rw [e', List.pairwise_append] at up
            have := up.2.2 a h d List.mem_cons_self
            omega
          · have : a = d := by simpa using h
            rw [this]
            exact h1
    · rintro ⟨h1, h2, h3⟩
      obtain ⟨s, d, e, hs⟩ := snoc_of h1
      subst e
      rw [List.pairwise_append] at h3
      refine ⟨s, (mem_risV pw m s).mpr ⟨hs, fun r hr => h2 r (List.mem_append_left _ hr), h3.1⟩, List.mem_map.mpr ⟨d, ?_, rfl⟩⟩
      have hd : d ∈ rows := h2 d (by simp)
      rcases List.eq_nil_or_concat s with e | ⟨t, x, e⟩
      · unfold firstV
        rw [e]
        exact hd
      · have e' : s = t ++ [x] := e.trans (List.concat_eq_append)
        have hf : firstV rows s = rows.findIdx (fun y => decide (y = x)) := by
          unfold firstV
          rw [e', getLast_snoc]
        rw [hf]
        refine mem_drop pw (find_at (h2 x (by rw [e']; simp))) hd (h3.2.2 x (by rw [e']; simp) d List.mem_cons_self)
theorem risV_len (rows : List (List Int)) (R : Nat) (h : rows.length ≤ R) : ∀ m, (risV rows m).length ≤ R ^ m
  | 0 => by simp [risV]
  | m + 1 => by
    unfold risV
    rw [List.length_flatMap]
    have ih := risV_len rows R h m
    have key : ∀ l : List (List (List Int)), (l.map fun one => ((rows.drop (firstV rows one)).map fun row => one ++ [row]).length).sum ≤ l.length * R := by
      intro l
      induction l with
      | nil => simp
      | cons a r ih2 =>
        rw [List.map_cons, List.sum_cons, List.length_cons, Nat.succ_mul]
        have : ((rows.drop (firstV rows a)).map fun row => a ++ [row]).length ≤ R := by
          rw [List.length_map, List.length_drop]
          omega
        omega
    refine Nat.le_trans (key _) ?_
    rw [Nat.pow_succ]
    exact Nat.mul_le_mul_right _ ih
end Dg
namespace Dg
def rowV (rows : List (List Int)) (k : List Int) : List Int := (List.range k.length).map fun i => (rows.getD (k.getD i 0).toNat []).getD i 0
def digV (rows : List (List Int)) (i v : Nat) : Int := (rows.getD (min v (rows.length - 1)) []).getD i 0
def verV (k : List Int) (i : Nat) : Nat := (k.getD i 0).toNat
structure InV (k : List Int) (m : Nat) : Prop where
  lo : ∀ i, 0 ≤ k.getD i 0
  hi : ∀ i, k.getD i 0 ≤ (m : Int)
theorem num_row {rows : List (List Int)} {k : List Int} {m : Nat} (h : InV k m) (hr : rows.length = m + 1) : ∀ n, n ≤ k.length →
    numV ((List.range n).map fun i => (rows.getD (k.getD i 0).toNat []).getD i 0) = redP (digV rows) (verV k) n
  | 0, _ => rfl
  | n + 1, hn => by
    rw [List.range_succ, List.map_append, List.map_cons, List.map_nil, numV_snoc, num_row h hr n (by omega)]
    have h1 := h.lo n
    have h2 := h.hi n
    have e : min (verV k n) (rows.length - 1) = (k.getD n 0).toNat := by
      unfold verV
      omega
    show _ = 2 * redP (digV rows) (verV k) n + digV rows n (verV k n)
    unfold digV
    rw [e]
theorem num_row' {rows : List (List Int)} {k : List Int} {m : Nat} (h : InV k m) (hr : rows.length = m + 1) : numV (rowV rows k) = redP (digV rows) (verV k) k.length := num_row h hr _ (Nat.le_refl _)
theorem getD_bits {n : Nat} {r : List Int} (h : IsBits n r) (i : Nat) : 0 ≤ r.getD i 0 ∧ r.getD i 0 ≤ 1 := by
  rw [List.getD_eq_getElem?_getD]
  cases e : r[i]? with
  | none => simp
  | some d =>
    have := h.2 d (List.mem_of_getElem? e)
    simp only [Option.getD_some]
    omega
theorem dig_row {rows : List (List Int)} {m : Nat} (hr : rows.length = m + 1) (v : Nat) : ∃ r, r ∈ rows ∧ (∀ i, digV rows i v = r.getD i 0) ∧ rows[min v (rows.length - 1)]? = some r := by
  have hlt : min v (rows.length - 1) < rows.length := by omega
  refine ⟨rows[min v (rows.length - 1)], List.getElem_mem hlt, fun i => ?_, List.getElem?_eq_getElem hlt⟩
  unfold digV
  rw [List.getD_eq_getElem?_getD (l := rows), List.getElem?_eq_getElem hlt]
  rfl
theorem pre_num {g : Nat → Nat → Int} {r : List Int} {v : Nat} (h : ∀ i, g i v = r.getD i 0) : ∀ n, n ≤ r.length → preP g n v = numV (r.take n)
  | 0, _ => rfl
  | n + 1, hn => by
    have hlt : n < r.length := by omega
    have e : r.take (n + 1) = r.take n ++ [r.getD n 0] := by
      rw [List.take_add_one, List.getElem?_eq_getElem hlt, List.getD_eq_getElem?_getD, List.getElem?_eq_getElem hlt]
      rfl
    rw [e, numV_snoc, ← pre_num h n (by omega)]
    show 2 * preP g n v + g n v = _
    rw [h]
theorem ris_mono {n m : Nat} {rows : List (List Int)} (R : IsRis (rowsV n) (m + 1) rows) : ∀ i v w, i ≤ n → v ≤ w → preP (digV rows) i v ≤ preP (digV rows) i w := by
  have B : Bits (digV rows) := by
    constructor
    · intro i v
      obtain ⟨r, hr, hd, _⟩ := dig_row R.len v
      rw [hd]
      exact (getD_bits ((mem_rowsV n r).mp (R.mem r hr)) i).1
    · intro i v
      obtain ⟨r, hr, hd, _⟩ := dig_row R.len v
      rw [hd]
      exact (getD_bits ((mem_rowsV n r).mp (R.mem r hr)) i).2
  intro i v w hi hvw
  refine preP_mono B n i hi ?_
  obtain ⟨r, hr, hd, e1⟩ := dig_row R.len v
  obtain ⟨s, hs, hd2, e2⟩ := dig_row R.len w
  have lr := ((mem_rowsV n r).mp (R.mem r hr)).1
  have ls := ((mem_rowsV n s).mp (R.mem s hs)).1
  rw [pre_num hd n (by omega), pre_num hd2 n (by omega), List.take_of_length_le (by omega), List.take_of_length_le (by omega)]
  by_cases e : min v (rows.length - 1) = min w (rows.length - 1)
  · rw [e, e2] at e1
    have := Option.some.inj e1
    rw [this]
    exact Int.le_refl _
  · have up := List.pairwise_iff_getElem.mp R.up (min v (rows.length - 1)) (min w (rows.length - 1)) (List.getElem?_eq_some_iff.mp e1).1 (List.getElem?_eq_some_iff.mp e2).1 (by omega)
    rw [(List.getElem?_eq_some_iff.mp e1).2, (List.getElem?_eq_some_iff.mp e2).2] at up
    exact up
theorem ris_bits {n m : Nat} {rows : List (List Int)} (R : IsRis (rowsV n) (m + 1) rows) : Bits (digV rows) := by
  constructor
  · intro i v
    obtain ⟨r, hr, hd, _⟩ := dig_row R.len v
    rw [hd]
    exact (getD_bits ((mem_rowsV n r).mp (R.mem r hr)) i).1
  · intro i v
    obtain ⟨r, hr, hd, _⟩ := dig_row R.len v
    rw [hd]
    exact (getD_bits ((mem_rowsV n r).mp (R.mem r hr)) i).2
theorem some_none {α : Type} {f : Nat → Option α} {n : Nat} (h : (List.range n).findSome? f = none) : ∀ i, i < n → f i = none := by
  intro i hi
  rw [List.findSome?_eq_none_iff] at h
  exact h i (List.mem_range.mpr hi)
theorem some_some {α : Type} {f : Nat → Option α} {n : Nat} {x : α} (h : (List.range n).findSome? f = some x) : ∃ i, i < n ∧ f i = some x := by
  obtain ⟨i, hi, e⟩ := List.exists_of_findSome?_eq_some h
  exact ⟨i, List.mem_range.mp hi, e⟩
theorem fault_none {k l : List Int} (h : faultV k l = none) : (∀ i, i < k.length → k.getD i 0 ≤ l.getD i 0) ∧ ∀ d, d < k.length → ∀ c, c < d → carryV k l c d = none := by
  unfold faultV at h
  cases hs : stepV k l k.length with
  | some x =>
    rw [hs] at h
    cases h
  | none =>
    rw [hs] at h
    refine ⟨fun i hi => ?_, fun d hd c hc => ?_⟩
    · have := some_none hs i hi
      by_cases e : k.getD i 0 > l.getD i 0
      · rw [if_pos e] at this
        cases this
      · omega
    · have h1 : pairV k l d d = none := some_none h d hd
      have h2 := some_none h1 c hc
      cases e : carryV k l c d with
      | none => rfl
      | some p =>
        rw [e] at h2
        cases h2
theorem carry_none {k l : List Int} {c d : Nat} (h : carryV k l c d = none) : k.getD d 0 = l.getD d 0 ∨ (k.getD c 0 ≤ k.getD d 0 ∧ l.getD d 0 ≤ l.getD c 0) := by
  unfold carryV at h
  by_cases e : k.getD d 0 = l.getD d 0
  · exact .inl e
  · rw [if_neg e] at h
    by_cases e1 : k.getD c 0 > k.getD d 0
    · rw [if_pos e1] at h
      cases h
    · rw [if_neg e1] at h
      by_cases e2 : l.getD d 0 > l.getD c 0
      · rw [if_pos e2] at h
        cases h
      · exact .inr ⟨by omega, by omega⟩
theorem fault_none_le {n m : Nat} {k l : List Int} {rows : List (List Int)} (hk : InV k m) (hl : InV l m) (nk : k.length = n) (nl : l.length = n) (h : faultV k l = none) (R : IsRis (rowsV n) (m + 1) rows) : numV (rowV rows k) ≤ numV (rowV rows l) := by
  rw [num_row' hk R.len, num_row' hl R.len, nk, nl]
  obtain ⟨h1, h2⟩ := fault_none h
  have C : Crit (verV k) (verV l) n := by
    constructor
    · intro i hi
      have := h1 i (by omega)
      unfold verV
      omega
    · intro i hi
      unfold verV
      have a1 := hk.lo (i + 1)
      have a2 := hl.lo (i + 1)
      rcases carry_none (h2 (i + 1) (by omega) i (by omega)) with e | ⟨e1, e2⟩
      · left
        rw [e]
      · right
        omega
  rcases crit_le (ris_bits R) C (ris_mono R) n (Nat.le_refl _) with e | ⟨e, _⟩ <;> omega
theorem gt_up {g : Nat → Nat → Int} (B : Bits g) {k l : Nat → Nat} {i : Nat} (h : redP g l i < redP g k i) : ∀ n, i ≤ n → redP g l n < redP g k n
  | 0, hn => by
    have : i = 0 := by omega
    subst this
    exact h
  | n + 1, hn => by
    by_cases e : i = n + 1
    · subst e
      exact h
    · have ih := gt_up B h n (by omega)
      have b1 := B.hi n (l n)
      have b2 := B.lo n (k n)
      show 2 * redP g l n + g n (l n) < 2 * redP g k n + g n (k n)
      omega
theorem eq_up {g : Nat → Nat → Int} {k l : Nat → Nat} {i : Nat} (h : redP g k i = redP g l i) : ∀ n, i ≤ n → (∀ j, i ≤ j → j < n → g j (k j) = g j (l j)) → redP g k n = redP g l n
  | 0, hn, _ => by
    have : i = 0 := by omega
    subst this
    exact h
  | n + 1, hn, hd => by
    by_cases e : i = n + 1
    · subst e
      exact h
    · have ih := eq_up h n (by omega) fun j a b => hd j a (by omega)
      show 2 * redP g k n + g n (k n) = 2 * redP g l n + g n (l n)
      rw [ih, hd n (by omega) (by omega)]
def lowV (n : Nat) (cs : List Int) : List Int := if cs.length = 2 then (List.replicate n 0).set (cs.getD 1 0).toNat 1 else List.replicate n 0
def highV (n : Nat) (cs : List Int) : List Int := (List.replicate n 0).set (cs.getD 0 0).toNat 1
def turnV (n : Nat) (cs : List Int) (p last : Int) : List (List Int) := List.replicate p.toNat (lowV n cs) ++ List.replicate (last + 1 - p).toNat (highV n cs)
theorem set_bits (n j : Nat) : IsBits n ((List.replicate n (0 : Int)).set j 1) := by
  refine ⟨by simp, fun d hd => ?_⟩
  rcases List.mem_or_eq_of_mem_set hd with h | h
  · left
    exact (List.mem_replicate.mp h).2
  · right
    exact h
theorem zero_bits (n : Nat) : IsBits n (List.replicate n (0 : Int)) := ⟨by simp, fun d hd => .inl (List.mem_replicate.mp hd).2⟩
theorem low_bits (n : Nat) (cs : List Int) : IsBits n (lowV n cs) := by
  unfold lowV
  split
  · exact set_bits n _
  · exact zero_bits n
theorem getD_set0 (n j i : Nat) (hj : j < n) : ((List.replicate n (0 : Int)).set j 1).getD i 0 = if i = j then 1 else 0 := by
  rw [List.getD_eq_getElem?_getD]
  by_cases e : i = j
  · subst e
    rw [if_pos rfl, List.getElem?_set_self (by simpa using hj)]
    rfl
  · rw [if_neg e, List.getElem?_set_ne (fun z => e z.symm)]
    rw [List.getElem?_replicate]
    split <;> rfl
theorem getD_zero (n i : Nat) : (List.replicate n (0 : Int)).getD i 0 = 0 := by
  rw [List.getD_eq_getElem?_getD, List.getElem?_replicate]
  split <;> rfl
theorem turn_len {n : Nat} {cs : List Int} {p last : Int} (h0 : 0 ≤ p) (h1 : p ≤ last) : (turnV n cs p last).length = last.toNat + 1 := by
  unfold turnV
  rw [List.length_append, List.length_replicate, List.length_replicate]
  omega
theorem turn_at {n : Nat} {cs : List Int} {p last : Int} (h0 : 0 ≤ p) (h1 : p ≤ last) (v : Nat) (hv : v ≤ last.toNat) : (turnV n cs p last).getD v [] = if (v : Int) < p then lowV n cs else highV n cs := by
  unfold turnV
  rw [List.getD_eq_getElem?_getD, List.getElem?_append, List.length_replicate]
  by_cases e : v < p.toNat
  · rw [if_pos e, List.getElem?_replicate, if_pos e, if_pos (by omega)]
    rfl
  · rw [if_neg e, List.getElem?_replicate, if_pos (by omega), if_neg (by omega)]
    rfl
theorem turn_dig {n : Nat} {cs : List Int} {p last : Int} (h0 : 0 ≤ p) (h1 : p ≤ last) (i v : Nat) (hv : v ≤ last.toNat) : digV (turnV n cs p last) i v = if (v : Int) < p then (lowV n cs).getD i 0 else (highV n cs).getD i 0 := by
  unfold digV
  rw [turn_len h0 h1, show min v (last.toNat + 1 - 1) = v by omega, turn_at h0 h1 v hv]
  split <;> rfl
theorem fault_some {n m : Nat} {k l : List Int} {cs : List Int} {p : Int} (hk : InV k m) (hl : InV l m) (nk : k.length = n) (nl : l.length = n) (h : faultV k l = some (cs, p)) :
    (1 ≤ p ∧ p ≤ m) ∧ ((∃ c : Nat, c < n ∧ cs = [(c : Int)] ∧ p ≤ k.getD c 0 ∧ l.getD c 0 < p) ∨
      ∃ c d : Nat, c < d ∧ d < n ∧ cs = [(c : Int), (d : Int)] ∧ k.getD d 0 < p ∧ p ≤ l.getD d 0 ∧ k.getD c 0 ≤ l.getD c 0 ∧ (p ≤ k.getD c 0 ∨ l.getD c 0 < p)) := by
  unfold faultV at h
  cases hs : stepV k l k.length with
  | some x =>
    rw [hs] at h
    obtain ⟨i, hi, e⟩ := some_some hs
    have hx : x = (cs, p) := Option.some.inj h
    by_cases g : k.getD i 0 > l.getD i 0
    · rw [if_pos g] at e
      have e2 := (Option.some.inj e).trans hx
      have c1 : [(i : Int)] = cs := congrArg Prod.fst e2
      have c2 : k.getD i 0 = p := congrArg Prod.snd e2
      have a1 := hl.lo i
      have a2 := hk.hi i
      exact ⟨⟨by omega, by omega⟩, .inl ⟨i, by omega, c1.symm, by omega, by omega⟩⟩
    · rw [if_neg g] at e
      cases e
  | none =>
    rw [hs] at h
    have hle : ∀ i, i < k.length → k.getD i 0 ≤ l.getD i 0 := fun i hi => by
      have := some_none hs i hi
      by_cases e : k.getD i 0 > l.getD i 0
      · rw [if_pos e] at this
        cases this
      · omega
    obtain ⟨d, hd, h1⟩ := some_some (show (List.range k.length).findSome? (fun d => pairV k l d d) = some (cs, p) from h)
    obtain ⟨c, hc, h2⟩ := some_some (show (List.range d).findSome? (fun c => (carryV k l c d).map fun p => ([(c : Int), (d : Int)], p)) = some (cs, p) from h1)
    have q1 := hle d hd
    have q2 := hle c (by omega)
    have a1 := hk.lo d
    have a2 := hl.hi d
    have a3 := hk.lo c
    cases e : carryV k l c d with
    | none =>
      rw [e] at h2
      cases h2
    | some q =>
      rw [e] at h2
      have e2 : (([(c : Int), (d : Int)], q) : List Int × Int) = (cs, p) := Option.some.inj h2
      have c1 : [(c : Int), (d : Int)] = cs := congrArg Prod.fst e2
      have c2 : q = p := congrArg Prod.snd e2
      subst c2
      unfold carryV at e
      by_cases g0 : k.getD d 0 = l.getD d 0
      · rw [if_pos g0] at e
        cases e
      · rw [if_neg g0] at e
        by_cases g1 : k.getD c 0 > k.getD d 0
        · rw [if_pos g1] at e
          have := Option.some.inj e
          exact ⟨⟨by omega, by omega⟩, .inr ⟨c, d, hc, by omega, c1.symm, by omega, by omega, q2, .inl (by omega)⟩⟩
        · rw [if_neg g1] at e
          by_cases g2 : l.getD d 0 > l.getD c 0
          · rw [if_pos g2] at e
            have := Option.some.inj e
            exact ⟨⟨by omega, by omega⟩, .inr ⟨c, d, hc, by omega, c1.symm, by omega, by omega, q2, .inr (by omega)⟩⟩
          · rw [if_neg g2] at e
            cases e
theorem red_zero {g : Nat → Nat → Int} {k : Nat → Nat} : ∀ n, (∀ i, i < n → g i (k i) = 0) → redP g k n = 0
  | 0, _ => rfl
  | n + 1, h => by
    show 2 * redP g k n + g n (k n) = 0
    rw [red_zero n fun i hi => h i (by omega), h n (by omega)]
    rfl
theorem turn_bits {n : Nat} {cs : List Int} {p last : Int} : Bits (digV (turnV n cs p last)) := by
  have key : ∀ i v, 0 ≤ digV (turnV n cs p last) i v ∧ digV (turnV n cs p last) i v ≤ 1 := by
    intro i v
    unfold digV
    have : ∀ r, r ∈ turnV n cs p last → IsBits n r := by
      intro r hr
      unfold turnV at hr
      rcases List.mem_append.mp hr with h | h
      · rw [(List.mem_replicate.mp h).2]
        exact low_bits n cs
      · rw [(List.mem_replicate.mp h).2]
        exact set_bits n _
    rw [List.getD_eq_getElem?_getD (l := turnV n cs p last)]
    cases e : (turnV n cs p last)[min v ((turnV n cs p last).length - 1)]? with
    | none => simp
    | some r => exact getD_bits (this r (List.mem_of_getElem? e)) i
  exact ⟨fun i v => (key i v).1, fun i v => (key i v).2⟩
theorem fault_gt {n m : Nat} {k l : List Int} {cs : List Int} {p : Int} {last : Int} (hk : InV k m) (hl : InV l m) (nk : k.length = n) (nl : l.length = n) (h : faultV k l = some (cs, p))
    (hm : last = (m : Int)) : numV (rowV (turnV n cs p last) l) < numV (rowV (turnV n cs p last) k) := by
  subst hm
  obtain ⟨⟨p1, p2⟩, hc⟩ := fault_some hk hl nk nl h
  have tl : (turnV n cs p (m : Int)).length = m + 1 := by
    rw [turn_len (by omega) p2]
    rfl
  rw [num_row' hl tl, num_row' hk tl, nk, nl]
  have dk : ∀ i, digV (turnV n cs p (m : Int)) i (verV k i) = if k.getD i 0 < p then (lowV n cs).getD i 0 else (highV n cs).getD i 0 := fun i => by
    have a1 := hk.lo i
    have a2 := hk.hi i
    rw [turn_dig (by omega) p2 i _ (by unfold verV; omega)]
    have e : ((verV k i : Nat) : Int) = k.getD i 0 := by
      unfold verV
      omega
    rw [e]
  have dl : ∀ i, digV (turnV n cs p (m : Int)) i (verV l i) = if l.getD i 0 < p then (lowV n cs).getD i 0 else (highV n cs).getD i 0 := fun i => by
    have a1 := hl.lo i
    have a2 := hl.hi i
    rw [turn_dig (by omega) p2 i _ (by unfold verV; omega)]
    have e : ((verV l i : Nat) : Int) = l.getD i 0 := by
      unfold verV
      omega
    rw [e]
  rcases hc with ⟨c, hcn, ecs, h1, h2⟩ | ⟨c, d, hcd, hdn, ecs, h1, h2, h3, h4⟩
  · have lo0 : ∀ i, (lowV n cs).getD i 0 = 0 := fun i => by
      unfold lowV
      rw [ecs, if_neg (by simp)]
      exact getD_zero n i
    have hi0 : ∀ i, (highV n cs).getD i 0 = if i = c then 1 else 0 := fun i => by
      unfold highV
      rw [ecs]
      exact getD_set0 n c i hcn
    have z1 : redP (digV (turnV n cs p (m : Int))) (verV k) c = redP (digV (turnV n cs p (m : Int))) (verV l) c := by
      rw [red_zero c fun i hi => by
        rw [dk, lo0, hi0, if_neg (show ¬ i = c by omega)]
        split <;> rfl]
      rw [red_zero c fun i hi => by
        rw [dl, lo0, hi0, if_neg (show ¬ i = c by omega)]
        split <;> rfl]
    refine gt_up turn_bits (i := c + 1) ?_ n (by omega)
    show 2 * redP _ (verV l) c + digV _ c (verV l c) < 2 * redP _ (verV k) c + digV _ c (verV k c)
    rw [z1, dk, dl, lo0, hi0, if_pos rfl, if_pos h2, if_neg (by omega)]
    omega
  · have hi0 : ∀ i, (highV n cs).getD i 0 = if i = c then 1 else 0 := fun i => by
      unfold highV
      rw [ecs]
      exact getD_set0 n c i (by omega)
    have lo0 : ∀ i, (lowV n cs).getD i 0 = if i = d then 1 else 0 := fun i => by
      unfold lowV
      rw [ecs, if_pos (by simp)]
      exact getD_set0 n d i hdn
    have z1 : redP (digV (turnV n cs p (m : Int))) (verV k) c = redP (digV (turnV n cs p (m : Int))) (verV l) c := by
      rw [red_zero c fun i hi => by
        rw [dk, lo0, hi0, if_neg (show ¬ i = c by omega), if_neg (show ¬ i = d by omega)]
        split <;> rfl]
      rw [red_zero c fun i hi => by
        rw [dl, lo0, hi0, if_neg (show ¬ i = c by omega), if_neg (show ¬ i = d by omega)]
        split <;> rfl]
    have ck : digV (turnV n cs p (m : Int)) c (verV k c) = if k.getD c 0 < p then 0 else 1 := by
      rw [dk, lo0, hi0, if_pos rfl, if_neg (show ¬ c = d by omega)]
    have cl : digV (turnV n cs p (m : Int)) c (verV l c) = if l.getD c 0 < p then 0 else 1 := by
      rw [dl, lo0, hi0, if_pos rfl, if_neg (show ¬ c = d by omega)]
    by_cases e : (l.getD c 0 < p ∧ p ≤ k.getD c 0)
    · omega
    · by_cases e2 : digV (turnV n cs p (m : Int)) c (verV k c) = digV (turnV n cs p (m : Int)) c (verV l c)
      · have z2 : redP (digV (turnV n cs p (m : Int))) (verV k) d = redP (digV (turnV n cs p (m : Int))) (verV l) d := by
          refine eq_up z1 d (by omega) fun j hj hj2 => ?_
          by_cases ej : j = c
          · rw [ej]
            exact e2
          · rw [dk, dl, lo0, hi0, if_neg ej, if_neg (show ¬ j = d by omega)]
            split <;> split <;> rfl
        refine gt_up turn_bits (i := d + 1) ?_ n (by omega)
        show 2 * redP _ (verV l) d + digV _ d (verV l d) < 2 * redP _ (verV k) d + digV _ d (verV k d)
        rw [z2, dk, dl, lo0, hi0, if_pos rfl, if_neg (show ¬ d = c by omega), if_pos h1, if_neg (show ¬ l.getD d 0 < p by omega)]
        omega
      · exfalso
        rw [ck, cl] at e2
        rcases h4 with h | h
        · rw [if_neg (by omega), if_neg (by omega)] at e2
          exact e2 rfl
        · rw [if_pos (show k.getD c 0 < p by omega), if_pos h] at e2
          exact e2 rfl
theorem numV_le_of {n : Nat} {cs : List Int} (h : numV (lowV n cs) ≤ numV (highV n cs)) {p last : Int} : (turnV n cs p last).Pairwise fun a b => numV a ≤ numV b := by
  unfold turnV
  rw [List.pairwise_append]
  refine ⟨?_, ?_, fun a ha b hb => ?_⟩
  · rw [List.pairwise_replicate]
    exact .inr (Int.le_refl _)
  · rw [List.pairwise_replicate]
    exact .inr (Int.le_refl _)
  · rw [(List.mem_replicate.mp ha).2, (List.mem_replicate.mp hb).2]
    exact h
end Dg
namespace Dg
theorem red_const (g : Nat → Nat → Int) (v : Nat) : ∀ n, redP g (fun _ => v) n = preP g n v
  | 0 => rfl
  | n + 1 => by
    show 2 * redP g (fun _ => v) n + g n v = 2 * preP g n v + g n v
    rw [red_const g v n]
theorem num_two {n : Nat} {r s : List Int} (hr : IsBits n r) (hs : IsBits n s) {c : Nat} (hc : c < n) (heq : ∀ i, i < c → r.getD i 0 = s.getD i 0) (hlt : r.getD c 0 < s.getD c 0) : numV r ≤ numV s := by
  have B : Bits (fun i v => if v = 0 then r.getD i 0 else s.getD i 0) := by
    constructor
    · intro i v
      show (0 : Int) ≤ if v = 0 then _ else _
      split
      · exact (getD_bits hr i).1
      · exact (getD_bits hs i).1
    · intro i v
      show (if v = 0 then _ else _) ≤ (1 : Int)
      split
      · exact (getD_bits hr i).2
      · exact (getD_bits hs i).2
  have e1 : preP (fun i v => if v = 0 then r.getD i 0 else s.getD i 0) n 0 = numV r := by
    rw [pre_num (r := r) (fun i => if_pos rfl) n (by rw [hr.1]; exact Nat.le_refl _), List.take_of_length_le (by rw [hr.1]; exact Nat.le_refl _)]
  have e2 : preP (fun i v => if v = 0 then r.getD i 0 else s.getD i 0) n 1 = numV s := by
    rw [pre_num (r := s) (fun i => if_neg (by decide)) n (by rw [hs.1]; exact Nat.le_refl _), List.take_of_length_le (by rw [hs.1]; exact Nat.le_refl _)]
  have z : redP (fun i v => if v = 0 then r.getD i 0 else s.getD i 0) (fun _ => 1) c = redP (fun i v => if v = 0 then r.getD i 0 else s.getD i 0) (fun _ => 0) c :=
    eq_up (i := 0) (k := fun _ => 1) (l := fun _ => 0) rfl c (Nat.zero_le _) fun j _ hj => (heq j hj).symm
  have h := gt_up B (k := fun _ => 1) (l := fun _ => 0) (i := c + 1) (by
    show 2 * redP _ (fun _ => 0) c + r.getD c 0 < 2 * redP _ (fun _ => 1) c + s.getD c 0
    rw [z]
    omega) n (by omega)
  rw [red_const, red_const, e1, e2] at h
  omega
theorem turn_ris {n m : Nat} {k l : List Int} {cs : List Int} {p : Int} (hk : InV k m) (hl : InV l m) (nk : k.length = n) (nl : l.length = n) (h : faultV k l = some (cs, p)) : IsRis (rowsV n) (m + 1) (turnV n cs p (m : Int)) := by
  obtain ⟨⟨p1, p2⟩, hc⟩ := fault_some hk hl nk nl h
  refine ⟨?_, fun r hr => ?_, numV_le_of ?_⟩
  · rw [turn_len (by omega) p2]
    rfl
  · rw [mem_rowsV]
    unfold turnV at hr
    rcases List.mem_append.mp hr with h | h
    · rw [(List.mem_replicate.mp h).2]
      exact low_bits n cs
    · rw [(List.mem_replicate.mp h).2]
      exact set_bits n _
  · rcases hc with ⟨c, hcn, ecs, _⟩ | ⟨c, d, hcd, hdn, ecs, _⟩
    · refine num_two (low_bits n cs) (set_bits n _) hcn (fun i hi => ?_) ?_
      · unfold lowV
        rw [ecs, if_neg (by simp), getD_zero]
        show 0 = ((List.replicate n (0 : Int)).set c 1).getD i 0
        rw [getD_set0 n c i hcn, if_neg (by omega)]
      · unfold lowV
        rw [ecs, if_neg (by simp), getD_zero]
        show 0 < ((List.replicate n (0 : Int)).set c 1).getD c 0
        rw [getD_set0 n c c hcn, if_pos rfl]
        decide
    · refine num_two (low_bits n cs) (set_bits n _) (c := c) (by omega) (fun i hi => ?_) ?_
      · unfold lowV
        rw [ecs, if_pos (by simp)]
        show ((List.replicate n (0 : Int)).set d 1).getD i 0 = ((List.replicate n (0 : Int)).set c 1).getD i 0
        rw [getD_set0 n d i hdn, getD_set0 n c i (by omega), if_neg (by omega), if_neg (by omega)]
      · unfold lowV
        rw [ecs, if_pos (by simp)]
        show ((List.replicate n (0 : Int)).set d 1).getD c 0 < ((List.replicate n (0 : Int)).set c 1).getD c 0
        rw [getD_set0 n d c hdn, getD_set0 n c c (by omega), if_neg (by omega), if_pos rfl]
        decide
theorem fault_iff {n m : Nat} {k l : List Int} (hk : InV k m) (hl : InV l m) (nk : k.length = n) (nl : l.length = n) :
    faultV k l = none ↔ ((risV (rowsV n) (m + 1)).filter fun rows => !decide (numV (rowV rows k) ≤ numV (rowV rows l))) = [] := by
  constructor
  · intro h
    rw [List.filter_eq_nil_iff]
    intro rows hr
    have R := (mem_risV (rowsV_pw n) (m + 1) rows).mp hr
    have := fault_none_le hk hl nk nl h R
    simp [this]
  · intro h
    cases e : faultV k l with
    | none => rfl
    | some x =>
      obtain ⟨cs, p⟩ := x
      exfalso
      have R := turn_ris hk hl nk nl e
      have hm := (mem_risV (rowsV_pw n) (m + 1) _).mpr R
      have := fault_gt hk hl nk nl e (last := (m : Int)) rfl
      rw [List.filter_eq_nil_iff] at h
      have h2 := h _ hm
      simp at h2
      omega
def codeV (v : List Int) (c d : Nat) (p : Int) : Int := 2 * (if p ≤ v.getD c 0 then 1 else 0) + (if v.getD d 0 < p then 1 else 0)
def putPair (k l : List Int) (d c : Nat) : Bool := decide (codeV k c d (k.getD d 0 + 1) > codeV l c d (k.getD d 0 + 1)) || decide (codeV k c d (l.getD d 0) > codeV l c d (l.getD d 0))
def putCell (k l : List Int) (d : Nat) : Bool := decide (k.getD d 0 > l.getD d 0) || (List.range d).any (putPair k l d)
def putV (k l : List Int) : Bool := (List.range k.length).any (putCell k l)
theorem put_pair {k l : List Int} {c d : Nat} (hc : k.getD c 0 ≤ l.getD c 0) (hd : k.getD d 0 ≤ l.getD d 0) : putPair k l d c = (carryV k l c d).isSome := by
  unfold putPair codeV carryV
  by_cases e : k.getD d 0 = l.getD d 0
  · rw [if_pos e, e]
    rw [Bool.or_eq_false_iff.mpr ⟨decide_eq_false ?_, decide_eq_false ?_⟩]
    · rfl
    · rw [if_pos (show l.getD d 0 < l.getD d 0 + 1 by omega)]
      split <;> split <;> omega
    · rw [if_neg (show ¬ l.getD d 0 < l.getD d 0 by omega)]
      split <;> split <;> omega
  · rw [if_neg e]
    have h1 : k.getD d 0 < l.getD d 0 := by omega
    rw [if_pos (show k.getD d 0 < k.getD d 0 + 1 by omega), if_neg (show ¬ l.getD d 0 < k.getD d 0 + 1 by omega), if_pos h1, if_neg (show ¬ l.getD d 0 < l.getD d 0 by omega)]
    by_cases e1 : k.getD c 0 > k.getD d 0
    · rw [if_pos e1, Bool.or_eq_true_iff.mpr (.inl (decide_eq_true ?_))]
      · rfl
      · rw [if_pos (show k.getD d 0 + 1 ≤ k.getD c 0 by omega)]
        split <;> omega
    · rw [if_neg e1]
      by_cases e2 : l.getD d 0 > l.getD c 0
      · rw [if_pos e2, Bool.or_eq_true_iff.mpr (.inr (decide_eq_true ?_))]
        · rfl
        · rw [if_neg (show ¬ l.getD d 0 ≤ l.getD c 0 by omega)]
          split <;> omega
      · rw [if_neg e2, Bool.or_eq_false_iff.mpr ⟨decide_eq_false ?_, decide_eq_false ?_⟩]
        · rfl
        · rw [if_neg (show ¬ k.getD d 0 + 1 ≤ k.getD c 0 by omega), if_pos (show k.getD d 0 + 1 ≤ l.getD c 0 by omega)]
          omega
        · rw [if_neg (show ¬ l.getD d 0 ≤ k.getD c 0 by omega), if_pos (show l.getD d 0 ≤ l.getD c 0 by omega)]
          omega
theorem put_is (k l : List Int) : putV k l = (faultV k l).isSome := by
  unfold putV faultV
  cases hs : stepV k l k.length with
  | some x =>
    obtain ⟨i, hi, e⟩ := some_some hs
    have g : k.getD i 0 > l.getD i 0 := by
      by_cases g : k.getD i 0 > l.getD i 0
      · exact g
      · rw [if_neg g] at e
        cases e
    show _ = true
    rw [List.any_eq_true]
    refine ⟨i, List.mem_range.mpr hi, ?_⟩
    unfold putCell
    rw [decide_eq_true g]
    rfl
  | none =>
    have hle : ∀ i, i < k.length → k.getD i 0 ≤ l.getD i 0 := fun i hi => by
      have := some_none hs i hi
      by_cases e : k.getD i 0 > l.getD i 0
      · rw [if_pos e] at this
        cases this
      · omega
    have key : ∀ d, d < k.length → putCell k l d = (pairV k l d d).isSome := fun d hd => by
      unfold putCell
      rw [decide_eq_false (by have := hle d hd; omega), Bool.false_or]
      have gen : ∀ n, n ≤ d → (List.range n).any (putPair k l d) = (pairV k l d n).isSome := by
        intro n
        induction n with
        | zero => intro _; rfl
        | succ n ih =>
          intro hn
          rw [List.range_succ, List.any_append, ih (by omega)]
          unfold pairV
          rw [range_some]
          rw [List.any_cons, List.any_nil, Bool.or_false, put_pair (hle n (by omega)) (hle d hd), Option.isSome_or, Option.isSome_map]
      exact gen d (Nat.le_refl _)
    have gen : ∀ n, n ≤ k.length → (List.range n).any (putCell k l) = (carriesV k l n).isSome := by
      intro n
      induction n with
      | zero => intro _; rfl
      | succ n ih =>
        intro hn
        rw [List.range_succ, List.any_append, ih (by omega)]
        unfold carriesV
        rw [range_some, List.any_cons, List.any_nil, Bool.or_false, key n (by omega), Option.isSome_or]
    exact gen _ (Nat.le_refl _)
theorem fault_self {k : List Int} : faultV k k = none := by
  have h : putV k k = false := by
    unfold putV
    rw [List.any_eq_false]
    intro d hd
    unfold putCell
    rw [decide_eq_false (Int.lt_irrefl _), Bool.false_or, Bool.not_eq_true, List.any_eq_false]
    intro c hc
    unfold putPair
    simp
  rw [put_is] at h
  cases e : faultV k k with
  | none => rfl
  | some x =>
    rw [e] at h
    cases h
end Dg
namespace Dg
theorem num_bound {n : Nat} {r : List Int} (h : IsBits n r) : ∀ i, i ≤ n → 0 ≤ numV (r.take i) ∧ numV (r.take i) < 2 ^ i
  | 0, _ => by
    simp [numV]
  | i + 1, hi => by
    have hlt : i < r.length := by rw [h.1]; omega
    have e : r.take (i + 1) = r.take i ++ [r.getD i 0] := by
      rw [List.take_add_one, List.getElem?_eq_getElem hlt, List.getD_eq_getElem?_getD, List.getElem?_eq_getElem hlt]
      rfl
    obtain ⟨h1, h2⟩ := num_bound h i (by omega)
    obtain ⟨b1, b2⟩ := getD_bits h i
    rw [e, numV_snoc, Int.pow_succ]
    omega
theorem take_snoc (r : List Int) (i : Nat) (h : i < r.length) : r.take (i + 1) = r.take i ++ [r.getD i 0] := by
  rw [List.take_add_one, List.getElem?_eq_getElem h, List.getD_eq_getElem?_getD, List.getElem?_eq_getElem h]
  rfl
theorem pow60 {i : Nat} {x : Int} (hi : i ≤ 60) (h0 : 0 ≤ x) (h : x < 2 ^ i) : x.natAbs < 2 ^ 60 := by
  have h1 : x.natAbs < 2 ^ i := by
    have : (x.natAbs : Int) = x := Int.natAbs_of_nonneg h0
    have h2 : ((x.natAbs : Nat) : Int) < ((2 ^ i : Nat) : Int) := by
      rw [this]
      simpa using h
    exact Int.ofNat_lt.mp h2
  exact Nat.lt_of_lt_of_le h1 (Nat.pow_le_pow_right (by decide) hi)
theorem row_bits {n m : Nat} {rows : List (List Int)} {k : List Int} (h : InV k m) (R : IsRis (rowsV n) (m + 1) rows) (nk : k.length = n) : IsBits n (rowV rows k) := by
  refine ⟨by unfold rowV; rw [List.length_map, List.length_range, nk], fun d hd => ?_⟩
  unfold rowV at hd
  obtain ⟨i, hi, rfl⟩ := List.mem_map.mp hd
  have h1 := h.lo i
  have h2 := h.hi i
  have hlt : (k.getD i 0).toNat < rows.length := by rw [R.len]; omega
  have hr : rows.getD (k.getD i 0).toNat [] ∈ rows := by
    rw [List.getD_eq_getElem?_getD, List.getElem?_eq_getElem hlt]
    exact List.getElem_mem hlt
  have b := (mem_rowsV n _).mp (R.mem _ hr)
  have := getD_bits b i
  omega
theorem flat_take {α β : Type} (f : α → List β) (l : List α) (i : Nat) (x : α) (h : l[i]? = some x) : (l.take (i + 1)).flatMap f = (l.take i).flatMap f ++ f x := by
  rw [List.take_add_one, h, List.flatMap_append]
  simp
end Dg
namespace Dg
theorem any_at {f : Nat → Bool} {n i : Nat} (h : i < n) (e : f i = true) : (List.range n).any f = true := List.any_eq_true.mpr ⟨i, List.mem_range.mpr h, e⟩
theorem any_next {f : Nat → Bool} {n : Nat} (h : (List.range n).any f = false) (e : f n = false) : (List.range (n + 1)).any f = false := by
  rw [List.range_succ, List.any_append, h, List.any_cons, e]
  rfl
theorem ite_dec {q : Prop} [Decidable q] : (if decide q = true then (1 : Int) else 0) = if q then 1 else 0 := by
  by_cases h : q <;> simp [h]
theorem put_first {k l : List Int} {c d : Nat} (h : codeV k c d (k.getD d 0 + 1) > codeV l c d (k.getD d 0 + 1)) : putPair k l d c = true := by
  unfold putPair
  rw [decide_eq_true h]
  rfl
theorem put_second {k l : List Int} {c d : Nat} (h : codeV k c d (l.getD d 0) > codeV l c d (l.getD d 0)) : putPair k l d c = true := by
  unfold putPair
  rw [decide_eq_true h, Bool.or_true]
theorem put_not {k l : List Int} {c d : Nat} (h1 : ¬ codeV k c d (k.getD d 0 + 1) > codeV l c d (k.getD d 0 + 1)) (h2 : ¬ codeV k c d (l.getD d 0) > codeV l c d (l.getD d 0)) : putPair k l d c = false := by
  unfold putPair
  rw [decide_eq_false h1, decide_eq_false h2]
  rfl
theorem put_cell_gt {k l : List Int} {d : Nat} (h : k.getD d 0 > l.getD d 0) : putCell k l d = true := by
  unfold putCell
  rw [decide_eq_true h]
  rfl
theorem put_cell_pair {k l : List Int} {c d : Nat} (hc : c < d) (h : putPair k l d c = true) : putCell k l d = true := by
  unfold putCell
  rw [any_at hc h, Bool.or_true]
theorem put_cell_not {k l : List Int} {d : Nat} (h1 : ¬ k.getD d 0 > l.getD d 0) (h2 : (List.range d).any (putPair k l d) = false) : putCell k l d = false := by
  unfold putCell
  rw [decide_eq_false h1, h2]
  rfl
theorem first_nil (rows : List (List Int)) : firstV rows [] = 0 := rfl
theorem first_last {rows one : List (List Int)} {r : List Int} (h : one.getLast? = some r) : firstV rows one = rows.findIdx (fun x => decide (x = r)) := by
  unfold firstV
  rw [h]
theorem ris_step {rows : List (List Int)} {R m : Nat} (h : rows.length ≤ R) (j : Nat) (hR : 0 < R) : (((risV rows m).take j).flatMap fun one => (rows.drop (firstV rows one)).map fun row => one ++ [row]).length ≤ R ^ (m + 1) := by
  have e : risV rows m = (risV rows m).take j ++ (risV rows m).drop j := (List.take_append_drop j _).symm
  have h2 := risV_len rows R h (m + 1)
  unfold risV at h2
  rw [e, List.flatMap_append, List.length_append] at h2
  omega
end Dg
namespace Dg
def AllIn (k : List Int) (m : Int) : Prop := ∀ x ∈ k, 0 ≤ x ∧ x ≤ m
theorem AllIn.inV {k : List Int} {m : Nat} (h : AllIn k m) : InV k m := by
  have key : ∀ i, 0 ≤ k.getD i 0 ∧ k.getD i 0 ≤ (m : Int) := by
    intro i
    rw [List.getD_eq_getElem?_getD]
    cases e : k[i]? with
    | none => simp
    | some d => exact h d (List.mem_of_getElem? e)
  exact ⟨fun i => (key i).1, fun i => (key i).2⟩
theorem AllIn.snoc {k : List Int} {m x : Int} (h : AllIn k m) (h0 : 0 ≤ x) (h1 : x ≤ m) : AllIn (k ++ [x]) m := fun y hy => by
  rcases List.mem_append.mp hy with z | z
  · exact h y z
  · have : y = x := by simpa using z
    rw [this]
    exact ⟨h0, h1⟩
theorem AllIn.set {k : List Int} {m x : Int} (h : AllIn k m) (j : Nat) (h0 : 0 ≤ x) (h1 : x ≤ m) : AllIn (k.set j x) m := fun y hy => by
  rcases List.mem_or_eq_of_mem_set hy with z | z
  · exact h y z
  · rw [z]
    exact ⟨h0, h1⟩
theorem AllIn.get {k : List Int} {m : Int} (h : AllIn k m) {j : Nat} (hj : j < k.length) : 0 ≤ k.getD j 0 ∧ k.getD j 0 ≤ m := by
  rw [List.getD_eq_getElem?_getD, List.getElem?_eq_getElem hj]
  exact h _ (List.getElem_mem hj)
end Dg
namespace Dg
open PySem PySem.Spec PyProof.Rows L2
def topS (i : Nat) : Stmt := PySem.Challenge.pw_digitsturn_k13_whole_at_most.main.body.getD i (.Pass ⟨0, 0, 0, 0⟩)
local macro_rules | `(tactic| walk_at "rd1") => `(tactic| first | refine ⟨_, rfl, ?_⟩ | refine ⟨_, _, rfl, rfl, ?_⟩)
local macro_rules | `(tactic| walk_at "rd") => `(tactic| repeat walk_at "rd1")
section
variable {P : Program} {w : World} {K : PySem.W.Frag} {mg : Str → Option Value} {base : Heap}
abbrev s_draw : Stmt := topS 10
abbrev N_draw : List Str := ["pen", "span", "digit", "turn", "cell", "mixed"]
abbrev P_draw : List Str := ["pen", "span"]
theorem sc_draw : FnScope N_draw P_draw (defScope s_draw) := ⟨rfl, rfl, rfl, by decide +kernel, rfl, by decide +kernel, by decide +kernel⟩
theorem ok_draw {f : Addr} {fd : FuncData} (F : Fun K "_law_draw" "_law_draw" s_draw f fd) (B : Bi mg) : FnOk P w K mg base CX0 1 f fd P_draw spDraw := by
  refine F.ok sc_draw (fun vs H Q E h => ?_) (fun cdv A outer s H vs Q E hr h => ?_)
  · obtain ⟨p, c, n, b, rfl, _⟩ := h
    rfl
  · obtain ⟨p, c, n, b, rfl, ⟨ns, t, l, hp⟩, hn, hn2, hb, k⟩ := h
    have hu := hu_of hr
    refine ⟨_, (pss_cons (ps_if (pt_cmpR op_gt (pe_dget hu (pv 0) pe_str (fun _ _ => rfl)) pe_int (nomark _)) 
          (pss_cons (ps_set (i := 2) sc_draw.nd rfl (.inl rfl) (pe_op op_mod (pe_callTy call_int1 (by rfl) B.b_int (by decide +kernel) (pa_cons (pe_dget hu (pv 0) pe_str (fun _ _ => rfl)) pa_nil)) (pv 1)))
          (pss_cons (ps_dput hu (pv 0) pe_str (pe_op op_fdivW (pe_dget hu (pv 0) pe_str (fun _ _ => rfl)) (pv 1)) rfl)
          (pss_one (ps_ret (pv 2))))) pss_nil)
      (pss_cons (ps_set (i := 3) sc_draw.nd rfl (.inl rfl) (pe_dget hu (pv 0) pe_str (fun _ _ => rfl)))
      (pss_cons (ps_dput hu (pv 0) pe_str (pe_op op_add (pv 3) pe_int) rfl)
      (pss_cons (ps_set (i := 4) sc_draw.nd rfl (.inl rfl) (pe_op op_add (pe_op op_mulW pe_int (pv 3)) pe_int))
      (C8.pss_cut (ps_if (pt_cmpR (op_neD hr.units) (pe_dget hu (pv 0) pe_str (fun _ _ => rfl)) (pe_lst pa_nil) (nomark _)) 
          (pss_one (ps_set (i := 4) sc_draw.nd rfl (.inl rfl) (pe_ix ix_list (pe_dget hu (pv 0) pe_str (fun _ _ => rfl)) (pe_op op_mod (pe_callTy call_int1 (by rfl) B.b_int (by decide +kernel) (pa_cons (pv 3) pa_nil)) (pe_callB call_len_seq (by rfl) B.b_len PySem.boot_len (pa_cons (pe_dget hu (pv 0) pe_str (fun _ _ => rfl)) pa_nil))) (fun _ _ => rfl)))) pss_nil)
      (C8.pss_cut (ps_if (PW.pt (pw_and (pt_cmpR op_lt (pv 3) (pe_callB call_len_seq (by rfl) B.b_len PySem.boot_len (pa_cons (pe_dget hu (pv 0) pe_str (fun _ _ => rfl)) pa_nil)) (nomark _)) (pw_and1 (pt_cmpR op_ge (pe_callB call_abs (by rfl) B.b_abs (by decide +kernel) (pa_cons (pv 4) pa_nil)) (pe_op op_pow pe_int pe_int) (nomark _))))) 
          (pss_cons (ps_dput hu (pv 0) pe_str (pe_op op_fdivW (pe_op op_sub (pe_callB call_abs (by rfl) B.b_abs (by decide +kernel) (pa_cons (pv 4) pa_nil)) (pe_op op_pow pe_int pe_int)) (pv 1)) rfl)
          (pss_one (ps_ret (pe_op op_mod (pe_callTy call_int1 (by rfl) B.b_int (by decide +kernel) (pa_cons (pe_op op_sub (pe_callB call_abs (by rfl) B.b_abs (by decide +kernel) (pa_cons (pv 4) pa_nil)) (pe_op op_pow pe_int pe_int)) pa_nil)) (pv 1))))) pss_nil)
      (pss_cons (ps_set (i := 5) sc_draw.nd rfl (.inl rfl) (pe_op op_mulW (pe_op op_mod (pe_callTy call_int1 (by rfl) B.b_int (by decide +kernel) (pa_cons (pv 4) pa_nil)) pe_int) pe_int))
      (pss_cons (ps_set (i := 5) sc_draw.nd rfl (.inl rfl) (pe_op op_mod (pe_callTy call_int1 (by rfl) B.b_int (by decide +kernel) (pa_cons (pe_op op_add (pe_op op_add (pv 5) (pe_op op_mulW (pv 3) (pe_op op_add (pe_op op_mulW (pv 3) pe_int) pe_int))) pe_int) pa_nil)) pe_int))
      (pss_cons (ps_set (i := 5) sc_draw.nd rfl (.inl rfl) (pe_op op_mod (pe_callTy call_int1 (by rfl) B.b_int (by decide +kernel) (pa_cons (pe_op op_mulW (pv 5) (pe_op op_add (pv 5) pe_int)) pa_nil)) pe_int))
      (pss_cons (ps_set (i := 5) sc_draw.nd rfl (.inl rfl) (pe_op op_mod (pe_callTy call_int1 (by rfl) B.b_int (by decide +kernel) (pa_cons (pe_op op_add (pe_op op_add (pe_op op_mulW (pv 5) (pv 5)) (pe_op op_mulW pe_int (pv 5))) (pe_op op_mulW pe_int (pv 3))) pa_nil)) pe_int))
      (pss_one (ps_ret (pe_op op_mod (pe_callTy call_int1 (by rfl) B.b_int (by decide +kernel) (pa_cons (pe_op op_fdivW (pe_op op_mod (pe_callTy call_int1 (by rfl) B.b_int (by decide +kernel) (pa_cons (pe_op op_mulW (pv 5) (pe_op op_add (pv 5) pe_int)) pa_nil)) pe_int) pe_int) pa_nil)) (pv 1)))))))))))))), ?_⟩
    have hd : CDivW 0 n := wide_div (b := 300) hn (by omega) (by decide) (by decide)
    have hdn : ∀ i, CDivW i n := fun _ => hd
    have ht0 := hp.t0
    have htb := hp.tb
    refine ⟨_, rfl, p, _, rfl, hp.get_left, _, _, rfl, rfl, _, rfl, ?_⟩
    refine ite2 (fun hl => ?_) (fun hl => ?_)
    · -- digit = int(pen['left']) % span; pen['left'] = pen['left'] // span; return digit
      refine ⟨_, rfl, p, _, rfl, hp.get_left, .inl ⟨_, rfl, ?_⟩⟩
      walk_at "rd"
      refine ⟨hn, ?_⟩
      refine ⟨_, rfl, p, _, rfl, hp.get_left, _, rfl, _, _, rfl, rfl, hd, _, rfl, p, _, rfl, hp.put_left _, _, rfl, ?_⟩
      exact k _ _ (Int.emod_nonneg _ (by omega)) (Int.emod_lt_of_pos _ hn) ⟨ns, t, _, hp.upd hp.t0 (by omega) (Int.ediv_nonneg hp.l0 (by omega))⟩ sameB_upd
    · -- turn = pen['turn']; pen['turn'] = turn + 1
      have hp2 := hp.upd (u := t + 1) (v := l) (b' := b + 1) (by omega) (by omega) hp.l0
      have s2 : SameB p H (upd H p (.dK (penL c (t + 1) l))) := sameB_upd
      generalize hH2 : upd H p (.dK (penL c (t + 1) l)) = H2 at hp2 s2
      refine ⟨_, rfl, p, _, rfl, hp.get_turn, _, rfl, _, _, rfl, rfl, _, rfl, p, H2, rfl, by rw [← hH2]; exact hp.put_turn _, ?_⟩
      refine ⟨_, rfl, _, _, rfl, rfl, wide_mul (a := 7) (b := 61) (by decide) (by omega) (by decide) (by decide) (by decide), _, _, rfl, rfl, ?_⟩
      refine ⟨fun σ' H' => ∃ x : Int, σ' = [some (.ref p), some (.int n), none, some (.int t), some (.int x), none] ∧ SameB p H H' ∧ PenAt H' p c ns (t + 1) l (b + 1), ?_, ?_⟩
      · refine ⟨_, rfl, p, _, rfl, hp2.get_cells, Nat.zero_le _, fun e ne => ?_⟩
        have s3 : Same H2 (upd H2 e (.lst [])) := same_new ne
        have hp3 := hp2.same s3
        refine ⟨.list (ns.map .int), .list [], .lst (.inl (.inl hp3.cs)) (dp_ints _), .lst (.inl (.inl upd_same)) .nil, shaped_ints _, rfl, _, rfl, ?_⟩
        refine ite2 (fun hc => ?_) (fun hc => ?_)
        · rw [eqv_nil] at hc
          have hne : 0 < ns.length := by
            cases ns with
            | nil => exact absurd hc (by decide)
            | cons x r => exact Nat.succ_pos _
          refine ⟨_, rfl, p, _, rfl, hp3.get_cells, _, rfl, .inl ⟨_, rfl, ?_⟩⟩
          refine ⟨_, rfl, p, _, rfl, hp3.get_cells, c, _, rfl, .inl (.inl (.inl hp3.cs)), _, _, rfl, rfl, by rw [List.length_map]; omega, ?_⟩
          have hlt : (t % ((ns.length : Nat) : Int)).toNat < ns.length := by
            have h1 := Int.emod_nonneg t (b := (ns.length : Int)) (by omega)
            have h2 := Int.emod_lt_of_pos t (b := (ns.length : Int)) (by omega)
            omega
          refine ⟨c, _, _, .int (ns[(t % ((ns.length : Nat) : Int)).toNat]'hlt), rfl, rfl, .inl (.inl hp3.cs), ?_, ?_⟩
          · rw [List.length_map]
            refine at_of (j := (t % ((ns.length : Nat) : Int)).toNat) ?_ ?_
            · have h1 := Int.emod_nonneg t (b := (ns.length : Int)) (by omega)
              omega
            · rw [List.getElem?_map, List.getElem?_eq_getElem hlt]
              rfl
          · exact ⟨_, rfl, s2.trans (SameB.of s3), hp3⟩
        · exact ⟨_, rfl, s2.trans (SameB.of s3), hp3⟩
      · rintro σ' H' ⟨x, rfl, s4, hp4⟩
        clear s2 hp2 hH2
        have habs : (0 : Int) ≤ (if x < 0 then -x else x) := by split <;> omega
        generalize hax : (if x < 0 then -x else x) = ax at habs
        refine ⟨fun σ' H'' => σ' = [some (.ref p), some (.int n), none, some (.int t), some (.int x), none] ∧ H'' = H', ?_, ?_⟩
        · refine ⟨_, rfl, _, rfl, p, _, rfl, hp4.get_cells, c, _, rfl, .inl (.inl (.inl hp4.cs)), _, _, rfl, rfl, _, rfl, ?_⟩
          refine ite2 (fun hc => ?_) (fun hc => ?_)
          · refine ⟨_, rfl, _, rfl, _, _, rfl, rfl, ⟨by decide, by decide, by decide⟩, _, _, rfl, rfl, _, rfl, ?_⟩
            rw [hax]
            refine ite2 (fun h18 => ?_) (fun h18 => ?_)
            · have h18' := of_decide_eq_true h18
              refine ⟨_, rfl, _, rfl, _, _, rfl, rfl, ⟨by decide, by decide, by decide⟩, _, _, rfl, rfl, _, rfl, _, _, rfl, rfl, hdn _, _, rfl, p, _, rfl, hp4.put_left _, ?_⟩
              refine ⟨_, rfl, _, rfl, _, _, rfl, rfl, ⟨by decide, by decide, by decide⟩, _, _, rfl, rfl, .inl ⟨_, rfl, ?_⟩⟩
              refine ⟨_, rfl, _, _, rfl, rfl, hn, ?_⟩
              rw [hax]
              exact k _ _ (Int.emod_nonneg _ (by omega)) (Int.emod_lt_of_pos _ hn) ⟨ns, _, _, hp4.upd hp4.t0 hp4.tb (Int.ediv_nonneg (by omega) (by omega))⟩ (s4.trans sameB_upd)
            · exact ⟨rfl, rfl⟩
          · exact iteF ⟨rfl, rfl⟩
        · rintro σ' H'' ⟨rfl, rfl⟩
          refine ⟨_, rfl, .inl ⟨_, rfl, _, _, rfl, rfl, (by show (0 : Int) < 4294967087; decide), ?_⟩⟩
          have m1 := Int.emod_nonneg x (b := 4294967087) (by decide)
          have m2 := Int.emod_lt_of_pos x (b := 4294967087) (by decide)
          generalize x % 4294967087 = y at m1 m2
          refine ⟨_, _, rfl, rfl, wide_mul (a := 40) (b := 40) (by omega) (by decide) (by decide) (by decide) (by decide), ?_⟩
          refine ⟨_, rfl, _, rfl, _, rfl, _, _, rfl, rfl, wide_mul (a := 61) (b := 40) (by omega) (by decide) (by decide) (by decide) (by decide), ?_⟩
          have q1 : (t * 27919 + 10601).natAbs < 2 ^ 80 := by omega
          refine ⟨_, _, rfl, rfl, _, _, rfl, rfl, wide_mul (a := 61) (b := 80) (by omega) q1 (by decide) (by decide) (by decide), ?_⟩
          refine ⟨_, _, rfl, rfl, _, _, rfl, rfl, .inl ⟨_, rfl, _, _, rfl, rfl, (by show (0 : Int) < 4294967029; decide), ?_⟩⟩
          have n1 := Int.emod_nonneg (y * 48611 + t * (t * 27919 + 10601) + 41) (b := 4294967029) (by decide)
          have n2 := Int.emod_lt_of_pos (y * 48611 + t * (t * 27919 + 10601) + 41) (b := 4294967029) (by decide)
          generalize (y * 48611 + t * (t * 27919 + 10601) + 41) % 4294967029 = z at n1 n2
          refine ⟨_, rfl, _, rfl, _, _, rfl, rfl, _, _, rfl, rfl, wide_mul (a := 40) (b := 40) (by omega) (by omega) (by decide) (by decide) (by decide), .inl ⟨_, rfl, _, _, rfl, rfl, (by show (0 : Int) < 4294966997; decide), ?_⟩⟩
          have o1 := Int.emod_nonneg (z * (z + 75013)) (b := 4294966997) (by decide)
          have o2 := Int.emod_lt_of_pos (z * (z + 75013)) (b := 4294966997) (by decide)
          generalize (z * (z + 75013)) % 4294966997 = u at o1 o2
          refine ⟨_, rfl, _, rfl, _, _, rfl, rfl, wide_mul (a := 40) (b := 40) (by omega) (by omega) (by decide) (by decide) (by decide), ?_⟩
          refine ⟨_, rfl, _, _, rfl, rfl, wide_mul (a := 40) (b := 40) (by decide) (by omega) (by decide) (by decide) (by decide), _, _, rfl, rfl, ?_⟩
          refine ⟨_, rfl, _, _, rfl, rfl, wide_mul (a := 40) (b := 61) (by decide) (by omega) (by decide) (by decide) (by decide), _, _, rfl, rfl, .inl ⟨_, rfl, _, _, rfl, rfl, (by show (0 : Int) < 4294966981; decide), ?_⟩⟩
          have v1 := Int.emod_nonneg (u * u + 30427 * u + 19 * t) (b := 4294966981) (by decide)
          have v2 := Int.emod_lt_of_pos (u * u + 30427 * u + 19 * t) (b := 4294966981) (by decide)
          generalize (u * u + 30427 * u + 19 * t) % 4294966981 = w1 at v1 v2
          refine ⟨_, rfl, _, rfl, _, _, rfl, rfl, _, _, rfl, rfl, wide_mul (a := 40) (b := 40) (by omega) (by omega) (by decide) (by decide) (by decide), .inl ⟨_, rfl, _, _, rfl, rfl, (by show (0 : Int) < 4294966943; decide), ?_⟩⟩
          refine ⟨_, _, rfl, rfl, wide_div (b := 7) (by decide) (by decide) (by decide) (by decide), .inl ⟨_, rfl, _, rfl, _, _, rfl, rfl, hn, ?_⟩⟩
          exact k _ _ (Int.emod_nonneg _ (by omega)) (Int.emod_lt_of_pos _ hn) ⟨ns, _, _, hp4⟩ s4
abbrev s_carry_version : Stmt := topS 7
abbrev N_carry_version : List Str := ["one", "other", "great", "small"]
abbrev P_carry_version : List Str := ["one", "other", "great", "small"]
theorem sc_carry_version : FnScope N_carry_version P_carry_version (defScope s_carry_version) := ⟨rfl, rfl, rfl, by decide +kernel, rfl, by decide +kernel, by decide +kernel⟩
def optV : Option Int → V
  | none => .non
  | some i => .int i
def spCarry (K : PySem.W.Frag) : Sp := fun vs H Q _ => ∃ (a b : Addr) (k l : List Int) (c d : Nat), vs = [.ref a, .ref b, .int c, .int d] ∧ Sq K H a (k.map V.int) ∧ Sq K H b (l.map V.int) ∧ k.length = l.length ∧ c < k.length ∧ d < k.length ∧
  Q (optV (carryV k l c d)) H
theorem ok_carry {f : Addr} {fd : FuncData} (F : Fun K "carry_version" "carry_version" s_carry_version f fd) : FnOk P w K mg base CX0 1 f fd P_carry_version (spCarry K) := by
  refine F.ok sc_carry_version (fun vs H Q E h => ?_) (fun cdv A outer s H vs Q E hr h => ?_)
  · obtain ⟨a, b, k, l, c, d, rfl, _⟩ := h
    rfl
  · obtain ⟨a, b, k, l, c, d, rfl, ha, hb, hl, hc, hd, q⟩ := h
    refine ⟨_, (pss_cons (ps_if (pt_cmpR op_eq (pe_ix ix_any (pv 0) (pv 3) (fun _ _ => rfl)) (pe_ix ix_any (pv 1) (pv 3) (fun _ _ => rfl)) (nomark _)) 
          (pss_one (ps_ret pe_non)) pss_nil)
      (pss_cons (ps_if (pt_cmpR op_gt (pe_ix ix_any (pv 0) (pv 2) (fun _ _ => rfl)) (pe_ix ix_any (pv 0) (pv 3) (fun _ _ => rfl)) (nomark _)) 
          (pss_one (ps_ret (pe_op op_add (pe_ix ix_any (pv 0) (pv 3) (fun _ _ => rfl)) pe_int))) pss_nil)
      (pss_cons (ps_if (pt_cmpR op_gt (pe_ix ix_any (pv 1) (pv 3) (fun _ _ => rfl)) (pe_ix ix_any (pv 1) (pv 2) (fun _ _ => rfl)) (nomark _)) 
          (pss_one (ps_ret (pe_ix ix_any (pv 1) (pv 3) (fun _ _ => rfl)))) pss_nil)
      (pss_one (ps_ret pe_non))))), ?_⟩
    have hd2 : d < l.length := by omega
    have hc2 : c < l.length := by omega
    unfold carryV at q
    refine ⟨_, rfl, _, rfl, a, _, _, _, rfl, rfl, ha, at_int rfl hd, _, rfl, _, rfl, b, _, _, _, rfl, rfl, hb, at_int rfl hd2, rfl, _, rfl, ?_⟩
    refine ite2 (fun e => ?_) (fun e => ?_)
    · rw [if_pos (V.int.inj (of_decide_eq_true e))] at q
      exact q
    rw [if_neg (fun z => e (decide_eq_true (congrArg V.int z)))] at q
    refine ⟨_, rfl, _, rfl, a, _, _, _, rfl, rfl, ha, at_int rfl hc, _, rfl, _, rfl, a, _, _, _, rfl, rfl, ha, at_int rfl hd, _, _, rfl, rfl, _, rfl, ?_⟩
    refine ite2 (fun e2 => ?_) (fun e2 => ?_)
    · rw [if_pos (of_decide_eq_true e2)] at q
      exact ⟨_, rfl, _, rfl, a, _, _, _, rfl, rfl, ha, at_int rfl hd, _, _, rfl, rfl, q⟩
    rw [if_neg (fun z => e2 (decide_eq_true z))] at q
    refine ⟨_, rfl, _, rfl, b, _, _, _, rfl, rfl, hb, at_int rfl hd2, _, rfl, _, rfl, b, _, _, _, rfl, rfl, hb, at_int rfl hc2, _, _, rfl, rfl, _, rfl, ?_⟩
    refine ite2 (fun e3 => ?_) (fun e3 => ?_)
    · rw [if_pos (of_decide_eq_true e3)] at q
      exact ⟨_, rfl, _, rfl, b, _, _, _, rfl, rfl, hb, at_int rfl hd2, q⟩
    rw [if_neg (fun z => e3 (decide_eq_true z))] at q
    exact q
abbrev s_fault : Stmt := topS 6
abbrev N_fault : List Str := ["one", "other", "cell", "small", "great", "version"]
abbrev P_fault : List Str := ["one", "other"]
theorem sc_fault : FnScope N_fault P_fault (defScope s_fault) := ⟨rfl, rfl, rfl, by decide +kernel, rfl, by decide +kernel, by decide +kernel⟩
def spFault (K : PySem.W.Frag) : Sp := fun vs H Q _ => ∃ (a b : Addr) (k l : List Int), vs = [.ref a, .ref b] ∧ Sq K H a (k.map V.int) ∧ Sq K H b (l.map V.int) ∧ k.length = l.length ∧ k.length ≤ 1000 ∧
  (faultV k l = none → ∀ H', Same H H' → Q .non H') ∧
  (∀ cs p, faultV k l = some (cs, p) → ∀ H' t q, Same H H' → H' t = some (.tup [.ref q, .int p]) → H' q = some (.tup (cs.map V.int)) → Q (.ref t) H')
theorem ok_fault {f : Addr} {fd : FuncData} (F : Fun K "fault" "fault" s_fault f fd) (B : Bi mg) (C_carry_version : Cal P w K mg base CX0 1 "carry_version" P_carry_version (spCarry K)) : FnOk P w K mg base CX0 2 f fd P_fault (spFault K) := by
  refine F.ok sc_fault (fun vs H Q E h => ?_) (fun cdv A outer s H vs Q E hr h => ?_)
  · obtain ⟨a, b, k, l, rfl, _⟩ := h
    rfl
  · obtain ⟨a, b, k, l, rfl, ha, hb, hl, h1000, q0, q1⟩ := h
    refine ⟨_, (pss_cons (ps_for PassesOwn.never rfl (pi_range1 (by rfl) B.b_range (pa_cons (pe_callB call_len_seq (by rfl) B.b_len PySem.boot_len (pa_cons (pv 0) pa_nil)) pa_nil)) (pg_name (i := 2) sc_fault.nd rfl (.inl rfl)) 
          (pss_one (ps_if (pt_cmpR op_gt (pe_ix ix_any (pv 0) (pv 2) (fun _ _ => rfl)) (pe_ix ix_any (pv 1) (pv 2) (fun _ _ => rfl)) (nomark _)) 
              (pss_one (ps_ret (pe_tup (pa_cons (pe_tup (pa_cons (pv 2) pa_nil)) (pa_cons (pe_ix ix_any (pv 0) (pv 2) (fun _ _ => rfl)) pa_nil))))) pss_nil)))
      (pss_cons (ps_for PassesOwn.never rfl (pi_range1 (by rfl) B.b_range (pa_cons (pe_callB call_len_seq (by rfl) B.b_len PySem.boot_len (pa_cons (pv 0) pa_nil)) pa_nil)) (pg_name (i := 3) sc_fault.nd rfl (.inl rfl)) 
          (pss_one (ps_for PassesOwn.never rfl (pi_range1 (by rfl) B.b_range (pa_cons (pv 3) pa_nil)) (pg_name (i := 4) sc_fault.nd rfl (.inl rfl)) 
              (pss_cons (ps_set (i := 5) sc_fault.nd rfl (.inl rfl) (pe_cal C_carry_version (hr.mono (by decide)) (by rfl) pass0 (pa_cons (pv 0) (pa_cons (pv 1) (pa_cons (pv 4) (pa_cons (pv 3) pa_nil))))))
              (pss_one (ps_if (pt_cmpR op_notN (pv 5) pe_non (nomark _)) 
                  (pss_one (ps_ret (pe_tup (pa_cons (pe_tup (pa_cons (pv 4) (pa_cons (pv 3) pa_nil))) (pa_cons (pv 5) pa_nil))))) pss_nil))))))
      (pss_one (ps_ret pe_non)))), ?_⟩
    refine ⟨_, rfl, a, _, rfl, ha, _, rfl, by omega, by rw [List.length_map]; omega, for_range (lo := 0) (n := (k.map V.int).length) (fun i σ H' => ∃ v, σ = [some (.ref a), some (.ref b), v, none, none, none] ∧ H = H' ∧ stepV k l i = none) ⟨none, rfl, rfl, rfl⟩ ?_ ?_⟩
    · rintro i σ H' hi ⟨v, rfl, rfl, hs⟩
      rw [List.length_map] at hi
      have hi2 : i < l.length := by omega
      refine ⟨_, rfl, _, rfl, a, _, _, _, rfl, rfl, ha, at_int (by omega) hi, _, rfl, _, rfl, b, _, _, _, rfl, rfl, hb, at_int (by omega) hi2, _, _, rfl, rfl, _, rfl, ?_⟩
      refine ite2 (fun e => ?_) (fun e => ?_)
      · have e' := of_decide_eq_true e
        have hf : faultV k l = some ([(i : Int)], k.getD i 0) := by
          have h1 : stepV k l k.length = some ([(i : Int)], k.getD i 0) := range_some_first _ i hi hs (if_pos e')
          unfold faultV
          rw [h1]
        refine ⟨_, rfl, Nat.le_trans (by decide : 1 ≤ 1000) (by decide), fun p np => ?_⟩
        refine ⟨_, rfl, _, rfl, a, _, _, _, rfl, rfl, ha.same (same_new np), at_int (by omega) hi, by show 2 ≤ sizeLine; decide, fun r nr => ?_⟩
        refine q1 _ _ hf _ r p ((same_new np).trans (same_new nr)) upd_same ?_
        rw [upd_ne (ne_of_none upd_same nr), upd_same]
        show some (HO.tup [V.int (0 + (i : Int))]) = _
        rw [Int.zero_add]
        rfl
      · refine ⟨_, rfl, rfl, ?_⟩
        show stepV k l (i + 1) = none
        unfold stepV at hs ⊢
        rw [range_some, hs, if_neg (fun z => e (decide_eq_true z))]
        rfl
    · rintro σ H' ⟨v, rfl, rfl, hs⟩
      rw [List.length_map] at hs
      have hfc : faultV k l = carriesV k l k.length := by
        unfold faultV
        rw [hs]
      refine ⟨_, rfl, a, _, rfl, ha, _, rfl, by omega, by rw [List.length_map]; omega, for_range (lo := 0) (n := (k.map V.int).length) (fun i σ H' => ∃ v1 v2 v3, σ = [some (.ref a), some (.ref b), v, v1, v2, v3] ∧ H = H' ∧ carriesV k l i = none) ⟨none, none, none, rfl, rfl, rfl⟩ ?_ ?_⟩
      · rintro i σ H' hi ⟨v1, v2, v3, rfl, rfl, hc⟩
        rw [List.length_map] at hi
        refine ⟨_, rfl, _, rfl, by omega, by omega, for_range (lo := 0) (n := ((0 : Int) + (i : Int)).toNat) (fun j σ H' => ∃ v2 v3, σ = [some (.ref a), some (.ref b), v, some (.int (0 + (i : Int))), v2, v3] ∧ H = H' ∧ pairV k l i j = none) ⟨v2, v3, rfl, rfl, rfl⟩ ?_ ?_⟩
        · rintro j σ H' hj ⟨v2, v3, rfl, rfl, hp⟩
          have hj2 : j < i := by omega
          refine ⟨_, rfl, _, rfl, _, rfl, _, rfl, a, b, k, l, j, i, by simp, ha, hb, hl, by omega, hi, ?_⟩
          cases hv : carryV k l j i with
          | none =>
            refine ⟨_, rfl, rfl, _, rfl, ?_⟩
            refine iteF ?_
            refine ⟨_, _, rfl, rfl, ?_⟩
            show pairV k l i (j + 1) = none
            unfold pairV at hp ⊢
            rw [range_some, hp, hv]
            rfl
          | some p =>
            have hpi : pairV k l i i = some ([(j : Int), (i : Int)], p) := range_some_first _ j hj2 hp (by rw [hv]; rfl)
            have hci : carriesV k l k.length = some ([(j : Int), (i : Int)], p) := range_some_first _ i hi hc hpi
            refine ⟨_, rfl, rfl, _, rfl, ?_⟩
            refine iteT ?_
            refine ⟨_, rfl, _, rfl, by show 2 ≤ sizeLine; decide, fun t nt => ?_⟩
            refine ⟨_, rfl, by show 2 ≤ sizeLine; decide, fun r nr => ?_⟩
            refine q1 _ _ (hfc.trans hci) _ r t ((same_new nt).trans (same_new nr)) upd_same ?_
            rw [upd_ne (ne_of_none upd_same nr), upd_same]
            show some (HO.tup [V.int (0 + (j : Int)), V.int (0 + (i : Int))]) = _
            rw [Int.zero_add, Int.zero_add]
            rfl
        · rintro σ H' ⟨v2, v3, rfl, rfl, hp⟩
          refine ⟨_, _, _, rfl, rfl, ?_⟩
          rw [show ((0 : Int) + (i : Int)).toNat = i by omega] at hp
          show carriesV k l (i + 1) = none
          unfold carriesV at hc ⊢
          rw [range_some, hc, hp]
          rfl
      · rintro σ H' ⟨v1, v2, v3, rfl, rfl, hc⟩
        rw [List.length_map] at hc
        exact q0 (hfc.trans hc) _ (Same.refl _)
abbrev s_check_lengths : Stmt := topS 5
abbrev N_check_lengths : List Str := ["one", "other"]
abbrev P_check_lengths : List Str := ["one", "other"]
theorem sc_check_lengths : FnScope N_check_lengths P_check_lengths (defScope s_check_lengths) := ⟨rfl, rfl, rfl, by decide +kernel, rfl, by decide +kernel, by decide +kernel⟩
def spCheck (K : PySem.W.Frag) (cV : Addr) : Sp := fun vs H Q E => ∃ (a b : Addr) (k l : List V), vs = [.ref a, .ref b] ∧ Sq K H a k ∧ Sq K H b l ∧
  (k.length = l.length ∧ k ≠ [] → Q .non H) ∧ (¬ (k.length = l.length ∧ k ≠ []) → E (.ref cV) none H)
theorem ok_check {f cV : Addr} {fd : FuncData} (F : Fun K "check_lengths" "check_lengths" s_check_lengths f fd) (B : Bi mg) (E_BadVersions : Ec K mg "BadVersions" cV) : FnOk P w K mg base (L2.CX P w) 1 f fd P_check_lengths (spCheck K cV) := by
  refine F.okX sc_check_lengths (fun vs H Q E h => ?_) (fun cdv A outer s H vs Q E hr h => ?_)
  · obtain ⟨a, b, k, l, rfl, _⟩ := h
    rfl
  · obtain ⟨a, b, k, l, rfl, ha, hb, q, qe⟩ := h
    refine ⟨_, (pss_one (ps_if (PW.pt (pw_or (pt_cmpR op_ne (pe_callB call_len_seq (by rfl) B.b_len PySem.boot_len (pa_cons (pv 0) pa_nil)) (pe_callB call_len_seq (by rfl) B.b_len PySem.boot_len (pa_cons (pv 1) pa_nil)) (nomark _)) (pw_or1 (pt_cmpR op_eq (pe_callB call_len_seq (by rfl) B.b_len PySem.boot_len (pa_cons (pv 0) pa_nil)) pe_int (nomark _))))) 
          (pss_one (ps_raise rfl (takes_of rfl rfl rfl rfl) (pmk_own0 PySem.F.excBase_ValueError E_BadVersions.xC E_BadVersions.gC E_BadVersions.kC (raises_own E_BadVersions.bC E_BadVersions.tC) (by rfl)))) pss_nil)), ?_⟩
    refine ⟨_, rfl, a, _, rfl, ha, _, rfl, b, _, rfl, hb, rfl, _, rfl, ?_⟩
    refine iteB (fun e => ?_) (fun e => ?_)
    · have hne : ¬ k.length = l.length := fun z => by
        rw [z] at e
        simp at e
      exact qe fun z => hne z.1
    · have heq : k.length = l.length := by
        have e' : decide (V.int (k.length : Int) = V.int (l.length : Int)) = true := by simpa using e
        have := V.int.inj (of_decide_eq_true e')
        omega
      refine ⟨_, rfl, a, _, rfl, ha, rfl, _, rfl, ?_⟩
      refine ite2 (fun e2 => ?_) (fun e2 => ?_)
      · have h0 := V.int.inj (of_decide_eq_true e2)
        exact qe fun z => z.2 (List.eq_nil_of_length_eq_zero (by omega))
      · exact q ⟨heq, fun z => e2 (by subst z; rfl)⟩
abbrev s_is_at_most : Stmt := topS 4
abbrev N_is_at_most : List Str := ["one", "other"]
abbrev P_is_at_most : List Str := ["one", "other"]
theorem sc_is_at_most : FnScope N_is_at_most P_is_at_most (defScope s_is_at_most) := ⟨rfl, rfl, rfl, by decide +kernel, rfl, by decide +kernel, by decide +kernel⟩
def spAtMost (K : PySem.W.Frag) (cV : Addr) : Sp := fun vs H Q E => ∃ (a b : Addr) (k l : List Int), vs = [.ref a, .ref b] ∧ Sq K H a (k.map V.int) ∧ Sq K H b (l.map V.int) ∧ k.length ≤ 1000 ∧
  (k.length = l.length ∧ k ≠ [] → ∀ H', Same H H' → Q (.bl (faultV k l).isNone) H') ∧ (¬ (k.length = l.length ∧ k ≠ []) → E (.ref cV) none H)
theorem ok_atmost {f cV : Addr} {fd : FuncData} (F : Fun K "is_at_most" "is_at_most" s_is_at_most f fd) (B : Bi mg) (C_check_lengths : Cal P w K mg base (L2.CX P w) 1 "check_lengths" P_check_lengths (spCheck K cV))
    (C_fault : Cal P w K mg base CX0 2 "fault" P_fault (spFault K)) : FnOk P w K mg base (L2.CX P w) 3 f fd P_is_at_most (spAtMost K cV) := by
  refine F.okX sc_is_at_most (fun vs H Q E h => ?_) (fun cdv A outer s H vs Q E hr h => ?_)
  · obtain ⟨a, b, k, l, rfl, _⟩ := h
    rfl
  · obtain ⟨a, b, k, l, rfl, ha, hb, h1000, q, qe⟩ := h
    refine ⟨_, (pss_cons (ps_expr (pe_cal C_check_lengths (hr.mono (by decide)) (by rfl) (passes_call (takes_of rfl rfl rfl rfl) (fun _ _ _ _ h => h)) (pa_cons (pv 0) (pa_cons (pv 1) pa_nil))))
      (pss_one (ps_ret (pe_cmpR op_isN (pe_cal C_fault (hr.mono (by decide)) (by rfl) pass0 (pa_cons (pv 0) (pa_cons (pv 1) pa_nil))) pe_non (nomark _))))), ?_⟩
    refine ⟨_, rfl, _, rfl, a, b, _, _, rfl, ha, hb, fun hk => ?_, fun hk => ?_⟩
    · rw [List.length_map, List.length_map] at hk
      have hk2 : k ≠ [] := fun z => hk.2 (by rw [z]; rfl)
      refine ⟨_, rfl, _, rfl, a, b, k, l, rfl, ha, hb, hk.1, h1000, fun h0 H' s1 => ?_, fun cs p h0 H' t r s1 e1 e2 => ?_⟩
      · refine ⟨rfl, ?_⟩
        have q' := q ⟨hk.1, hk2⟩ H' s1
        rw [h0] at q'
        exact q'
      · refine ⟨rfl, ?_⟩
        have q' := q ⟨hk.1, hk2⟩ H' s1
        rw [h0] at q'
        exact q'
    · refine qe fun z => hk ?_
      rw [List.length_map, List.length_map]
      exact ⟨z.1, fun y => z.2 (List.map_eq_nil_iff.mp y)⟩
abbrev s_begun_pen : Stmt := topS 9
abbrev N_begun_pen : List Str := ["script"]
abbrev P_begun_pen : List Str := ["script"]
theorem sc_begun_pen : FnScope N_begun_pen P_begun_pen (defScope s_begun_pen) := ⟨rfl, rfl, rfl, by decide +kernel, rfl, by decide +kernel, by decide +kernel⟩
def spBegun (K : PySem.W.Frag) : Sp := fun vs H Q _ => ∃ (a : Addr) (ns : List Int), vs = [.ref a] ∧ SqL K H a (ns.map V.int) ∧ ns.length ≤ 63 ∧ ∀ H' p, Same H H' → H p = none → ∀ c, Pen H' p c 0 → Q (.ref p) H'
theorem ok_begun {f : Addr} {fd : FuncData} (F : Fun K "_law_begun_pen" "_law_begun_pen" s_begun_pen f fd) (B : Bi mg) : FnOk P w K mg base CX0 1 f fd P_begun_pen (spBegun K) := by
  refine F.ok sc_begun_pen (fun vs H Q E h => ?_) (fun cdv A outer s H vs Q E hr h => ?_)
  · obtain ⟨a, ns, rfl, _⟩ := h
    rfl
  · obtain ⟨a, ns, rfl, ha, h63, q⟩ := h
    refine ⟨_, (pss_one (ps_ret (pe_disp (pps_cons pe_str (pe_callTy call_list_of (by rfl) B.b_list (by decide +kernel) (pa_cons (pe_slice sl_list (pv 0) po_none (po_some pe_int)) pa_nil)) (pps_cons pe_str pe_int (pps_cons pe_str pe_int pps_nil))) (by rfl) (by rfl) (fun z => by cases z) (by decide)))), ?_⟩
    intro p np
    have s1 : Same H (upd H p (.dK [])) := same_new np
    refine ⟨_, rfl, 63, rfl, a, _, rfl, s1.seq ha, fun c nc => ?_⟩
    have s2 : Same (upd H p (.dK [])) (upd (upd H p (.dK [])) c (.lst (cutV (ns.map V.int) none (some 63)))) := same_new nc
    refine ⟨c, _, rfl, .inl (sqL upd_same), fun d nd => ?_⟩
    have s3 := same_new (o := .lst (cutV (ns.map V.int) none (some 63))) nd
    have hp := s3 _ _ (s2 _ _ (upd_same (H := H) (a := p) (o := .dK [])))
    refine ⟨hp, penL d 0 0, rfl, by show 3 ≤ 15; decide, ?_⟩
    have hne : d ≠ p := fun z => by
      subst z
      rw [s2 _ _ (upd_same (H := H) (a := d) (o := .dK []))] at nd
      cases nd
    refine q _ p (fun b o hb => ?_) np d ⟨ns, 0, 0, ?_, ?_, Int.le_refl _, Int.le_refl _, Int.le_refl _, h63⟩
    · rw [upd_ne (ne_of_none hb np)]
      exact s3 _ _ (s2 _ _ (s1 _ _ hb))
    · rw [upd_same]
      rfl
    · rw [upd_ne hne, upd_same, show (63 : Int) = ((63 : Nat) : Int) from rfl, cut_to, List.take_of_length_le (by rw [List.length_map]; exact h63)]
abbrev s_row : Stmt := topS 11
abbrev N_row : List Str := ["values", "versions", "i"]
abbrev P_row : List Str := ["values", "versions"]
theorem sc_row : FnScope N_row P_row (defScope s_row) := ⟨rfl, rfl, rfl, by decide +kernel, rfl, by decide +kernel, by decide +kernel⟩
def spRow (K : PySem.W.Frag) : Sp := fun vs H Q _ => ∃ (a b : Addr) (vals : List V) (rows : List (List Int)) (k : List Int) (m : Nat), vs = [.ref a, .ref b] ∧ SqL K H a vals ∧ Paired (RowAt K H) vals rows ∧ Sq K H b (k.map V.int) ∧
  k.length ≤ 1000 ∧ InV k m ∧ rows.length = m + 1 ∧ (∀ r ∈ rows, k.length ≤ r.length) ∧ ∀ H' p, Same H H' → H p = none → H' p = some (.tup ((rowV rows k).map V.int)) → Q (.ref p) H'
theorem ok_row {f : Addr} {fd : FuncData} (F : Fun K "_law_row" "_law_row" s_row f fd) (B : Bi mg) : FnOk P w K mg base CX0 1 f fd P_row (spRow K) := by
  refine F.ok sc_row (fun vs H Q E h => ?_) (fun cdv A outer s H vs Q E hr h => ?_)
  · obtain ⟨a, b, vals, rows, k, m, rfl, _⟩ := h
    rfl
  · obtain ⟨a, b, vals, rows, k, m, rfl, ha, hv, hb, h1000, hk, hm, hrl, q⟩ := h
    refine ⟨_, (pss_one (ps_ret (pe_callTy call_tuple_of (by rfl) B.b_tuple (by decide +kernel) (pa_cons (pe_lc (own := [("i", 2)]) (g := gName 2) (by rfl) sc_row.nd (pi_range1 (by rfl) B.b_range (pa_cons (pe_callB call_len_seq (by rfl) B.b_len PySem.boot_len (pa_cons (pv 1) pa_nil)) pa_nil)) (blkOk_by (own := [("i", 2)]) (N := N_row) (sc := (defScope s_row)) (by decide +kernel)) (fun _ _ _ _ _ => (pg_name (i := 2) sc_row.nd rfl (.inl rfl))) (fun _ _ _ _ _ => pts_nil) (fun _ _ _ _ _ => (pe_ix (k_ix_tup (K := K) rfl) (pe_ix (k_ix_list (K := K) rfl) (pv 0) (pe_ix (k_ix_any (K := K) rfl) (pv 1) (pv 2) (fun _ _ => rfl)) (fun _ _ => rfl)) (pv 2) (fun _ _ => rfl)))) pa_nil)))), ?_⟩
    refine ⟨_, rfl, b, _, rfl, hb, _, rfl, by omega, by rw [List.length_map]; omega, fun D nD => lc_range (lo := 0) (n := (k.map V.int).length) (fun i H' => Same H H' ∧ H' D = some (.lst (((List.range i).map fun i => (rows.getD (k.getD i 0).toNat []).getD i 0).map V.int))) ⟨same_new nD, upd_same⟩ ?_ ?_⟩
    · rintro i H' hi ⟨s1, hD⟩
      rw [List.length_map] at hi
      have h1 := hk.lo i
      have h2 := hk.hi i
      have hlt : (k.getD i 0).toNat < rows.length := by omega
      obtain ⟨x, hx, r, ex, hr2⟩ := pd_get' hv (List.getElem?_eq_getElem hlt)
      subst ex
      have hrl2 := hrl _ (List.getElem_mem hlt)
      have eg : rows.getD (k.getD i 0).toNat [] = rows[(k.getD i 0).toNat] := by
        rw [List.getD_eq_getElem?_getD, List.getElem?_eq_getElem hlt]
        rfl
      refine ⟨rfl, _, rfl, _, rfl, _, rfl, b, _, _, _, rfl, rfl, hb.same s1, at_int (by omega) hi, a, _, _, _, rfl, rfl, s1.seq ha, at_of (j := (k.getD i 0).toNat) (by omega) hx, _, rfl, r, _, _, _, rfl, rfl, same_t s1 hr2, at_int (j := i) (by omega) (by omega), ?_⟩
      refine ⟨_, hD, by rw [List.length_map, List.length_map, List.length_range]; exact small1000 (by omega), fun c o e => ?_, ?_⟩
      · rw [upd_ne (ne_of_none e nD)]
        exact s1 c o e
      · rw [upd_same, List.range_succ, List.map_append, List.map_append, ← eg]
        rfl
    · rintro H' ⟨s1, hD⟩
      rw [List.length_map] at hD
      refine ⟨D, _, rfl, .inl ⟨sqL hD, fun p np => ?_⟩⟩
      exact q _ p (s1.trans (same_new np)) (s1.free np) upd_same
abbrev s_number : Stmt := topS 12
abbrev N_number : List Str := ["row", "found", "digit"]
abbrev P_number : List Str := ["row"]
theorem sc_number : FnScope N_number P_number (defScope s_number) := ⟨rfl, rfl, rfl, by decide +kernel, rfl, by decide +kernel, by decide +kernel⟩
def spNumber (K : PySem.W.Frag) : Sp := fun vs H Q _ => ∃ (a : Addr) (r : List Int) (n : Nat), vs = [.ref a] ∧ SqT K H a (r.map V.int) ∧ IsBits n r ∧ n ≤ 60 ∧ Q (.int (numV r)) H
theorem ok_number {f : Addr} {fd : FuncData} (F : Fun K "_law_number" "_law_number" s_number f fd) : FnOk P w K mg base CX0 1 f fd P_number (spNumber K) := by
  refine F.ok sc_number (fun vs H Q E h => ?_) (fun cdv A outer s H vs Q E hr h => ?_)
  · obtain ⟨a, r, n, rfl, _⟩ := h
    rfl
  · obtain ⟨a, r, n, rfl, ha, hb, hn, q⟩ := h
    refine ⟨_, (pss_cons (ps_set (i := 1) sc_number.nd rfl (.inl rfl) pe_int)
      (pss_cons (ps_for PassesOwn.never rfl (pi_tup (pv 0)) (pg_name (i := 2) sc_number.nd rfl (.inl rfl)) 
          (pss_one (ps_set (i := 1) sc_number.nd rfl (.inl rfl) (pe_op op_add (pe_op op_mulW pe_int (pv 1)) (pv 2)))))
      (pss_one (ps_ret (pv 1))))), ?_⟩
    refine ⟨_, rfl, a, rfl, ⟨_, ha⟩, for_tup (K := K) (a := a) (xs := r.map V.int) (fun i σ H' => ∃ v, σ = [some (.ref a), some (.int (numV (r.take i))), v] ∧ H = H') ⟨none, rfl, rfl⟩ (fun i σ H' _ hP => ?_) ?_ ?_⟩
    · obtain ⟨v, rfl, rfl⟩ := hP
      exact ha
    · rintro i x σ H' hx ⟨v, rfl, rfl⟩
      have hi : i < r.length := by
        have := (List.getElem?_eq_some_iff.mp hx).1
        rwa [List.length_map] at this
      have ex : x = .int (r.getD i 0) := by
        rw [List.getElem?_map, List.getElem?_eq_getElem hi] at hx
        rw [List.getD_eq_getElem?_getD, List.getElem?_eq_getElem hi]
        exact (Option.some.inj hx).symm
      subst ex
      obtain ⟨b1, b2⟩ := num_bound hb i (by rw [← hb.1]; omega)
      refine ⟨_, rfl, _, _, rfl, rfl, wide_mul (a := 2) (b := 60) (by decide) (pow60 (by have := hb.1; omega) b1 b2) (by decide) (by decide) (by decide), _, rfl, _, _, rfl, rfl, ?_⟩
      refine ⟨some (.int (r.getD i 0)), ?_, rfl⟩
      rw [take_snoc r i hi, numV_snoc]
      rfl
    · rintro σ H' ⟨v, rfl, rfl⟩
      rw [List.length_map, List.take_length]
      exact ⟨_, rfl, q⟩
abbrev s_rows : Stmt := topS 13
abbrev N_rows : List Str := ["cells", "found", "k", "longer", "row"]
abbrev P_rows : List Str := ["cells"]
theorem sc_rows : FnScope N_rows P_rows (defScope s_rows) := ⟨rfl, rfl, rfl, by decide +kernel, rfl, by decide +kernel, by decide +kernel⟩
def spRows (K : PySem.W.Frag) : Sp := fun vs H Q _ => ∃ (n : Nat), vs = [.int n] ∧ n ≤ 3 ∧ ∀ H' p vals, Same H H' → H p = none → H' p = some (.lst vals) → Paired (RowAt K H') vals (rowsV n) → Q (.ref p) H'
theorem ok_rows {f : Addr} {fd : FuncData} (F : Fun K "_law_rows" "_law_rows" s_rows f fd) (B : Bi mg) : FnOk P w K mg base CX0 1 f fd P_rows (spRows K) := by
  refine F.ok sc_rows (fun vs H Q E h => ?_) (fun cdv A outer s H vs Q E hr h => ?_)
  · obtain ⟨n, rfl, _⟩ := h
    rfl
  · obtain ⟨n, rfl, hn, q⟩ := h
    refine ⟨_, (pss_cons (ps_set (i := 1) sc_rows.nd rfl (.inl rfl) (pe_lst (pa_cons (pe_tup pa_nil) pa_nil)))
      (pss_cons (ps_for PassesOwn.never rfl (pi_range1 (by rfl) B.b_range (pa_cons (pv 0) pa_nil)) (pg_name (i := 2) sc_rows.nd rfl (.inl rfl)) 
          (pss_cons (ps_set (i := 3) sc_rows.nd rfl (.inl rfl) (pe_lst pa_nil))
          (pss_cons (ps_for PassesOwn.never rfl (pi_list (pv 1)) (pg_name (i := 4) sc_rows.nd rfl (.inl rfl)) 
              (pss_one (ps_set (i := 3) sc_rows.nd rfl (.inl rfl) (pe_op op_cat (pv 3) (pe_lst (pa_cons (pe_op op_catS (pv 4) (pe_tup (pa_cons pe_int pa_nil))) (pa_cons (pe_op op_catS (pv 4) (pe_tup (pa_cons pe_int pa_nil))) pa_nil)))))))
          (pss_one (ps_set (i := 1) sc_rows.nd rfl (.inl rfl) (pv 3))))))
      (pss_one (ps_ret (pv 1))))), ?_⟩
    refine ⟨Nat.zero_le _, fun t nt => ?_⟩
    refine ⟨by show 1 ≤ sizeLine; decide, fun p np => ?_⟩
    have s0 := (same_new (o := .tup []) nt).trans (same_new (o := .lst [.ref t]) np)
    have hp0 : RowAt K (upd (upd H t (.tup [])) p (.lst [.ref t])) (.ref t) [] := ⟨t, rfl, sqT ((same_new np) _ _ upd_same)⟩
    refine ⟨_, rfl, _, rfl, by omega, by omega, for_range (lo := 0) (n := n) (fun i σ H' => ∃ pf vals v1 v2 v3, σ = [some (.int n), some (.ref pf), v1, v2, v3] ∧ Same H H' ∧ H pf = none ∧ H' pf = some (.lst vals) ∧ Paired (RowAt K H') vals (rowsV i)) ⟨p, [.ref t], none, none, none, rfl, s0, (same_new nt).free np, upd_same, .cons hp0 .nil⟩ ?_ ?_⟩
    · rintro i σ H1 hi ⟨pf, vals, v1, v2, v3, rfl, s1, nf, hf, hv⟩
      have li : (rowsV i).length ≤ 8 := by
        rw [rowsV_len]
        exact Nat.pow_le_pow_right (n := 2) (j := 3) (by decide) (by omega)
      have lv := pd_length hv
      refine ⟨Nat.zero_le _, fun pl nl => ?_⟩
      have s2 := same_new (o := .lst []) nl
      refine ⟨_, rfl, pf, rfl, ⟨_, sqL (s2 _ _ hf)⟩, for_list (K := K) (a := pf) (xs := vals) (fun j σ H' => ∃ pl' vals' v3, σ = [some (.int n), some (.ref pf), some (.int (0 + (i : Int))), some (.ref pl'), v3] ∧ Same H1 H' ∧ H pl' = none ∧ H' pl' = some (.lst vals') ∧ Paired (RowAt K H') vals' (((rowsV i).take j).flatMap fun r => [r ++ [0], r ++ [1]]))
        ⟨pl, [], v3, rfl, s2, s1.free nl, upd_same, .nil⟩ (fun j σ H' _ hP => ?_) ?_ ?_⟩
      · obtain ⟨_, _, _, _, s3, _⟩ := hP
        exact sqL (s3 _ _ hf)
      · rintro j x σ H2 hx ⟨pl', vals', v3, rfl, s3, n3, hl3, hv3⟩
        obtain ⟨r, hr, a, ea, hra⟩ := pd_get hv hx
        subst ea
        have hj : j < vals.length := (List.getElem?_eq_some_iff.mp hx).1
        have hb : IsBits i r := (mem_rowsV i r).mp (List.mem_of_getElem? hr)
        refine ⟨_, rfl, _, rfl, by show 1 ≤ sizeLine; decide, fun t0 n0 => ?_⟩
        have s4 := same_new (o := .tup [.int 0]) n0
        refine ⟨a, t0, r.map V.int, [.int 0], rfl, rfl, same_t (s3.trans s4) hra, sqT upd_same, by rw [List.length_map, hb.1]; exact Nat.le_of_lt (small1000 (by show i + 1 ≤ 1000; omega)), fun u0 H4 s5 hu0 => ?_⟩
        refine ⟨_, rfl, by show 1 ≤ sizeLine; decide, fun t1 n1 => ?_⟩
        have s6 := same_new (o := .tup [.int 1]) n1
        have s36 := (s3.trans s4).trans (s5.trans s6)
        refine ⟨a, t1, r.map V.int, [.int 1], rfl, rfl, same_t s36 hra, sqT upd_same, by rw [List.length_map, hb.1]; exact Nat.le_of_lt (small1000 (by show i + 1 ≤ 1000; omega)), fun u1 H5 s7 hu1 => ?_⟩
        refine ⟨by show 2 ≤ sizeLine; decide, fun pd nd => ?_⟩
        have s8 := same_new (o := .lst [.ref u0, .ref u1]) nd
        have s28 : Same H2 (upd H5 pd (.lst [.ref u0, .ref u1])) := s4.trans (s5.trans (s6.trans (s7.trans s8)))
        have l3 : vals'.length ≤ 100 := by
          rw [pd_length hv3]
          have e : ∀ l : List (List Int), (l.flatMap fun r => [r ++ [(0 : Int)], r ++ [1]]).length = 2 * l.length := by
            intro l
            induction l with
            | nil => rfl
            | cons a t ih => rw [List.flatMap_cons, List.length_append, ih]; simp; omega
          rw [e, List.length_take]
          omega
        refine ⟨pl', pd, vals', _, rfl, rfl, s28 _ _ hl3, upd_same, Nat.le_of_lt (small1000 (by show vals'.length + 2 ≤ 1000; omega)), fun pe ne => ?_⟩
        have s9 := same_new (o := .lst (vals' ++ [.ref u0, .ref u1])) ne
        have s29 := s28.trans s9
        refine ⟨pe, _, _, rfl, s3.trans s29, (s1.trans (s3.trans s28)).free ne, upd_same, ?_⟩
        rw [flat_take _ _ _ _ hr]
        refine pd_app (rows_same s29 hv3) (.cons ⟨u0, rfl, ?_⟩ (.cons ⟨u1, rfl, ?_⟩ .nil))
        · rw [List.map_append]
          exact same_t (s6.trans (s7.trans (s8.trans s9))) hu0
        · rw [List.map_append]
          exact same_t (s8.trans s9) hu1
      · rintro σ H2 ⟨pl', vals', v3, rfl, s3, n3, hl3, hv3⟩
        rw [lv, List.take_length] at hv3
        exact ⟨_, rfl, pl', vals', _, _, _, rfl, s1.trans s3, n3, hl3, hv3⟩
    · rintro σ H' ⟨pf, vals, v1, v2, v3, rfl, s1, nf, hf, hv⟩
      exact ⟨_, rfl, q H' pf vals s1 nf hf hv⟩
end
end Dg
namespace Dg
open PySem PySem.Spec PyProof.Rows L2
local macro_rules | `(tactic| walk_at "rd1") => `(tactic| first | refine ⟨_, rfl, ?_⟩ | refine ⟨_, _, rfl, rfl, ?_⟩)
local macro_rules | `(tactic| walk_at "rd") => `(tactic| repeat walk_at "rd1")
section
variable {P : Program} {w : World} {K : PySem.W.Frag} {mg : Str → Option Value} {base : Heap}
abbrev s_risings : Stmt := topS 14
abbrev N_risings : List Str := ["cells", "many", "rows", "found", "k", "longer", "one", "first", "row"]
abbrev P_risings : List Str := ["cells", "many"]
theorem sc_risings : FnScope N_risings P_risings (defScope s_risings) := ⟨rfl, rfl, rfl, by decide +kernel, rfl, by decide +kernel, by decide +kernel⟩
def spRisings (K : PySem.W.Frag) : Sp := fun vs H Q _ => ∃ (n m : Nat), vs = [.int n, .int m] ∧ n ≤ 3 ∧ m ≤ 4 ∧ ∀ H' p vals, Same H H' → H p = none → H' p = some (.lst vals) → Paired (LAt K H') vals (risV (rowsV n) m) → Q (.ref p) H'
theorem Room_u65 {k : Nat} {A : Around} (r : Room k A) : A.units + 65 < cLine := by have := r.un; omega
theorem ok_risings {f : Addr} {fd : FuncData} (F : Fun K "_law_risings" "_law_risings" s_risings f fd) (B : Bi mg) (C_rows : Cal P w K mg base CX0 1 "_law_rows" P_rows (spRows K)) : FnOk P w K mg base CX0 2 f fd P_risings (spRisings K) := by
  refine F.ok sc_risings (fun vs H Q E h => ?_) (fun cdv A outer s H vs Q E hr h => ?_)
  · obtain ⟨n, m, rfl, _⟩ := h
    rfl
  · obtain ⟨n, m, rfl, hn, hm, q⟩ := h
    refine ⟨_, (pss_cons (ps_set (i := 2) sc_risings.nd rfl (.inl rfl) (pe_cal C_rows (hr.mono (by decide)) (by rfl) pass0 (pa_cons (pv 0) pa_nil)))
      (pss_cons (ps_set (i := 3) sc_risings.nd rfl (.inl rfl) (pe_lst (pa_cons (pe_lst pa_nil) pa_nil)))
      (pss_cons (ps_for PassesOwn.never rfl (pi_range1 (by rfl) B.b_range (pa_cons (pv 1) pa_nil)) (pg_name (i := 4) sc_risings.nd rfl (.inl rfl)) 
          (pss_cons (ps_set (i := 5) sc_risings.nd rfl (.inl rfl) (pe_lst pa_nil))
          (pss_cons (ps_for PassesOwn.never rfl (pi_list (pv 3)) (pg_name (i := 6) sc_risings.nd rfl (.inr rfl)) 
              (C8.pss_cut (ps_set (i := 7) sc_risings.nd rfl (.inl rfl) (pe_ifExp (pt_cmpR (op_neD hr.units) (pv 6) (pe_lst pa_nil) (nomark _)) (pe_bm PySem.F.plainAttrs_list PySem.F.slot_list_index PySem.F.type_list_index (mt_indexD (Room_u65 hr)) (pv 2) (pa_cons (pe_ix ix_list (pv 6) (pe_un un_neg pe_int) (fun _ _ => rfl)) pa_nil)) pe_int))
              (pss_one (ps_set (i := 5) sc_risings.nd rfl (.inl rfl) (pe_op op_cat (pv 5) (pe_lc (own := [("row", 8)]) (g := gName 8) (by rfl) sc_risings.nd (pi_list (pe_slice sl_list (pv 2) (po_some (pv 7)) po_none)) (blkOk_by (own := [("row", 8)]) (N := N_risings) (sc := (defScope s_risings)) (by decide +kernel)) (fun _ _ _ _ _ => (pg_name (i := 8) sc_risings.nd rfl (.inl rfl))) (fun _ _ _ _ _ => pts_nil) (fun _ _ _ _ _ => (pe_op op_cat (pv 6) (pe_lst (pa_cons (pv 8) pa_nil))))))))))
          (pss_one (ps_set (i := 3) sc_risings.nd rfl (.inl rfl) (pv 5))))))
      (pss_one (ps_ret (pv 3)))))), ?_⟩
    refine ⟨_, rfl, n, rfl, hn, fun H1 pr rvals s1 nr hr1 hrv => ?_⟩
    have lr : (rowsV n).length ≤ 8 := by
      rw [rowsV_len]
      exact Nat.pow_le_pow_right (n := 2) (j := 3) (by decide) hn
    refine ⟨Nat.zero_le _, fun t nt => ?_⟩
    refine ⟨by show 1 ≤ sizeLine; decide, fun p np => ?_⟩
    have s2 := s1.trans ((same_new (o := .lst []) nt).trans (same_new (o := .lst [.ref t]) np))
    have s12 : Same H1 _ := (same_new (o := .lst []) nt).trans (same_new (o := .lst [.ref t]) np)
    have hp0 : LAt K (upd (upd H1 t (.lst [])) p (.lst [.ref t])) (.ref t) [] := ⟨t, [], rfl, (same_new np) _ _ upd_same, .nil⟩
    refine ⟨_, rfl, _, rfl, by omega, by omega, for_range (lo := 0) (n := m) (fun i σ H' => ∃ pf vals v4 v5 v6 v7 v8, σ = [some (.int n), some (.int m), some (.ref pr), some (.ref pf), v4, v5, v6, v7, v8] ∧ Same H1 H' ∧ H1 pf = none ∧ H' pf = some (.lst vals) ∧ Paired (LAt K H') vals (risV (rowsV n) i))
      ⟨p, [.ref t], none, none, none, none, none, rfl, s12, (same_new nt).free np, upd_same, .cons hp0 .nil⟩ ?_ ?_⟩
    · rintro i σ H2 hi ⟨pf, vals, v4, v5, v6, v7, v8, rfl, s3, nf, hf, hv⟩
      have lv := pd_length hv
      have lris : (risV (rowsV n) i).length ≤ 8 ^ i := risV_len _ 8 lr i
      have p8 : 8 ^ (i + 1) ≤ 8 ^ 4 := Nat.pow_le_pow_right (by decide) (by omega)
      refine ⟨Nat.zero_le _, fun pl nl => ?_⟩
      have s4 := same_new (o := .lst []) nl
      refine ⟨_, rfl, pf, rfl, ⟨_, sqL (s4 _ _ hf)⟩, for_list (K := K) (a := pf) (xs := vals) (fun j σ H' => ∃ pl' vals' v6 v7 v8, σ = [some (.int n), some (.int m), some (.ref pr), some (.ref pf), some (.int (0 + (i : Int))), some (.ref pl'), v6, v7, v8] ∧ Same H2 H' ∧ H1 pl' = none ∧ H' pl' = some (.lst vals') ∧
          Paired (LAt K H') vals' (((risV (rowsV n) i).take j).flatMap fun one => ((rowsV n).drop (firstV (rowsV n) one)).map fun row => one ++ [row]))
        ⟨pl, [], v6, v7, v8, rfl, s4, s3.free nl, upd_same, .nil⟩ (fun j σ H' _ hP => ?_) ?_ ?_⟩
      · obtain ⟨_, _, _, _, _, _, s5, _⟩ := hP
        exact sqL (s5 _ _ hf)
      · rintro j x σ H3 hx ⟨pl', vals', v6, v7, v8, rfl, s5, n5, hl5, hv5⟩
        obtain ⟨one, hone, ho⟩ := pd_get hv hx
        have hmem : IsRis (rowsV n) i one := (mem_risV (rowsV_pw n) i one).mp (List.mem_of_getElem? hone)
        obtain ⟨ao, ovals, eo, hao, hov⟩ := LAt.same s5 ho
        subst eo
        have hao2 := hao
        have lo := pd_length hov
        refine ⟨fun σ' H' => σ' = [some (.int n), some (.int m), some (.ref pr), some (.ref pf), some (.int (0 + (i : Int))), some (.ref pl'), some (.ref ao), some (.int ((firstV (rowsV n) one : Nat) : Int)), v8] ∧ Same H3 H', ?_, ?_⟩
        · refine ⟨_, rfl, Nat.zero_le _, fun e ne => ?_⟩
          have s6 := same_new (o := .lst []) ne
          refine ⟨.list (one.map tupD), .list [], .lst (sqL (s6 _ _ hao)) (dp_rows (rows_same s6 hov)), .lst (sqL upd_same) .nil, okD_shaped (okD_list (okD_tups 0 one)) (by decide), rfl, _, rfl, ?_⟩
          rw [eqv_nil]
          cases hlast : one.getLast? with
          | none =>
            have e1 : one = [] := List.getLast?_eq_none_iff.mp hlast
            subst e1
            exact ⟨rfl, s6⟩
          | some r =>
            have hne : (one.map tupD).isEmpty = false := by
              cases one with
              | nil => cases hlast
              | cons a b => rfl
            rw [hne]
            refine iteT ?_
            have hlen : 0 < one.length := by
              cases one with
              | nil => cases hlast
              | cons a b => exact Nat.succ_pos _
            have hr2 : one[one.length - 1]? = some r := by
              rw [← List.getLast?_eq_getElem?]
              exact hlast
            obtain ⟨y, hy, hyr⟩ := pd_get' hov hr2
            have s56 := s5.trans s6
            have hrow : r ∈ rowsV n := hmem.mem r (List.mem_of_getLast? hlast)
            have hfi := find_at hrow
            refine ⟨_, rfl, .inl ⟨rfl, _, sqL (s56 _ _ (s3 _ _ hr1))⟩, ?_⟩
            refine ⟨_, rfl, 1, rfl, ao, ovals, -1, y, rfl, rfl, sqL (s6 _ _ hao), ?_, ?_⟩
            · rw [← lo] at hy hlen
              exact at_last' hy
            · refine ⟨pr, y, tupD r, (rowsV n).map tupD, firstV (rowsV n) one, tupD r, rfl, rfl, .lst (sqL (s56 _ _ (s3 _ _ hr1))) (dp_rows (rows_same (s3.trans s56) hrv)), dp_row (RowAt.same s6 hyr), okD_shaped (okD_list (okD_tups 0 _)) (by decide), okD_shaped (okD_tup 0 r) (by decide), ?_, ?_, fun m' z' hm' hz' => ?_, rfl, s6⟩
              · rw [first_last hlast, List.getElem?_map, hfi]
                rfl
              · exact (eqv_tints r r).trans (decide_eq_true rfl)
              · rw [first_last hlast] at hm'
                rw [List.getElem?_map] at hz'
                cases hrm : (rowsV n)[m']? with
                | none =>
                  rw [hrm] at hz'
                  cases hz'
                | some r' =>
                  rw [hrm] at hz'
                  have ez : tupD r' = z' := Option.some.inj hz'
                  subst ez
                  refine (eqv_tints r' r).trans (decide_eq_false fun e => ?_)
                  have hlt := (List.getElem?_eq_some_iff.mp hrm).1
                  have := List.not_of_lt_findIdx (p := fun x => decide (x = r)) hm'
                  rw [(List.getElem?_eq_some_iff.mp hrm).2] at this
                  simp [e] at this
        · rintro σ' H4 ⟨rfl, s6⟩
          have s56 := s5.trans s6
          refine ⟨_, rfl, _, rfl, _, rfl, _, rfl, pr, rvals, rfl, sqL (s56 _ _ (s3 _ _ hr1)), fun ps ns => ?_⟩
          have s7 := same_new (o := .lst (cutV rvals (some ((firstV (rowsV n) one : Nat) : Int)) none)) ns
          rw [cut_from] at s7 ⊢
          have hdv : Paired (RowAt K (upd H4 ps (.lst (rvals.drop (firstV (rowsV n) one))))) (rvals.drop (firstV (rowsV n) one)) ((rowsV n).drop (firstV (rowsV n) one)) := rows_same (s3.trans (s56.trans s7)) (pd_drop _ hrv)
          refine ⟨ps, rfl, ⟨_, sqL upd_same⟩, fun D nD => lc_list (K := K) (a := ps) (xs := rvals.drop (firstV (rowsV n) one)) (fun u H' => ∃ vals'', Same (upd H4 ps (.lst (rvals.drop (firstV (rowsV n) one)))) H' ∧ H' D = some (.lst vals'') ∧ Paired (LAt K (hid D H')) vals'' ((((rowsV n).drop (firstV (rowsV n) one)).take u).map fun row => one ++ [row]))
            ⟨[], same_new nD, upd_same, .nil⟩ (fun u H' _ hP => ?_) ?_ ?_⟩
          · obtain ⟨_, s8, _⟩ := hP
            exact sqL (s8 _ _ upd_same)
          · rintro u y H5 hy ⟨vals'', s8, hD, hv8⟩
            obtain ⟨row, hrow, hry⟩ := pd_get hdv hy
            have lu : vals''.length ≤ 8 := by
              rw [pd_length hv8, List.length_map, List.length_take, List.length_drop]
              omega
            refine ⟨rfl, _, rfl, ?_⟩
            refine ⟨_, rfl, by show 1 ≤ sizeLine; decide, fun e ne => ?_⟩
            have s9 := same_new (o := .lst [y]) ne
            have s38 : Same H3 H5 := s6.trans (s7.trans s8)
            have l4 : one.length ≤ 4 := by
              rw [hmem.len]
              omega
            refine ⟨ao, e, ovals, [y], rfl, rfl, s9 _ _ (s38 _ _ hao), upd_same, Nat.le_of_lt (small1000 (by show ovals.length + 1 ≤ 1000; omega)), fun g ng => ?_⟩
            have s10 := same_new (o := .lst (ovals ++ [y])) ng
            have s510 := s9.trans s10
            have ngD : g ≠ D := (ne_of_none (s9 _ _ hD) ng).symm
            refine ⟨vals'', s510 _ _ hD, small1000 (by omega), vals'' ++ [.ref g], fun c o ec => ?_, upd_same, ?_⟩
            · rw [upd_ne (ne_of_none ec nD)]
              exact s510 _ _ (s8 _ _ ec)
            · rw [hid_upd, List.take_add_one, hrow, List.map_append]
              refine pd_app (lats_same (hid_mono s510) hv8) (.cons ⟨g, ovals ++ [y], rfl, hid_at upd_same ngD, pd_app (rows_same ?_ hov) (.cons (RowAt.same ?_ hry) .nil)⟩ .nil)
              · intro b o hb
                refine hid_at (s510 _ _ (s38 _ _ hb)) fun z => ?_
                subst z
                rw [s7 _ _ (s6 _ _ hb)] at nD
                cases nD
              · intro b o hb
                refine hid_at (s510 _ _ (s8 _ _ hb)) fun z => ?_
                subst z
                rw [hb] at nD
                cases nD
          · rintro H5 ⟨vals'', s8, hD, hv8⟩
            have s38 : Same H3 H5 := s6.trans (s7.trans s8)
            rw [pd_length hdv, List.take_length] at hv8
            have lj : (risV (rowsV n) i)[j]? = some one := hone
            have l1 : vals'.length + vals''.length ≤ 4096 := by
              have h1 := ris_step (m := i) lr (j + 1) (by decide)
              rw [flat_take _ _ _ _ lj, List.length_append, ← pd_length hv5, ← pd_length hv8] at h1
              omega
            refine ⟨pl', D, vals', vals'', rfl, rfl, s38 _ _ hl5, hD, Nat.le_trans l1 (by decide), fun pe ne => ?_⟩
            have s9 := same_new (o := .lst (vals' ++ vals'')) ne
            refine ⟨pe, _, _, _, _, rfl, s5.trans (s38.trans s9), (s3.trans (s5.trans s38)).free ne, upd_same, ?_⟩
            rw [flat_take _ _ _ _ lj]
            exact pd_app (lats_same (s38.trans s9) hv5) (lats_same (hid_same.trans s9) hv8)
      · rintro σ H3 ⟨pl', vals', v6, v7, v8, rfl, s5, n5, hl5, hv5⟩
        rw [lv, List.take_length] at hv5
        exact ⟨_, rfl, pl', vals', _, _, _, _, _, rfl, s3.trans s5, n5, hl5, hv5⟩
    · rintro σ H' ⟨pf, vals, v4, v5, v6, v7, v8, rfl, s3, nf, hf, hv⟩
      exact ⟨_, rfl, q H' pf vals (s1.trans s3) (s1.free nf) hf hv⟩
abbrev s_is_below : Stmt := topS 15
abbrev N_is_below : List Str := ["one", "other", "values"]
abbrev P_is_below : List Str := ["one", "other", "values"]
theorem sc_is_below : FnScope N_is_below P_is_below (defScope s_is_below) := ⟨rfl, rfl, rfl, by decide +kernel, rfl, by decide +kernel, by decide +kernel⟩
def spBelow (K : PySem.W.Frag) : Sp := fun vs H Q _ => ∃ (a b c : Addr) (vals : List V) (rows : List (List Int)) (k l : List Int) (n m : Nat), vs = [.ref a, .ref b, .ref c] ∧ Sq K H a (k.map V.int) ∧ Sq K H b (l.map V.int) ∧ SqL K H c vals ∧ Paired (RowAt K H) vals rows ∧
  k.length = n ∧ l.length = n ∧ n ≤ 60 ∧ InV k m ∧ InV l m ∧ IsRis (rowsV n) (m + 1) rows ∧ ∀ H', Same H H' → Q (.bl (decide (numV (rowV rows k) ≤ numV (rowV rows l)))) H'
theorem ok_below {f : Addr} {fd : FuncData} (F : Fun K "_law_is_below" "_law_is_below" s_is_below f fd) (C_row : Cal P w K mg base CX0 1 "_law_row" P_row (spRow K)) (C_number : Cal P w K mg base CX0 1 "_law_number" P_number (spNumber K)) :
    FnOk P w K mg base CX0 2 f fd P_is_below (spBelow K) := by
  refine F.ok sc_is_below (fun vs H Q E h => ?_) (fun cdv A outer s H vs Q E hr h => ?_)
  · obtain ⟨a, b, c, vals, rows, k, l, n, m, rfl, _⟩ := h
    rfl
  · obtain ⟨a, b, c, vals, rows, k, l, n, m, rfl, ha, hb, hc, hv, nk, nl, n60, hk, hl, R, q⟩ := h
    refine ⟨_, (pss_one (ps_ret (pe_cmpR op_le (pe_cal C_number (hr.mono (by decide)) (by rfl) pass0 (pa_cons (pe_cal C_row (hr.mono (by decide)) (by rfl) pass0 (pa_cons (pv 2) (pa_cons (pv 0) pa_nil))) pa_nil)) (pe_cal C_number (hr.mono (by decide)) (by rfl) pass0 (pa_cons (pe_cal C_row (hr.mono (by decide)) (by rfl) pass0 (pa_cons (pv 2) (pa_cons (pv 1) pa_nil))) pa_nil)) (nomark _)))), ?_⟩
    have hrl : ∀ r ∈ rows, r.length = n := fun r hr => ((mem_rowsV n r).mp (R.mem r hr)).1
    refine ⟨_, rfl, _, rfl, c, a, vals, rows, k, m, rfl, hc, hv, ha, by omega, hk, R.len, fun r hr => by rw [hrl r hr]; omega, fun H1 p s1 np hp => ?_⟩
    refine ⟨p, _, n, rfl, sqT hp, row_bits hk R nk, n60, ?_⟩
    refine ⟨_, rfl, _, rfl, c, b, vals, rows, l, m, rfl, s1.seq hc, rows_same s1 hv, hb.same s1, by omega, hl, R.len, fun r hr => by rw [hrl r hr]; omega, fun H2 p2 s2 np2 hp2 => ?_⟩
    refine ⟨p2, _, n, rfl, sqT hp2, row_bits hl R nl, n60, ?_⟩
    exact ⟨_, _, rfl, rfl, q _ (s1.trans s2)⟩
abbrev s_code : Stmt := topS 17
abbrev N_code : List Str := ["versions", "c", "d", "p"]
abbrev P_code : List Str := ["versions", "c", "d", "p"]
theorem sc_code : FnScope N_code P_code (defScope s_code) := ⟨rfl, rfl, rfl, by decide +kernel, rfl, by decide +kernel, by decide +kernel⟩
def spCode (K : PySem.W.Frag) : Sp := fun vs H Q _ => ∃ (a : Addr) (v : List Int) (c d : Nat) (p : Int), vs = [.ref a, .int c, .int d, .int p] ∧ Sq K H a (v.map V.int) ∧ c < v.length ∧ d < v.length ∧ Q (.int (codeV v c d p)) H
theorem ok_code {f : Addr} {fd : FuncData} (F : Fun K "_law_code" "_law_code" s_code f fd) (B : Bi mg) : FnOk P w K mg base CX0 1 f fd P_code (spCode K) := by
  refine F.ok sc_code (fun vs H Q E h => ?_) (fun cdv A outer s H vs Q E hr h => ?_)
  · obtain ⟨a, v, c, d, p, rfl, _⟩ := h
    rfl
  · obtain ⟨a, v, c, d, p, rfl, ha, hc, hd, q⟩ := h
    refine ⟨_, (pss_one (ps_ret (pe_op op_add (pe_op op_mulW pe_int (pe_callTy call_int1 (by rfl) B.b_int (by decide +kernel) (pa_cons (pe_cmpR op_ge (pe_ix ix_any (pv 0) (pv 1) (fun _ _ => rfl)) (pv 3) (nomark _)) pa_nil))) (pe_callTy call_int1 (by rfl) B.b_int (by decide +kernel) (pa_cons (pe_cmpR op_lt (pe_ix ix_any (pv 0) (pv 2) (fun _ _ => rfl)) (pv 3) (nomark _)) pa_nil))))), ?_⟩
    refine ⟨_, rfl, _, rfl, a, _, _, _, rfl, rfl, ha, at_int (j := c) rfl hc, _, rfl, _, _, rfl, rfl, .inr ⟨_, rfl, ?_⟩⟩
    refine ⟨_, _, rfl, rfl, wide_mul (a := 2) (b := 2) (by decide) (by split <;> decide) (by decide) (by decide) (by decide), ?_⟩
    refine ⟨_, rfl, _, rfl, a, _, _, _, rfl, rfl, ha, at_int (j := d) rfl hd, _, rfl, _, _, rfl, rfl, .inr ⟨_, rfl, _, _, rfl, rfl, ?_⟩⟩
    have e : codeV v c d p = 2 * (if decide (p ≤ v.getD c 0) = true then 1 else 0) + (if decide (v.getD d 0 < p) = true then 1 else 0) := by
      unfold codeV
      rw [ite_dec, ite_dec]
    rw [e] at q
    exact q
abbrev s_is_put_above : Stmt := topS 18
abbrev N_is_put_above : List Str := ["one", "other", "d", "c", "p"]
abbrev P_is_put_above : List Str := ["one", "other"]
theorem sc_is_put_above : FnScope N_is_put_above P_is_put_above (defScope s_is_put_above) := ⟨rfl, rfl, rfl, by decide +kernel, rfl, by decide +kernel, by decide +kernel⟩
def spPut (K : PySem.W.Frag) : Sp := fun vs H Q _ => ∃ (a b : Addr) (k l : List Int), vs = [.ref a, .ref b] ∧ Sq K H a (k.map V.int) ∧ Sq K H b (l.map V.int) ∧ k.length = l.length ∧ k.length ≤ 1000 ∧ ∀ H', Same H H' → Q (.bl (putV k l)) H'
theorem ok_put {f : Addr} {fd : FuncData} (F : Fun K "_law_is_put_above" "_law_is_put_above" s_is_put_above f fd) (B : Bi mg) (C_code : Cal P w K mg base CX0 1 "_law_code" P_code (spCode K)) : FnOk P w K mg base CX0 2 f fd P_is_put_above (spPut K) := by
  refine F.ok sc_is_put_above (fun vs H Q E h => ?_) (fun cdv A outer s H vs Q E hr h => ?_)
  · obtain ⟨a, b, k, l, rfl, _⟩ := h
    rfl
  · obtain ⟨a, b, k, l, rfl, ha, hb, hl, h1000, q⟩ := h
    refine ⟨_, (pss_cons (ps_for PassesOwn.never rfl (pi_range1 (by rfl) B.b_range (pa_cons (pe_callB call_len_seq (by rfl) B.b_len PySem.boot_len (pa_cons (pv 0) pa_nil)) pa_nil)) (pg_name (i := 2) sc_is_put_above.nd rfl (.inl rfl)) 
          (pss_cons (ps_if (pt_cmpR op_gt (pe_ix ix_any (pv 0) (pv 2) (fun _ _ => rfl)) (pe_ix ix_any (pv 1) (pv 2) (fun _ _ => rfl)) (nomark _)) 
              (pss_one (ps_ret pe_bl)) pss_nil)
          (pss_one (ps_for PassesOwn.never rfl (pi_range1 (by rfl) B.b_range (pa_cons (pv 2) pa_nil)) (pg_name (i := 3) sc_is_put_above.nd rfl (.inl rfl)) 
              (pss_one (ps_for PassesOwn.never rfl (pi_tup (pe_tup (pa_cons (pe_op op_add (pe_ix ix_any (pv 0) (pv 2) (fun _ _ => rfl)) pe_int) (pa_cons (pe_ix ix_any (pv 1) (pv 2) (fun _ _ => rfl)) pa_nil)))) (pg_name (i := 4) sc_is_put_above.nd rfl (.inl rfl)) 
                  (pss_one (ps_if (pt_cmpR op_gt (pe_cal C_code (hr.mono (by decide)) (by rfl) pass0 (pa_cons (pv 0) (pa_cons (pv 3) (pa_cons (pv 2) (pa_cons (pv 4) pa_nil))))) (pe_cal C_code (hr.mono (by decide)) (by rfl) pass0 (pa_cons (pv 1) (pa_cons (pv 3) (pa_cons (pv 2) (pa_cons (pv 4) pa_nil))))) (nomark _)) 
                      (pss_one (ps_ret pe_bl)) pss_nil))))))))
      (pss_one (ps_ret pe_bl))), ?_⟩
    refine ⟨_, rfl, a, _, rfl, ha, _, rfl, by omega, by rw [List.length_map]; omega, for_range (lo := 0) (n := (k.map V.int).length) (fun d σ H' => ∃ v2 v3 v4, σ = [some (.ref a), some (.ref b), v2, v3, v4] ∧ Same H H' ∧ (List.range d).any (putCell k l) = false) ⟨none, none, none, rfl, Same.refl H, rfl⟩ ?_ ?_⟩
    · rintro d σ H1 hd ⟨v2, v3, v4, rfl, s1, hp⟩
      rw [List.length_map] at hd
      have hd2 : d < l.length := by omega
      have won : putCell k l d = true → putV k l = true := fun e => any_at hd e
      refine ⟨_, rfl, _, rfl, a, _, _, _, rfl, rfl, ha.same s1, at_int (j := d) (by omega) hd, _, rfl, _, rfl, b, _, _, _, rfl, rfl, hb.same s1, at_int (j := d) (by omega) hd2, _, _, rfl, rfl, _, rfl, ?_⟩
      refine ite2 (fun e => ?_) (fun e => ?_)
      · have q' := q H1 s1
        rw [won (put_cell_gt (of_decide_eq_true e))] at q'
        exact q'
      have e' : ¬ k.getD d 0 > l.getD d 0 := fun z => e (decide_eq_true z)
      refine ⟨_, rfl, _, rfl, by omega, by omega, for_range (lo := 0) (n := ((0 : Int) + (d : Int)).toNat) (fun c σ H' => ∃ v3 v4, σ = [some (.ref a), some (.ref b), some (.int (0 + (d : Int))), v3, v4] ∧ Same H H' ∧ (List.range c).any (putPair k l d) = false) ⟨v3, v4, rfl, s1, rfl⟩ ?_ ?_⟩
      · rintro c σ H2 hc ⟨v3, v4, rfl, s2, hpc⟩
        have hc2 : c < d := by omega
        refine ⟨_, rfl, _, rfl, a, _, _, _, rfl, rfl, ha.same s2, at_int (j := d) (by omega) hd, _, _, rfl, rfl, ?_⟩
        refine ⟨_, rfl, _, rfl, b, _, _, _, rfl, rfl, hb.same s2, at_int (j := d) (by omega) hd2, by show 2 ≤ sizeLine; decide, fun t nt => ?_⟩
        have s3 := s2.trans (same_new (o := .tup [.int (k.getD d 0 + 1), .int (l.getD d 0)]) nt)
        refine ⟨t, rfl, ⟨_, sqT upd_same⟩, for_tup (K := K) (a := t) (xs := [.int (k.getD d 0 + 1), .int (l.getD d 0)]) (fun j σ H' => ∃ v4, σ = [some (.ref a), some (.ref b), some (.int (0 + (d : Int))), some (.int (0 + (c : Int))), v4] ∧ Same H H' ∧ H' t = some (.tup [.int (k.getD d 0 + 1), .int (l.getD d 0)]) ∧
          (1 ≤ j → ¬ codeV k c d (k.getD d 0 + 1) > codeV l c d (k.getD d 0 + 1)) ∧ (2 ≤ j → ¬ codeV k c d (l.getD d 0) > codeV l c d (l.getD d 0))) ⟨v4, rfl, s3, upd_same, fun z => absurd z (by decide), fun z => absurd z (by decide)⟩ (fun j σ H' _ hP => ?_) ?_ ?_⟩
        · obtain ⟨_, _, _, ht, _⟩ := hP
          exact sqT ht
        · rintro j x σ H3 hx ⟨v4, rfl, s4, ht, g1, g2⟩
          obtain ⟨pp, ex, y1, y2⟩ : ∃ pp : Int, x = .int pp ∧ (codeV k c d pp > codeV l c d pp → putPair k l d c = true) ∧ (¬ codeV k c d pp > codeV l c d pp → (1 ≤ j + 1 → ¬ codeV k c d (k.getD d 0 + 1) > codeV l c d (k.getD d 0 + 1)) ∧ (2 ≤ j + 1 → ¬ codeV k c d (l.getD d 0) > codeV l c d (l.getD d 0))) := by
            match j, hx with
            | 0, hx =>
              have ex : V.int (k.getD d 0 + 1) = x := Option.some.inj hx
              exact ⟨_, ex.symm, put_first, fun z => ⟨fun _ => z, fun y => absurd y (by decide)⟩⟩
            | 1, hx =>
              have ex : V.int (l.getD d 0) = x := Option.some.inj hx
              exact ⟨_, ex.symm, put_second, fun z => ⟨fun _ => g1 (by decide), fun _ => z⟩⟩
          subst ex
          refine ⟨_, rfl, _, rfl, _, rfl, _, rfl, a, k, c, d, pp, by simp, ha.same s4, by omega, hd, ?_⟩
          refine ⟨_, rfl, _, rfl, _, rfl, _, rfl, b, l, c, d, pp, by simp, hb.same s4, by omega, hd2, ?_⟩
          refine ⟨_, _, rfl, rfl, _, rfl, ?_⟩
          refine ite2 (fun e2 => ?_) (fun e2 => ?_)
          · have q' := q H3 s4
            rw [won (put_cell_pair hc2 (y1 (of_decide_eq_true e2)))] at q'
            exact q'
          · exact ⟨_, rfl, s4, ht, y2 fun z => e2 (decide_eq_true z)⟩
        · rintro σ H3 ⟨v4, rfl, s4, ht, g1, g2⟩
          exact ⟨_, _, rfl, s4, any_next hpc (put_not (g1 (by show 1 ≤ 2; decide)) (g2 (by show 2 ≤ 2; decide)))⟩
      · rintro σ H2 ⟨v3, v4, rfl, s2, hpc⟩
        rw [show ((0 : Int) + (d : Int)).toNat = d by omega] at hpc
        exact ⟨_, _, _, rfl, s2, any_next hp (put_cell_not e' hpc)⟩
    · rintro σ H1 ⟨v2, v3, v4, rfl, s1, hp⟩
      rw [List.length_map] at hp
      have q' := q H1 s1
      unfold putV at q'
      rw [hp] at q'
      exact q'
end
end Dg
namespace Dg
open PySem PySem.Spec PyProof.Rows L2
local macro_rules | `(tactic| walk_at "rd1") => `(tactic| first | refine ⟨_, rfl, ?_⟩ | refine ⟨_, _, rfl, rfl, ?_⟩)
local macro_rules | `(tactic| walk_at "rd") => `(tactic| repeat walk_at "rd1")
section
variable {P : Program} {w : World} {K : PySem.W.Frag} {mg : Str → Option Value} {base : Heap}
abbrev s_new_pair : Stmt := topS 16
abbrev N_new_pair : List Str := ["pen", "cells", "most", "k", "one", "way", "other", "at"]
abbrev P_new_pair : List Str := ["pen", "cells", "most"]
theorem sc_new_pair : FnScope N_new_pair P_new_pair (defScope s_new_pair) := ⟨rfl, rfl, rfl, by decide +kernel, rfl, by decide +kernel, by decide +kernel⟩
def spPair : Sp := fun vs H Q _ => ∃ (p c : Addr) (b : Int) (n m : Nat), vs = [.ref p, .int n, .int m] ∧ Pen H p c b ∧ 1 ≤ n ∧ n ≤ 60 ∧ m ≤ 60 ∧ b < 2 ^ 59 ∧
  ∀ H' t a e k l, SameB p H H' → Pen H' p c (b + 200) → H' t = some (.tup [.ref a, .ref e]) → H' a = some (.lst (k.map V.int)) → H' e = some (.lst (l.map V.int)) → k.length = n → l.length = n → AllIn k m → AllIn l m → Q (.ref t) H'
theorem ok_pair {f : Addr} {fd : FuncData} (F : Fun K "_law_new_pair" "_law_new_pair" s_new_pair f fd) (B : Bi mg) (C_draw : Cal P w K mg base CX0 1 "_law_draw" P_draw spDraw) : FnOk P w K mg base CX0 2 f fd P_new_pair spPair := by
  refine F.ok sc_new_pair (fun vs H Q E h => ?_) (fun cdv A outer s H vs Q E hr h => ?_)
  · obtain ⟨p, c, b, n, m, rfl, _⟩ := h
    rfl
  · obtain ⟨p, c, b, n, m, rfl, hp, hn1, hn, hm, hb, q⟩ := h
    refine ⟨_, (pss_cons (ps_setLc (i := 4) (own := [("k", 3)]) (g := gName 3) (by rfl) sc_new_pair.nd rfl rfl (sw_true rfl rfl rfl (by decide +kernel)) (pi_range1 (by rfl) B.b_range (pa_cons (pv 1) pa_nil)) (blkOk_by (own := [("k", 3)]) (N := N_new_pair) (sc := (defScope s_new_pair)) (by decide +kernel)) (fun _ _ _ _ _ => (pg_name (i := 3) sc_new_pair.nd rfl (.inl rfl))) (fun _ _ _ _ _ => pts_nil) (fun _ _ _ _ _ => (pe_cal C_draw (hr.mono (by decide)) (by rfl) pass0 (pa_cons (pv 0) (pa_cons (pe_op op_add (pv 2) pe_int) pa_nil)))))
      (pss_cons (ps_par (i := 5) (j := 6) (by rfl) sc_new_pair.nd rfl rfl (by decide) rfl rfl (pa_cons (pe_cal C_draw (hr.mono (by decide)) (by rfl) pass0 (pa_cons (pv 0) (pa_cons pe_int pa_nil))) (pa_cons (pe_lc (own := [("k", 3)]) (g := gName 3) (by rfl) sc_new_pair.nd (pi_range1 (by rfl) B.b_range (pa_cons (pv 1) pa_nil)) (blkOk_by (own := [("k", 3)]) (N := N_new_pair) (sc := (defScope s_new_pair)) (by decide +kernel)) (fun _ _ _ _ _ => (pg_name (i := 3) sc_new_pair.nd rfl (.inl rfl))) (fun _ _ _ _ _ => pts_nil) (fun _ _ _ _ _ => (pe_cal C_draw (hr.mono (by decide)) (by rfl) pass0 (pa_cons (pv 0) (pa_cons (pe_op op_add (pv 2) pe_int) pa_nil))))) pa_nil)) (by rfl))
      (C8.pss_cut (ps_if (pt_cmpR op_eq (pv 5) pe_int (nomark _)) 
          (pss_one (ps_par (i := 4) (j := 6) (by rfl) sc_new_pair.nd rfl rfl (by decide) rfl rfl (pa_cons (pe_callB cr_sorted (by rfl) B.b_sorted (by decide +kernel) (pa_cons (pv 4) pa_nil)) (pa_cons (pe_revL (pe_callB cr_sorted (by rfl) B.b_sorted (by decide +kernel) (pa_cons (pv 6) pa_nil))) pa_nil)) (by rfl))) pss_nil)
      (C8.pss_cut (ps_if (pt_cmpR op_gt (pv 5) pe_int (nomark _)) 
          (pss_cons (ps_set (i := 6) sc_new_pair.nd rfl (.inl rfl) (pe_callTy call_list_of (by rfl) B.b_list (by decide +kernel) (pa_cons (pv 4) pa_nil)))
          (pss_one (ps_for PassesOwn.never rfl (pi_range1 (by rfl) B.b_range (pa_cons (pe_op op_sub (pv 5) pe_int) pa_nil)) (pg_name (i := 3) sc_new_pair.nd rfl (.inl rfl)) 
              (pss_cons (ps_set (i := 7) sc_new_pair.nd rfl (.inl rfl) (pe_cal C_draw (hr.mono (by decide)) (by rfl) pass0 (pa_cons (pv 0) (pa_cons (pv 1) pa_nil))))
              (pss_one (ps_asg (pe_callB (call_min2 rfl) (by rfl) B.b_min (by decide +kernel) (pa_cons (pv 2) (pa_cons (pe_callTy call_int1 (by rfl) B.b_int (by decide +kernel) (pa_cons (pe_op op_add (pe_ix ix_list (pv 6) (pv 7) (fun _ _ => rfl)) pe_int) pa_nil)) pa_nil))) (pg_sub (pv 6) (pv 7) set_list))))))) pss_nil)
      (pss_one (ps_ret (pe_tup (pa_cons (pv 4) (pa_cons (pv 6) pa_nil))))))))), ?_⟩
    refine ⟨_, rfl, _, rfl, by omega, by omega, fun D nD => lc_range (lo := 0) (n := n) (fun i H' => ∃ ns : List Int, SameB p H H' ∧ Pen H' p c (b + i) ∧ H' D = some (.lst (ns.map V.int)) ∧ ns.length = i ∧ AllIn ns m) ⟨[], SameB.of (same_new nD), by simpa using hp.same (same_new nD), upd_same, rfl, fun x hx => by cases hx⟩ ?_ ?_⟩
    · rintro i H1 hi ⟨ns, s1, p1, hD, hl, ha⟩
      obtain ⟨nDp, nDc⟩ := hp.fresh nD
      refine ⟨rfl, _, rfl, _, rfl, _, _, rfl, rfl, p, c, (m : Int) + 1, b + i, rfl, p1, by omega, by omega, by omega, fun r H2 r0 r1 p2 s2 => ?_⟩
      refine ⟨_, s2.lst p1 hD, by rw [List.length_map]; exact small1000 (by omega), ns ++ [r], (s1.trans s2).upd nD, ?_, ?_, by rw [List.length_append, hl]; rfl, ha.snoc r0 (by omega)⟩
      · exact (p2.upd nDp nDc).mono (by omega)
      · rw [upd_same, List.map_append]
        rfl
    rintro H1 ⟨ns, s1, p1, hD, hl, ha⟩
    have nDp := hp.fresh nD
    refine ⟨_, rfl, p, c, 5, b + n, rfl, p1, by decide, by decide, by omega, fun w1 H2 w0 w5 p2 s2 => ?_⟩
    refine ⟨_, rfl, _, rfl, by omega, by omega, fun D2 nD2 => lc_range (lo := 0) (n := n) (fun i H' => ∃ ms : List Int, SameB p H2 H' ∧ Pen H' p c (b + n + 1 + i) ∧ H' D2 = some (.lst (ms.map V.int)) ∧ ms.length = i ∧ AllIn ms m) ⟨[], SameB.of (same_new nD2), by simpa using p2.same (same_new nD2), upd_same, rfl, fun x hx => by cases hx⟩ ?_ ?_⟩
    · rintro i H3 hi ⟨ms, s3, p3, hD2, hl2, ha2⟩
      obtain ⟨n1, n2⟩ := p2.fresh nD2
      refine ⟨rfl, _, rfl, _, rfl, _, _, rfl, rfl, p, c, (m : Int) + 1, b + n + 1 + i, rfl, p3, by omega, by omega, by omega, fun r H4 r0 r1 p4 s4 => ?_⟩
      refine ⟨_, s4.lst p3 hD2, by rw [List.length_map]; exact small1000 (by omega), ms ++ [r], (s3.trans s4).upd nD2, ?_, ?_, by rw [List.length_append, hl2]; rfl, ha2.snoc r0 (by omega)⟩
      · exact (p4.upd n1 n2).mono (by omega)
      · rw [upd_same, List.map_append]
        rfl
    rintro H3 ⟨ms, s3, p3, hD2, hl2, ha2⟩
    have sH3 : SameB p H H3 := s1.trans (s2.trans s3)
    have hD3 := s3.lst p2 (s2.lst p1 hD)
    refine ⟨_, _, rfl, ?_⟩
    refine ⟨fun σ' H' => ∃ a e k l, σ' = [some (.ref p), some (.int n), some (.int m), none, some (.ref a), some (.int w1), some (.ref e), none] ∧ SameB p H H' ∧ Pen H' p c (b + 121) ∧ H' a = some (.lst (k.map V.int)) ∧ H' e = some (.lst (l.map V.int)) ∧ k.length = n ∧ l.length = n ∧ AllIn k m ∧ AllIn l m, ?_, ?_⟩
    · refine ⟨_, rfl, rfl, _, rfl, ?_⟩
      refine ite2 (fun e => ?_) (fun e => ?_)
      · refine ⟨_, rfl, D, ns, rfl, sqL hD3, by omega, fun ns' p5 perm pw n5 => ?_⟩
        have s5 := same_new (o := .lst (ns'.map V.int)) n5
        refine ⟨_, rfl, D2, ms, rfl, sqL (s5 _ _ hD2), by omega, fun ms' p6 perm2 pw2 n6 => ?_⟩
        have s6 := same_new (o := .lst (ms'.map V.int)) n6
        refine ⟨p6, _, rfl, sqL upd_same, fun p7 n7 => ?_⟩
        have s7 := same_new (o := .lst (ms'.map V.int).reverse) n7
        refine ⟨_, _, rfl, p5, p7, ns', ms'.reverse, rfl, sH3.trans (SameB.of (s5.trans (s6.trans s7))), (p3.same (s5.trans (s6.trans s7))).mono (by omega), s7 _ _ (s6 _ _ upd_same), ?_, by rw [perm.length_eq, hl], by rw [List.length_reverse, perm2.length_eq, hl2], fun x hx => ha x (perm.mem_iff.mp hx), fun x hx => ha2 x (perm2.mem_iff.mp (List.mem_reverse.mp hx))⟩
        rw [upd_same, List.map_reverse]
      · exact ⟨D, D2, ns, ms, rfl, sH3, p3.mono (by omega), hD3, hD2, hl, hl2, ha, ha2⟩
    rintro σ' H4 ⟨a, e, k, l, rfl, s4, p4, hka, hle, nk, nl, hk, hl⟩
    refine ⟨fun σ' H' => ∃ a e k l v3 v7, σ' = [some (.ref p), some (.int n), some (.int m), v3, some (.ref a), some (.int w1), some (.ref e), v7] ∧ SameB p H H' ∧ Pen H' p c (b + 200) ∧ H' a = some (.lst (k.map V.int)) ∧ H' e = some (.lst (l.map V.int)) ∧ k.length = n ∧ l.length = n ∧ AllIn k m ∧ AllIn l m, ?_, ?_⟩
    · refine ⟨_, rfl, _, _, rfl, rfl, _, rfl, ?_⟩
      refine ite2 (fun g => ?_) (fun g => ?_)
      · refine ⟨_, rfl, a, _, rfl, .inl (sqL hka), fun e2 n2 => ?_⟩
        have s5 := same_new (o := .lst (k.map V.int)) n2
        have hne : a ≠ e2 := ne_of_none hka n2
        obtain ⟨ne1, ne2⟩ := p4.fresh n2
        refine ⟨_, rfl, _, _, rfl, rfl, _, rfl, by omega, by omega, for_range (lo := 0) (n := (w1 - 2).toNat) (fun i σ H' => ∃ l v3 v7, σ = [some (.ref p), some (.int n), some (.int m), v3, some (.ref a), some (.int w1), some (.ref e2), v7] ∧ SameB p H4 H' ∧ Pen H' p c (b + 121 + i) ∧ H' a = some (.lst (k.map V.int)) ∧ H' e2 = some (.lst (l.map V.int)) ∧ l.length = n ∧ AllIn l m)
          ⟨k, none, none, rfl, SameB.of s5, by simpa using p4.same s5, s5 _ _ hka, upd_same, nk, hk⟩ ?_ ?_⟩
        · rintro i σ H5 hi ⟨l, v3, v7, rfl, s6, p6, ha6, he6, nl6, hl6⟩
          refine ⟨_, rfl, _, rfl, p, c, (n : Int), b + 121 + i, rfl, p6, by omega, by omega, by omega, fun r H6 r0 r1 p7 s7 => ?_⟩
          have hlt : r.toNat < l.length := by omega
          have he7 := s7.lst p6 he6
          obtain ⟨g0, g1⟩ := hl6.get hlt
          refine ⟨_, rfl, _, rfl, _, rfl, e2, _, _, _, rfl, rfl, sqL he7, at_int (j := r.toNat) (by omega) hlt, _, _, rfl, rfl, .inl ⟨_, rfl, _, _, rfl, ?_⟩⟩
          refine ⟨_, rfl, _, rfl, e2, _, _, r.toNat, rfl, rfl, he7, ?_, ?_⟩
          · rw [List.length_map]
            unfold ixN
            rw [if_pos r0, if_pos (by omega)]
          · refine ⟨l.set r.toNat (if l.getD r.toNat 0 + 1 < (m : Int) then l.getD r.toNat 0 + 1 else (m : Int)), some (.int (0 + (i : Int))), some (.int r), ?_, (s6.trans s7).upd n2, (p7.upd ne1 ne2).mono (by omega), ?_, ?_, by rw [List.length_set]; exact nl6, hl6.set _ ?_ ?_⟩
            · rfl
            · rw [upd_ne hne]
              exact s7.lst p6 ha6
            · rw [upd_same, List.map_set]
            · split <;> omega
            · split <;> omega
        · rintro σ H5 ⟨l, v3, v7, rfl, s6, p6, ha6, he6, nl6, hl6⟩
          exact ⟨a, e2, k, l, v3, v7, rfl, s4.trans s6, p6.mono (by omega), ha6, he6, nk, nl6, hk, hl6⟩
      · exact ⟨a, e, k, l, none, none, rfl, s4, p4.mono (by omega), hka, hle, nk, nl, hk, hl⟩
    rintro σ' H5 ⟨a, e, k, l, v3, v7, rfl, s5, p5, hka, hle, nk, nl, hk, hl⟩
    refine ⟨_, rfl, _, rfl, by show 2 ≤ sizeLine; decide, fun t nt => ?_⟩
    have s6 := same_new (o := .tup [.ref a, .ref e]) nt
    exact q _ t a e k l (s5.trans (SameB.of s6)) (p5.same s6) upd_same (s6 _ _ hka) (s6 _ _ hle) nk nl hk hl
end
end Dg
namespace Dg
open PySem PySem.Spec PyProof.Rows L2
local macro_rules | `(tactic| walk_at "rd1") => `(tactic| first | refine ⟨_, rfl, ?_⟩ | refine ⟨_, _, rfl, rfl, ?_⟩)
local macro_rules | `(tactic| walk_at "rd") => `(tactic| repeat walk_at "rd1")
section
variable {P : Program} {w : World} {K : PySem.W.Frag} {mg : Str → Option Value} {base : Heap}
abbrev s_is_refused : Stmt := topS 19
abbrev N_is_refused : List Str := ["one", "other", "e"]
abbrev P_is_refused : List Str := ["one", "other"]
theorem sc_is_refused : FnScope N_is_refused P_is_refused (defScope s_is_refused) := ⟨rfl, rfl, rfl, by decide +kernel, rfl, by decide +kernel, by decide +kernel⟩
def spRefused (K : PySem.W.Frag) : Sp := fun vs H Q _ => ∃ (a b : Addr) (k l : List Int), vs = [.ref a, .ref b] ∧ Sq K H a (k.map V.int) ∧ Sq K H b (l.map V.int) ∧ k.length ≤ 1000 ∧ ¬ (k.length = l.length ∧ k ≠ []) ∧ Q (.bl true) H
theorem ok_refused {f cV cT : Addr} {fd : FuncData} (F : Fun K "_law_is_refused" "_law_is_refused" s_is_refused f fd) (B : Bi mg) (E_BadVersions : Ec K mg "BadVersions" cV) (X_BadVersions : Ei K mg cV cT)
    (C_is_at_most : Cal P w K mg base (L2.CX P w) 3 "is_at_most" P_is_at_most (spAtMost K cV)) : FnOk P w K mg base CX0 4 f fd P_is_refused (spRefused K) := by
  refine F.ok sc_is_refused (fun vs H Q E h => ?_) (fun cdv A outer s H vs Q E hr h => ?_)
  · obtain ⟨a, b, k, l, rfl, _⟩ := h
    rfl
  · obtain ⟨a, b, k, l, rfl, ha, hb, h1000, hn, q⟩ := h
    refine ⟨_, (pss_cons (ps_try_as (i := 2) rfl rfl sc_is_refused.nd rfl rfl ⟨rfl, by decide, .inl E_BadVersions.gC⟩ takes0 (fun W pn xe tk po => 
          (pss_one (ps_expr (pe_calS C_is_at_most (hr.mono (by decide)) (by rfl) (fun σ => passAt tk σ) (pa_cons (pv 0) (pa_cons (pv 1) pa_nil)))))) (fun a oe cls d pn hz hf => 
          (pss_one (ps_ret (pe_and (pe_callB (call_isE2 X_BadVersions.ex hz hf) (by rfl) B.b_isinstance (by decide +kernel) (pa_cons (pv 2) (pa_cons (pe_glob (by rfl) X_BadVersions.g_TurnError (rel_ref _)) pa_nil))) (pe_one (pe_callB (call_isE2 X_BadVersions.ex hz hf) (by rfl) B.b_isinstance (by decide +kernel) (pa_cons (pv 2) (pa_cons (pe_bltn (by rfl) B.b_ValueError boot_VE (rel_ty _)) pa_nil)))))))))
      (pss_one (ps_ret pe_bl))), ?_⟩
    refine ⟨_, rfl, _, rfl, a, b, k, l, rfl, ha, hb, h1000, fun z => absurd z hn, fun _ => ?_⟩
    refine ⟨true, E_BadVersions.te, fun _ a0 n0 => ?_, fun z => Bool.noConfusion z⟩
    refine ⟨_, rfl, rfl, rfl, _, _, _, rfl, (fun u r => r), X_BadVersions.kT, true, rfl, iteT ?_⟩
    refine ⟨_, rfl, rfl, rfl, _, _, _, rfl, (fun u r => r), X_BadVersions.kV, ?_⟩
    exact q
end
end Dg
namespace Dg
open PySem PySem.Spec PyProof.Rows L2
local macro_rules | `(tactic| walk_at "rd1") => `(tactic| first | refine ⟨_, rfl, ?_⟩ | refine ⟨_, _, rfl, rfl, ?_⟩)
local macro_rules | `(tactic| walk_at "rd") => `(tactic| repeat walk_at "rd1")
section
variable {P : Program} {w : World} {K : PySem.W.Frag} {mg : Str → Option Value} {base : Heap}
abbrev s_law : Stmt := topS 20
abbrev N_law : List Str := ["script", "pen", "turn", "cells", "most", "listed", "again", "one", "other", "above", "row"]
abbrev P_law : List Str := ["script"]
theorem sc_law : FnScope N_law P_law (defScope s_law) := ⟨rfl, rfl, rfl, by decide +kernel, rfl, by decide +kernel, by decide +kernel⟩
def spLaw (K : PySem.W.Frag) : Sp := fun vs H Q _ => ∃ (a : Addr) (ns : List Int), vs = [.ref a] ∧ SqL K H a (ns.map V.int) ∧ ns.length ≤ 63 ∧ ∀ H', Q (.bl true) H'
theorem ok_law {f cV : Addr} {fd : FuncData} (F : Fun K "law" "law" s_law f fd) (B : Bi mg) (C_begun_pen : Cal P w K mg base CX0 1 "_law_begun_pen" P_begun_pen (spBegun K)) (C_draw : Cal P w K mg base CX0 1 "_law_draw" P_draw spDraw)
    (C_risings : Cal P w K mg base CX0 2 "_law_risings" P_risings (spRisings K)) (C_new_pair : Cal P w K mg base CX0 2 "_law_new_pair" P_new_pair spPair) (C_is_below : Cal P w K mg base CX0 2 "_law_is_below" P_is_below (spBelow K))
    (C_is_at_most : Cal P w K mg base (L2.CX P w) 3 "is_at_most" P_is_at_most (spAtMost K cV)) (C_is_put_above : Cal P w K mg base CX0 2 "_law_is_put_above" P_is_put_above (spPut K)) (C_is_refused : Cal P w K mg base CX0 4 "_law_is_refused" P_is_refused (spRefused K)) :
    FnOk P w K mg base CX0 5 f fd P_law (spLaw K) := by
  refine F.ok sc_law (fun vs H Q E h => ?_) (fun cdv A outer s H vs Q E hr h => ?_)
  · obtain ⟨a, ns, rfl, _⟩ := h
    rfl
  · obtain ⟨a, ns, rfl, ha, h63, q⟩ := h
    refine ⟨_, (pss_cons (ps_set (i := 1) sc_law.nd rfl (.inl rfl) (pe_cal C_begun_pen (hr.mono (by decide)) (by rfl) pass0 (pa_cons (pv 0) pa_nil)))
      (pss_cons (ps_for PassesOwn.never rfl (pi_range1 (by rfl) B.b_range (pa_cons (pe_op op_add pe_int (pe_callB (call_min2 rfl) (by rfl) B.b_min (by decide +kernel) (pa_cons pe_int (pa_cons (pe_callB call_len_seq (by rfl) B.b_len PySem.boot_len (pa_cons (pv 0) pa_nil)) pa_nil)))) pa_nil)) (pg_name (i := 2) sc_law.nd rfl (.inl rfl)) 
          (pss_cons (ps_par (i := 3) (j := 4) (by rfl) sc_law.nd rfl rfl (by decide) rfl rfl (pa_cons (pe_op op_add pe_int (pe_cal C_draw (hr.mono (by decide)) (by rfl) pass0 (pa_cons (pv 1) (pa_cons pe_int pa_nil)))) (pa_cons (pe_op op_add pe_int (pe_cal C_draw (hr.mono (by decide)) (by rfl) pass0 (pa_cons (pv 1) (pa_cons pe_int pa_nil)))) pa_nil)) (by rfl))
          (C8.pss_cut (ps_set (i := 4) sc_law.nd rfl (.inl rfl) (pe_ifExp (pt_cmpR op_lt (pv 3) pe_int (nomark _)) (pv 4) (pe_callB (call_min2 rfl) (by rfl) B.b_min (by decide +kernel) (pa_cons pe_int (pa_cons (pe_callTy call_int1 (by rfl) B.b_int (by decide +kernel) (pa_cons (pv 4) pa_nil)) pa_nil)))))
          (pss_cons (ps_set (i := 5) sc_law.nd rfl (.inl rfl) (pe_cal C_risings (hr.mono (by decide)) (by rfl) pass0 (pa_cons (pv 3) (pa_cons (pe_op op_add (pv 4) pe_int) pa_nil))))
          (pss_cons (ps_for PassesOwn.never rfl (pi_range1 (by rfl) B.b_range (pa_cons pe_int pa_nil)) (pg_name (i := 6) sc_law.nd rfl (.inl rfl)) 
              (pss_cons (ps_asg (pe_cal C_new_pair (hr.mono (by decide)) (by rfl) pass0 (pa_cons (pv 1) (pa_cons (pv 3) (pa_cons (pv 4) pa_nil)))) (pg_tup (by rfl) (pgs_cons (pg_name (i := 7) sc_law.nd rfl (.inr rfl)) (pgs_cons (pg_name (i := 8) sc_law.nd rfl (.inr rfl)) pgs_nil))))
              (pss_cons (ps_setLc (i := 9) (own := [("row", 10)]) (g := gName 10) (by rfl) sc_law.nd rfl rfl (sw_true rfl rfl rfl (by decide +kernel)) (pi_list (pv 5)) (blkOk_by (own := [("row", 10)]) (N := N_law) (sc := (defScope s_law)) (by decide +kernel)) (fun _ _ _ _ _ => (pg_name (i := 10) sc_law.nd rfl (.inl rfl))) (fun _ _ _ _ _ => (pts_one (pt_not (pt_val (pe_cal C_is_below (hr.mono (by decide)) (by rfl) pass0 (pa_cons (pv 7) (pa_cons (pv 8) (pa_cons (pv 10) pa_nil)))))))) (fun _ _ _ _ _ => (pv 10)))
              (pss_cons (ps_if (pt_cmpR op_ne (pe_cal C_is_at_most (hr.mono (by decide)) (by rfl) passL (pa_cons (pv 7) (pa_cons (pv 8) pa_nil))) (pe_cmpR (op_eqD hr.units) (pv 9) (pe_lst pa_nil) (nomark _)) (nomark _)) 
                  (pss_one (ps_ret pe_bl)) pss_nil)
              (pss_cons (ps_if (pt_not (pt_val (pe_cal C_is_at_most (hr.mono (by decide)) (by rfl) passL (pa_cons (pv 7) (pa_cons (pe_callTy call_tuple_of (by rfl) B.b_tuple (by decide +kernel) (pa_cons (pv 7) pa_nil)) pa_nil))))) 
                  (pss_one (ps_ret pe_bl)) pss_nil)
              (pss_one (ps_if (pt_cmpR op_ne (pe_cal C_is_put_above (hr.mono (by decide)) (by rfl) pass0 (pa_cons (pv 7) (pa_cons (pv 8) pa_nil))) (pe_cmpR (op_neD hr.units) (pv 9) (pe_lst pa_nil) (nomark _)) (nomark _)) 
                  (pss_one (ps_ret pe_bl)) pss_nil)))))))
          (pss_cons (ps_par (i := 3) (j := 4) (by rfl) sc_law.nd rfl rfl (by decide) rfl rfl (pa_cons (pe_op op_add pe_int (pe_cal C_draw (hr.mono (by decide)) (by rfl) pass0 (pa_cons (pv 1) (pa_cons pe_int pa_nil)))) (pa_cons (pe_op op_add pe_int (pe_cal C_draw (hr.mono (by decide)) (by rfl) pass0 (pa_cons (pv 1) (pa_cons pe_int pa_nil)))) pa_nil)) (by rfl))
          (pss_cons (ps_for PassesOwn.never rfl (pi_range1 (by rfl) B.b_range (pa_cons pe_int pa_nil)) (pg_name (i := 6) sc_law.nd rfl (.inl rfl)) 
              (pss_cons (ps_asg (pe_cal C_new_pair (hr.mono (by decide)) (by rfl) pass0 (pa_cons (pv 1) (pa_cons (pv 3) (pa_cons (pv 4) pa_nil)))) (pg_tup (by rfl) (pgs_cons (pg_name (i := 7) sc_law.nd rfl (.inr rfl)) (pgs_cons (pg_name (i := 8) sc_law.nd rfl (.inr rfl)) pgs_nil))))
              (pss_one (ps_if (pt_cmpR op_eq (pe_cal C_is_at_most (hr.mono (by decide)) (by rfl) passL (pa_cons (pe_callTy call_tuple_of (by rfl) B.b_tuple (by decide +kernel) (pa_cons (pv 7) pa_nil)) (pa_cons (pv 8) pa_nil))) (pe_cal C_is_put_above (hr.mono (by decide)) (by rfl) pass0 (pa_cons (pv 7) (pa_cons (pv 8) pa_nil))) (nomark _)) 
                  (pss_one (ps_ret pe_bl)) pss_nil))))
          (C8.pss_cut (ps_if (PW.pt (pw_or (pt_not (pt_val (pe_cal C_is_refused (hr.mono (by decide)) (by rfl) pass0 (pa_cons (pv 7) (pa_cons (pe_op op_cat (pv 8) (pe_lst (pa_cons pe_int pa_nil))) pa_nil))))) (pw_or1 (pt_not (pt_val (pe_cal C_is_refused (hr.mono (by decide)) (by rfl) pass0 (pa_cons (pe_lst pa_nil) (pa_cons (pe_lst pa_nil) pa_nil)))))))) 
              (pss_one (ps_ret pe_bl)) pss_nil)
          (pss_one (ps_if (PW.pt (pw_or (pt_not (pt_val (pe_cal C_is_refused (hr.mono (by decide)) (by rfl) pass0 (pa_cons (pe_lst pa_nil) (pa_cons (pe_lst (pa_cons pe_int pa_nil)) pa_nil))))) (pw_or1 (pt_not (pt_val (pe_cal C_is_refused (hr.mono (by decide)) (by rfl) pass0 (pa_cons (pe_op op_cat (pv 7) (pe_lst (pa_cons pe_int pa_nil))) (pa_cons (pv 8) pa_nil)))))))) 
              (pss_one (ps_ret pe_bl)) pss_nil))))))))))
      (pss_one (ps_ret pe_bl)))), ?_⟩
    refine ⟨_, rfl, a, ns, rfl, ha, h63, fun H1 p s1 np c hp => ?_⟩
    refine ⟨_, rfl, a, _, rfl, .inl (s1.seq ha), _, _, rfl, _, _, rfl, rfl, _, rfl, ?_⟩
    have ht : ∀ x : Int, 0 ≤ x → -2 ^ 62 ≤ 2 + (if x < 2 then x else 2) ∧ 2 + (if x < 2 then x else 2) < 2 ^ 62 := fun x hx => by split <;> omega
    refine ⟨(ht _ (by omega)).1, (ht _ (by omega)).2, for_range (lo := 0) (n := (2 + if ((ns.map V.int).length : Int) < 2 then ((ns.map V.int).length : Int) else 2).toNat) (fun i σ H' => ∃ v2 v3 v4 v5 v6 v7 v8 v9 v10, σ = [some (.ref a), some (.ref p), v2, v3, v4, v5, v6, v7, v8, v9, v10] ∧ Pen H' p c (3000 * i))
      ⟨none, none, none, none, none, none, none, none, none, rfl, hp.mono (by omega)⟩ ?_ ?_⟩
    · rintro i σ H2 hi ⟨v2, v3, v4, v5, v6, v7, v8, v9, v10, rfl, hp2⟩
      have hi4 : i < 4 := by
        have e : (2 + if ((ns.map V.int).length : Int) < 2 then ((ns.map V.int).length : Int) else 2).toNat ≤ 4 := by split <;> omega
        omega
      refine ⟨_, rfl, p, c, 3, 3000 * i, rfl, hp2, by decide, by decide, by omega, fun r1 H3 r10 r13 hp3 s3 => ?_⟩
      refine ⟨_, _, rfl, rfl, ?_⟩
      refine ⟨_, rfl, p, c, 3, 3000 * i + 1, rfl, hp3, by decide, by decide, by omega, fun r2 H4 r20 r23 hp4 s4 => ?_⟩
      refine ⟨_, _, rfl, rfl, _, _, rfl, ?_⟩
      refine ⟨fun σ' H' => ∃ n m : Nat, σ' = [some (.ref a), some (.ref p), some (.int (0 + (i : Int))), some (.int n), some (.int m), v5, v6, v7, v8, v9, v10] ∧ H4 = H' ∧ 1 ≤ n ∧ n ≤ 3 ∧ m ≤ 3, ?_, ?_⟩
      · refine ⟨_, rfl, _, _, rfl, rfl, _, rfl, ?_⟩
        have e1 : ((1 + r1).toNat : Int) = 1 + r1 := Int.toNat_of_nonneg (by omega)
        refine ite2 (fun g => ?_) (fun g => ?_)
        · refine ⟨_, rfl, (1 + r1).toNat, (1 + r2).toNat, ?_, rfl, by omega, by omega, by omega⟩
          rw [e1, Int.toNat_of_nonneg (show 0 ≤ 1 + r2 by omega)]
          rfl
        · refine ⟨_, rfl, .inl ⟨_, rfl, _, _, rfl, ?_⟩⟩
          refine ⟨(1 + r1).toNat, (if 1 + r2 < 2 then 1 + r2 else 2).toNat, ?_, rfl, by omega, by omega, by split <;> omega⟩
          rw [e1, Int.toNat_of_nonneg (show 0 ≤ (if 1 + r2 < 2 then 1 + r2 else 2) by split <;> omega)]
          rfl
      rintro σ' H5 ⟨n, m, rfl, rfl, hn1, hn3, hm3⟩
      refine ⟨_, rfl, _, rfl, _, _, rfl, rfl, n, m + 1, rfl, hn3, by omega, fun H5 pl lvals s5 npl hpl hlv => ?_⟩
      have hp5 := hp4.same s5
      refine ⟨6, rfl, by decide, by decide, for_range (lo := 0) (n := 6) (fun j σ H' => ∃ v6 v7 v8 v9 v10, σ = [some (.ref a), some (.ref p), some (.int (0 + (i : Int))), some (.int n), some (.int m), some (.ref pl), v6, v7, v8, v9, v10] ∧ Pen H' p c (3000 * i + 2 + 200 * j) ∧ H' pl = some (.lst lvals) ∧ Paired (LAt K H') lvals (risV (rowsV n) (m + 1)))
        ⟨v6, v7, v8, v9, v10, rfl, hp5.mono (by omega), hpl, hlv⟩ ?_ ?_⟩
      · rintro j σ H6 hj ⟨v6, v7, v8, v9, v10, rfl, hp6, hpl6, hlv6⟩
        refine ⟨_, rfl, _, rfl, _, rfl, p, c, 3000 * i + 2 + 200 * j, n, m, rfl, hp6, hn1, by omega, by omega, by omega, fun H7 t ao ae k l s7 hp7 ht7 hao hae nk nl hk hl => ?_⟩
        refine ⟨t, _, rfl, sqT ht7, rfl, _, _, rfl, _, _, rfl, rfl, ?_⟩
        have hpl7 := s7.lst hp6 hpl6
        have hlv7 : Paired (LAt K H7) lvals (risV (rowsV n) (m + 1)) := pd_mono hlv6 fun _ _ => LAt.sb s7 hp6
        have hkl : k.length = l.length := by omega
        have hkn : k ≠ [] := fun z => by
          rw [z] at nk
          have : 0 = n := nk
          omega
        refine ⟨_, rfl, pl, rfl, ⟨_, sqL hpl7⟩, fun D nD => lc_list (K := K) (a := pl) (xs := lvals) (fun u H' => ∃ avals, Same H7 H' ∧ H' D = some (.lst avals) ∧ Paired (LAt K H7) avals (((risV (rowsV n) (m + 1)).take u).filter fun rows => !decide (numV (rowV rows k) ≤ numV (rowV rows l))))
          ⟨[], same_new nD, upd_same, .nil⟩ (fun u H' _ hP => ?_) ?_ ?_⟩
        · obtain ⟨_, s8, _⟩ := hP
          exact sqL (s8 _ _ hpl7)
        · rintro u x H8 hx ⟨avals, s8, hD, hav⟩
          obtain ⟨rows, hrows, hL⟩ := pd_get hlv7 hx
          obtain ⟨ar, ovals, ex, har, hov⟩ := id hL
          subst ex
          have R := (mem_risV (rowsV_pw n) (m + 1) rows).mp (List.mem_of_getElem? hrows)
          have llen : avals.length ≤ 4096 := by
            have h1 := pd_length hav
            have h2 : (((risV (rowsV n) (m + 1)).take u).filter fun rows => !decide (numV (rowV rows k) ≤ numV (rowV rows l))).length ≤ (risV (rowsV n) (m + 1)).length := Nat.le_trans (List.length_filter_le _ _) (by rw [List.length_take]; omega)
            have h3 := risV_len (rowsV n) 8 (by rw [rowsV_len]; exact Nat.pow_le_pow_right (n := 2) (j := 3) (by decide) hn3) (m + 1)
            have h4 : 8 ^ (m + 1) ≤ 8 ^ 4 := Nat.pow_le_pow_right (by decide) (by omega)
            omega
          refine ⟨rfl, ?_⟩
          refine ⟨_, rfl, _, rfl, _, rfl, ao, ae, ar, ovals, rows, k, l, n, m, rfl, .inl (sqL (s8 _ _ hao)), .inl (sqL (s8 _ _ hae)), sqL (s8 _ _ har), rows_same s8 hov, nk, nl, by omega, hk.inV, hl.inV, R, fun H9 s9 => ?_⟩
          refine ⟨_, rfl, ?_⟩
          have s89 := s8.trans s9
          refine iteB (fun g => ?_) (fun g => ?_)
          · refine ⟨_, rfl, avals, s9 _ _ hD, Nat.lt_of_le_of_lt llen (by decide), avals ++ [.ref ar], fun b o e => ?_, upd_same, ?_⟩
            · rw [upd_ne (ne_of_none e nD)]
              exact s89 b o e
            · rw [List.take_add_one, hrows, List.filter_append]
              refine pd_app hav ?_
              show Paired _ _ (List.filter _ [rows])
              rw [List.filter_cons_of_pos (by exact g)]
              exact .cons hL .nil
          · refine ⟨avals, s89, s9 _ _ hD, ?_⟩
            rw [List.take_add_one, hrows, List.filter_append]
            show Paired _ _ (_ ++ List.filter _ [rows])
            rw [List.filter_cons_of_neg (by rw [g]; decide), List.filter_nil, List.append_nil]
            exact hav
        · rintro H8 ⟨avals, s8, hD, hav⟩
          rw [pd_length hlv7, List.take_length] at hav
          have hao8 := s8 _ _ hao
          have hae8 := s8 _ _ hae
          have main := fault_iff hk.inV hl.inV nk nl
          refine ⟨_, rfl, _, rfl, ao, ae, k, l, rfl, .inl (sqL hao8), .inl (sqL hae8), by omega, fun _ H9 s9 => ?_, fun z => absurd ⟨hkl, hkn⟩ z⟩
          have s89 := s8.trans s9
          refine ⟨_, rfl, Nat.zero_le _, fun e0 ne0 => ?_⟩
          have s10 := same_new (o := .lst []) ne0
          have s810 := s89.trans s10
          refine ⟨.list (((risV (rowsV n) (m + 1)).filter fun rows => !decide (numV (rowV rows k) ≤ numV (rowV rows l))).map lstD), .list [], .lst (sqL (s10 _ _ (s9 _ _ hD))) (dp_lats (lats_same s810 hav)), .lst (sqL upd_same) .nil, okD_shaped (okD_list (okD_lsts 0 _)) (by decide), rfl, ?_⟩
          rw [eqv_nil]
          have e9 : (faultV k l).isNone = (((risV (rowsV n) (m + 1)).filter fun rows => !decide (numV (rowV rows k) ≤ numV (rowV rows l))).map lstD).isEmpty := by
            rw [Bool.eq_iff_iff, Option.isNone_iff_eq_none, main, List.isEmpty_iff, List.map_eq_nil_iff]
          refine ⟨rfl, _, rfl, iteNS (congrArg V.bl e9) ?_⟩
          have hao10 := s10 _ _ (s9 _ _ hao8)
          refine ⟨_, rfl, _, rfl, ao, _, rfl, .inl ⟨sqL hao10, fun e1 ne1 => ?_⟩⟩
          have s11 := same_new (o := .tup (k.map V.int)) ne1
          refine ⟨ao, e1, k, k, rfl, .inl (sqL (s11 _ _ hao10)), .inr (sqT upd_same), by omega, fun _ H12 s12 => ?_, fun z => absurd ⟨rfl, hkn⟩ z⟩
          refine ⟨_, rfl, ?_⟩
          rw [fault_self]
          refine iteF ?_
          have s13 : Same H8 H12 := s9.trans (s10.trans (s11.trans s12))
          refine ⟨_, rfl, _, rfl, ao, ae, k, l, rfl, .inl (sqL (s13 _ _ hao8)), .inl (sqL (s13 _ _ hae8)), hkl, by omega, fun H14 s14 => ?_⟩
          refine ⟨_, rfl, Nat.zero_le _, fun e2 ne2 => ?_⟩
          have s15 := same_new (o := .lst []) ne2
          have s814 := s8.trans (s13.trans (s14.trans s15))
          refine ⟨.list (((risV (rowsV n) (m + 1)).filter fun rows => !decide (numV (rowV rows k) ≤ numV (rowV rows l))).map lstD), .list [], .lst (sqL (s15 _ _ (s14 _ _ (s13 _ _ hD)))) (dp_lats (lats_same s814 hav)), .lst (sqL upd_same) .nil, okD_shaped (okD_list (okD_lsts 0 _)) (by decide), rfl, ?_⟩
          rw [eqv_nil]
          refine ⟨rfl, _, rfl, iteNS (congrArg V.bl ?_) ?_⟩
          · rw [put_is, ← e9]
            cases faultV k l <;> rfl
          · exact ⟨_, _, _, _, _, rfl, (hp7.same s814).mono (by omega), s814 _ _ hpl7, lats_same s814 hlv7⟩
      · rintro σ H6 ⟨v6, v7, v8, v9, v10, rfl, hp6, hpl6, hlv6⟩
        refine ⟨_, rfl, p, c, 59, 3000 * i + 1202, rfl, hp6.mono (by omega), by decide, by decide, by omega, fun r3 H7 r30 r33 hp7 s7 => ?_⟩
        refine ⟨_, _, rfl, rfl, ?_⟩
        refine ⟨_, rfl, p, c, 60, 3000 * i + 1203, rfl, hp7.mono (by omega), by decide, by decide, by omega, fun r4 H8 r40 r43 hp8 s8 => ?_⟩
        refine ⟨_, _, rfl, rfl, _, _, rfl, ?_⟩
        have en : (1 + r3) = (((1 + r3).toNat : Nat) : Int) := (Int.toNat_of_nonneg (by omega)).symm
        have em : (1 + r4) = (((1 + r4).toNat : Nat) : Int) := (Int.toNat_of_nonneg (by omega)).symm
        have hn1' : 1 ≤ (1 + r3).toNat := by omega
        have hn2' : (1 + r3).toNat ≤ 60 := by omega
        have hm2' : (1 + r4).toNat ≤ 60 := by omega
        generalize (1 + r3).toNat = n2 at en hn1' hn2'
        generalize (1 + r4).toNat = m2 at em hm2'
        refine ⟨4, rfl, by decide, by decide, for_range (lo := 0) (n := 4) (fun j σ H' => ∃ v6 v7 v8 v9 v10, σ = [some (.ref a), some (.ref p), some (.int (0 + (i : Int))), some (.int n2), some (.int m2), some (.ref pl), v6, v7, v8, v9, v10] ∧ Pen H' p c (3000 * i + 1204 + 200 * j) ∧
          (0 < j → ∃ (ao ae : Addr) (k l : List Int), v7 = some (.ref ao) ∧ v8 = some (.ref ae) ∧ H' ao = some (.lst (k.map V.int)) ∧ H' ae = some (.lst (l.map V.int)) ∧ k.length = n2 ∧ l.length = n2))
          ⟨v6, v7, v8, v9, v10, ?_, hp8.mono (by omega), fun z => absurd z (Nat.lt_irrefl _)⟩ ?_ ?_⟩
        · rw [← en, ← em]
          rfl
        · rintro j σ H9 hj ⟨v6, v7, v8, v9, v10, rfl, hp9, _⟩
          refine ⟨_, rfl, _, rfl, _, rfl, p, c, 3000 * i + 1204 + 200 * j, n2, m2, rfl, hp9, hn1', hn2', hm2', by omega, fun H10 t ao ae k l s10 hp10 ht10 hao hae nk nl hk hl => ?_⟩
          refine ⟨t, _, rfl, sqT ht10, rfl, _, _, rfl, _, _, rfl, rfl, ?_⟩
          have hkl : k.length = l.length := by omega
          have hkn : k ≠ [] := fun z => by
            rw [z] at nk
            have : 0 = n2 := nk
            omega
          refine ⟨_, rfl, ao, _, rfl, .inl ⟨sqL hao, fun e1 ne1 => ?_⟩⟩
          have s11 := same_new (o := .tup (k.map V.int)) ne1
          refine ⟨_, rfl, e1, ae, k, l, rfl, .inr (sqT upd_same), .inl (sqL (s11 _ _ hae)), by omega, fun _ H12 s12 => ?_, fun z => absurd ⟨hkl, hkn⟩ z⟩
          have s112 := s11.trans s12
          refine ⟨_, rfl, _, rfl, ao, ae, k, l, rfl, .inl (sqL (s112 _ _ hao)), .inl (sqL (s112 _ _ hae)), hkl, by omega, fun H13 s13 => ?_⟩
          have s113 := s112.trans s13
          refine ⟨rfl, _, rfl, ?_⟩
          rw [put_is]
          have ef : decide (V.bl (faultV k l).isNone = V.bl (faultV k l).isSome) = false := by cases faultV k l <;> rfl
          rw [ef]
          refine iteF ?_
          exact ⟨_, _, _, _, _, rfl, (hp10.same s113).mono (by omega), fun _ => ⟨ao, ae, k, l, rfl, rfl, s113 _ _ hao, s113 _ _ hae, nk, nl⟩⟩
        · rintro σ H9 ⟨v6, v7, v8, v9, v10, rfl, hp9, hlast⟩
          obtain ⟨ao, ae, k, l, rfl, rfl, hao, hae, nk, nl⟩ := hlast (by decide)
          refine ⟨fun σ' H' => σ' = [some (.ref a), some (.ref p), some (.int (0 + (i : Int))), some (.int n2), some (.int m2), some (.ref pl), v6, some (.ref ao), some (.ref ae), v9, v10] ∧ Same H9 H', ?_, ?_⟩
          · refine ⟨_, rfl, _, rfl, by show 1 ≤ sizeLine; decide, fun e1 ne1 => ?_⟩
            have s10 := same_new (o := .lst [.int 0]) ne1
            refine ⟨ae, e1, _, _, rfl, rfl, s10 _ _ hae, upd_same, Nat.le_of_lt (small1000 (by rw [List.length_map]; show l.length + 1 ≤ 1000; omega)), fun e2 ne2 => ?_⟩
            have s11 := same_new (o := .lst (l.map V.int ++ [.int 0])) ne2
            have s1011 := s10.trans s11
            refine ⟨ao, e2, k, l ++ [0], rfl, .inl (sqL (s1011 _ _ hao)), .inl (sqL (by rw [upd_same, List.map_append]; rfl)), by omega, fun z => ?_, ?_⟩
            · have := z.1
              rw [List.length_append] at this
              have : k.length = l.length + 1 := this
              omega
            refine ⟨_, rfl, iteF ?_⟩
            refine ⟨Nat.zero_le _, fun e3 ne3 => ?_⟩
            refine ⟨Nat.zero_le _, fun e4 ne4 => ?_⟩
            have s12 := same_new (o := .lst []) ne3
            have s13 := same_new (o := .lst []) ne4
            refine ⟨e3, e4, [], [], rfl, .inl (sqL (s13 _ _ upd_same)), .inl (sqL upd_same), by decide, fun z => z.2 rfl, ?_⟩
            refine ⟨_, rfl, iteF ?_⟩
            exact ⟨rfl, s1011.trans (s12.trans s13)⟩
          rintro σ' H10 ⟨rfl, s10⟩
          refine ⟨Nat.zero_le _, fun e3 ne3 => ?_⟩
          refine ⟨by show 1 ≤ sizeLine; decide, fun e4 ne4 => ?_⟩
          have s12 := same_new (o := .lst []) ne3
          have s13 := same_new (o := .lst [.int 0]) ne4
          refine ⟨e3, e4, [], [0], rfl, .inl (sqL (s13 _ _ upd_same)), .inl (sqL upd_same), by decide, fun z => z.2 rfl, ?_⟩
          refine ⟨_, rfl, iteF ?_⟩
          have s14 := s10.trans (s12.trans s13)
          refine ⟨_, rfl, by show 1 ≤ sizeLine; decide, fun e5 ne5 => ?_⟩
          have s15 := same_new (o := .lst [.int 0]) ne5
          have s16 := s14.trans s15
          refine ⟨ao, e5, _, _, rfl, rfl, s16 _ _ hao, upd_same, Nat.le_of_lt (small1000 (by rw [List.length_map]; show k.length + 1 ≤ 1000; omega)), fun e6 ne6 => ?_⟩
          have s17 := same_new (o := .lst (k.map V.int ++ [.int 0])) ne6
          have s18 := s16.trans s17
          refine ⟨_, rfl, e6, ae, k ++ [0], l, rfl, .inl (sqL (by rw [upd_same, List.map_append]; rfl)), .inl (sqL (s18 _ _ hae)), by rw [List.length_append]; show k.length + 1 ≤ 1000; omega, fun z => ?_, ?_⟩
          · have := z.1
            rw [List.length_append] at this
            have : k.length + 1 = l.length := this
            omega
          refine ⟨_, rfl, iteF ?_⟩
          exact ⟨_, _, _, _, _, _, _, _, _, rfl, (hp9.same s18).mono (by omega)⟩
    · rintro σ H2 ⟨v2, v3, v4, v5, v6, v7, v8, v9, v10, rfl, hp2⟩
      exact q H2
end
end Dg
namespace Dg
open PySem PySem.Spec PyProof.Rows L2
theorem all_mk {P : Program} {w : World} {K : PySem.W.Frag} {h : Heap} {mg : Str → Option Value} {fa : Addr} (X : K.In h) (G : h.Ns mainGlobals mg) (hfa : mg "law" = some (.ref fa))
    {od0 an0 : Option Addr} {sl0 : Array (Option Value)} {oc0 kV0 dc0 pm0 cd0 ct0 : Value} {f0 : Addr}
    {od1 an1 : Option Addr} {sl1 : Array (Option Value)} {oc1 kV1 dc1 pm1 cd1 ct1 : Value} {f1 : Addr}
    {od2 an2 : Option Addr} {sl2 : Array (Option Value)} {oc2 kV2 dc2 pm2 cd2 ct2 : Value} {f2 : Addr}
    {od3 an3 : Option Addr} {sl3 : Array (Option Value)} {oc3 kV3 dc3 pm3 cd3 ct3 : Value} {f3 : Addr}
    {od4 an4 : Option Addr} {sl4 : Array (Option Value)} {oc4 kV4 dc4 pm4 cd4 ct4 : Value} {f4 : Addr}
    {od5 an5 : Option Addr} {sl5 : Array (Option Value)} {oc5 kV5 dc5 pm5 cd5 ct5 : Value} {f5 : Addr}
    {od6 an6 : Option Addr} {sl6 : Array (Option Value)} {oc6 kV6 dc6 pm6 cd6 ct6 : Value} {f6 : Addr}
    {od7 an7 : Option Addr} {sl7 : Array (Option Value)} {oc7 kV7 dc7 pm7 cd7 ct7 : Value} {f7 : Addr}
    {od8 an8 : Option Addr} {sl8 : Array (Option Value)} {oc8 kV8 dc8 pm8 cd8 ct8 : Value} {f8 : Addr}
    {od9 an9 : Option Addr} {sl9 : Array (Option Value)} {oc9 kV9 dc9 pm9 cd9 ct9 : Value} {f9 : Addr}
    {od10 an10 : Option Addr} {sl10 : Array (Option Value)} {oc10 kV10 dc10 pm10 cd10 ct10 : Value} {f10 : Addr}
    {od11 an11 : Option Addr} {sl11 : Array (Option Value)} {oc11 kV11 dc11 pm11 cd11 ct11 : Value} {f11 : Addr}
    {od12 an12 : Option Addr} {sl12 : Array (Option Value)} {oc12 kV12 dc12 pm12 cd12 ct12 : Value} {f12 : Addr}
    {od13 an13 : Option Addr} {sl13 : Array (Option Value)} {oc13 kV13 dc13 pm13 cd13 ct13 : Value} {f13 : Addr}
    {od14 an14 : Option Addr} {sl14 : Array (Option Value)} {oc14 kV14 dc14 pm14 cd14 ct14 : Value} {f14 : Addr}
    {od15 an15 : Option Addr} {sl15 : Array (Option Value)} {oc15 kV15 dc15 pm15 cd15 ct15 : Value} {f15 : Addr}
    {cE_BadVersions : Addr}
    {cT : Addr}
    (a0 : PySem.W.nsIn K mainGlobals "_law_draw" = some (some (.ref f0)))
    (l0 : K.lookup f0 = some ⟨oc0, od0, .func (PySem.W.fnOf "_law_draw" "_law_draw" (defArgs s_draw) (defBody s_draw) (defScope s_draw) .none kV0 dc0 pm0 an0 cd0 ct0), sl0⟩)
    (c0 : PySem.W.codeIn K cd0 "_law_draw" = true)
    (k0 : PySem.W.keepIn K (.ref f0) = true)
    (a1 : PySem.W.nsIn K mainGlobals "carry_version" = some (some (.ref f1)))
    (l1 : K.lookup f1 = some ⟨oc1, od1, .func (PySem.W.fnOf "carry_version" "carry_version" (defArgs s_carry_version) (defBody s_carry_version) (defScope s_carry_version) .none kV1 dc1 pm1 an1 cd1 ct1), sl1⟩)
    (c1 : PySem.W.codeIn K cd1 "carry_version" = true)
    (k1 : PySem.W.keepIn K (.ref f1) = true)
    (a2 : PySem.W.nsIn K mainGlobals "fault" = some (some (.ref f2)))
    (l2 : K.lookup f2 = some ⟨oc2, od2, .func (PySem.W.fnOf "fault" "fault" (defArgs s_fault) (defBody s_fault) (defScope s_fault) .none kV2 dc2 pm2 an2 cd2 ct2), sl2⟩)
    (c2 : PySem.W.codeIn K cd2 "fault" = true)
    (k2 : PySem.W.keepIn K (.ref f2) = true)
    (a3 : PySem.W.nsIn K mainGlobals "check_lengths" = some (some (.ref f3)))
    (l3 : K.lookup f3 = some ⟨oc3, od3, .func (PySem.W.fnOf "check_lengths" "check_lengths" (defArgs s_check_lengths) (defBody s_check_lengths) (defScope s_check_lengths) .none kV3 dc3 pm3 an3 cd3 ct3), sl3⟩)
    (c3 : PySem.W.codeIn K cd3 "check_lengths" = true)
    (k3 : PySem.W.keepIn K (.ref f3) = true)
    (a4 : PySem.W.nsIn K mainGlobals "is_at_most" = some (some (.ref f4)))
    (l4 : K.lookup f4 = some ⟨oc4, od4, .func (PySem.W.fnOf "is_at_most" "is_at_most" (defArgs s_is_at_most) (defBody s_is_at_most) (defScope s_is_at_most) .none kV4 dc4 pm4 an4 cd4 ct4), sl4⟩)
    (c4 : PySem.W.codeIn K cd4 "is_at_most" = true)
    (k4 : PySem.W.keepIn K (.ref f4) = true)
    (a5 : PySem.W.nsIn K mainGlobals "_law_begun_pen" = some (some (.ref f5)))
    (l5 : K.lookup f5 = some ⟨oc5, od5, .func (PySem.W.fnOf "_law_begun_pen" "_law_begun_pen" (defArgs s_begun_pen) (defBody s_begun_pen) (defScope s_begun_pen) .none kV5 dc5 pm5 an5 cd5 ct5), sl5⟩)
    (c5 : PySem.W.codeIn K cd5 "_law_begun_pen" = true)
    (k5 : PySem.W.keepIn K (.ref f5) = true)
    (a6 : PySem.W.nsIn K mainGlobals "_law_row" = some (some (.ref f6)))
    (l6 : K.lookup f6 = some ⟨oc6, od6, .func (PySem.W.fnOf "_law_row" "_law_row" (defArgs s_row) (defBody s_row) (defScope s_row) .none kV6 dc6 pm6 an6 cd6 ct6), sl6⟩)
    (c6 : PySem.W.codeIn K cd6 "_law_row" = true)
    (k6 : PySem.W.keepIn K (.ref f6) = true)
    (a7 : PySem.W.nsIn K mainGlobals "_law_number" = some (some (.ref f7)))
    (l7 : K.lookup f7 = some ⟨oc7, od7, .func (PySem.W.fnOf "_law_number" "_law_number" (defArgs s_number) (defBody s_number) (defScope s_number) .none kV7 dc7 pm7 an7 cd7 ct7), sl7⟩)
    (c7 : PySem.W.codeIn K cd7 "_law_number" = true)
    (k7 : PySem.W.keepIn K (.ref f7) = true)
    (a8 : PySem.W.nsIn K mainGlobals "_law_rows" = some (some (.ref f8)))
    (l8 : K.lookup f8 = some ⟨oc8, od8, .func (PySem.W.fnOf "_law_rows" "_law_rows" (defArgs s_rows) (defBody s_rows) (defScope s_rows) .none kV8 dc8 pm8 an8 cd8 ct8), sl8⟩)
    (c8 : PySem.W.codeIn K cd8 "_law_rows" = true)
    (k8 : PySem.W.keepIn K (.ref f8) = true)
    (a9 : PySem.W.nsIn K mainGlobals "_law_risings" = some (some (.ref f9)))
    (l9 : K.lookup f9 = some ⟨oc9, od9, .func (PySem.W.fnOf "_law_risings" "_law_risings" (defArgs s_risings) (defBody s_risings) (defScope s_risings) .none kV9 dc9 pm9 an9 cd9 ct9), sl9⟩)
    (c9 : PySem.W.codeIn K cd9 "_law_risings" = true)
    (k9 : PySem.W.keepIn K (.ref f9) = true)
    (a10 : PySem.W.nsIn K mainGlobals "_law_is_below" = some (some (.ref f10)))
    (l10 : K.lookup f10 = some ⟨oc10, od10, .func (PySem.W.fnOf "_law_is_below" "_law_is_below" (defArgs s_is_below) (defBody s_is_below) (defScope s_is_below) .none kV10 dc10 pm10 an10 cd10 ct10), sl10⟩)
    (c10 : PySem.W.codeIn K cd10 "_law_is_below" = true)
    (k10 : PySem.W.keepIn K (.ref f10) = true)
    (a11 : PySem.W.nsIn K mainGlobals "_law_code" = some (some (.ref f11)))
    (l11 : K.lookup f11 = some ⟨oc11, od11, .func (PySem.W.fnOf "_law_code" "_law_code" (defArgs s_code) (defBody s_code) (defScope s_code) .none kV11 dc11 pm11 an11 cd11 ct11), sl11⟩)
    (c11 : PySem.W.codeIn K cd11 "_law_code" = true)
    (k11 : PySem.W.keepIn K (.ref f11) = true)
    (a12 : PySem.W.nsIn K mainGlobals "_law_is_put_above" = some (some (.ref f12)))
    (l12 : K.lookup f12 = some ⟨oc12, od12, .func (PySem.W.fnOf "_law_is_put_above" "_law_is_put_above" (defArgs s_is_put_above) (defBody s_is_put_above) (defScope s_is_put_above) .none kV12 dc12 pm12 an12 cd12 ct12), sl12⟩)
    (c12 : PySem.W.codeIn K cd12 "_law_is_put_above" = true)
    (k12 : PySem.W.keepIn K (.ref f12) = true)
    (a13 : PySem.W.nsIn K mainGlobals "_law_new_pair" = some (some (.ref f13)))
    (l13 : K.lookup f13 = some ⟨oc13, od13, .func (PySem.W.fnOf "_law_new_pair" "_law_new_pair" (defArgs s_new_pair) (defBody s_new_pair) (defScope s_new_pair) .none kV13 dc13 pm13 an13 cd13 ct13), sl13⟩)
    (c13 : PySem.W.codeIn K cd13 "_law_new_pair" = true)
    (k13 : PySem.W.keepIn K (.ref f13) = true)
    (a14 : PySem.W.nsIn K mainGlobals "_law_is_refused" = some (some (.ref f14)))
    (l14 : K.lookup f14 = some ⟨oc14, od14, .func (PySem.W.fnOf "_law_is_refused" "_law_is_refused" (defArgs s_is_refused) (defBody s_is_refused) (defScope s_is_refused) .none kV14 dc14 pm14 an14 cd14 ct14), sl14⟩)
    (c14 : PySem.W.codeIn K cd14 "_law_is_refused" = true)
    (k14 : PySem.W.keepIn K (.ref f14) = true)
    (a15 : PySem.W.nsIn K mainGlobals "law" = some (some (.ref f15)))
    (l15 : K.lookup f15 = some ⟨oc15, od15, .func (PySem.W.fnOf "law" "law" (defArgs s_law) (defBody s_law) (defScope s_law) .none kV15 dc15 pm15 an15 cd15 ct15), sl15⟩)
    (c15 : PySem.W.codeIn K cd15 "law" = true)
    (k15 : PySem.W.keepIn K (.ref f15) = true)
    (aE_BadVersions : PySem.W.nsIn K mainGlobals "BadVersions" = some (some (.ref cE_BadVersions)))
    (xE_BadVersions : PySem.W.excIn K cE_BadVersions [.type "ValueError", .type "Exception", .type "BaseException", .type "object"] "ValueError.__new__" = true)
    (kE_BadVersions : PySem.W.keepIn K (.ref cE_BadVersions) = true)
    (bE_BadVersions : PySem.W.subIn K (.ref cE_BadVersions) (.type "BaseException") = some true)
    (tE_BadVersions : PySem.W.typeIn K (.ref cE_BadVersions) = some (.type "type"))
    (iE_BadVersions : PySem.W.isClsIn K cE_BadVersions = true)
    (sE_BadVersions : PySem.W.subIn K (.ref cE_BadVersions) (.ref cE_BadVersions) = some true)
    (aT : PySem.W.nsIn K mainGlobals "TurnError" = some (some (.ref cT)))
    (g1_BadVersions : PySem.W.findIn K (.ref cE_BadVersions) "__getattribute__" = some (some (.builtin "BaseException.__getattribute__")))
    (g2_BadVersions : PySem.W.findIn K (.ref cE_BadVersions) "__getattr__" = some none)
    (g3_BadVersions : PySem.W.hasDictIn K cE_BadVersions = true)
    (g4_BadVersions : PySem.W.findIn K (.ref cE_BadVersions) "__class__" = some (some (.builtin "object.__class__")))
    (g5_BadVersions : PySem.W.specialIn K (.builtin "object.__class__") "__get__" = some (some (.builtin "getset_descriptor.__get__")))
    (g6_BadVersions : PySem.W.takesIn K (.builtin "object.__class__") = some true)
    (g7_BadVersions : PySem.W.mroIn K cE_BadVersions (.type "object") = some true)
    (kT_BadVersions : PySem.W.kitOne K (.ref cE_BadVersions) (.ref cT) = some true)
    (kV_BadVersions : PySem.W.kitOne K (.ref cE_BadVersions) (.type "ValueError") = some true)
    (z_abs : PySem.W.nsIn K mainGlobals "abs" = some none)
    (z_all : PySem.W.nsIn K mainGlobals "all" = some none)
    (z_dict : PySem.W.nsIn K mainGlobals "dict" = some none)
    (z_enumerate : PySem.W.nsIn K mainGlobals "enumerate" = some none)
    (z_int : PySem.W.nsIn K mainGlobals "int" = some none)
    (z_isinstance : PySem.W.nsIn K mainGlobals "isinstance" = some none)
    (z_len : PySem.W.nsIn K mainGlobals "len" = some none)
    (z_list : PySem.W.nsIn K mainGlobals "list" = some none)
    (z_max : PySem.W.nsIn K mainGlobals "max" = some none)
    (z_min : PySem.W.nsIn K mainGlobals "min" = some none)
    (z_range : PySem.W.nsIn K mainGlobals "range" = some none)
    (z_repr : PySem.W.nsIn K mainGlobals "repr" = some none)
    (z_sorted : PySem.W.nsIn K mainGlobals "sorted" = some none)
    (z_str : PySem.W.nsIn K mainGlobals "str" = some none)
    (z_sum : PySem.W.nsIn K mainGlobals "sum" = some none)
    (z_tuple : PySem.W.nsIn K mainGlobals "tuple" = some none)
    (z_zip : PySem.W.nsIn K mainGlobals "zip" = some none)
    (z_ValueError : PySem.W.nsIn K mainGlobals "ValueError" = some none) :
    ∃ fd : FuncData, (∀ (s : Shared) (v : Value), BindsTo s fd ⟨[v], []⟩ [("script", v)]) ∧ ∀ base : Heap, K.In base → base.Ns mainGlobals mg → FnOk P w K mg base CX0 5 fa fd ["script"] (spLaw K) := by
  have e := hfa.symm.trans (PySem.W.mg_of X G a15)
  cases e
  have F0 := fun_mk (st := s_draw) l0 c0 k0
  have b0 := F0.binds (ps := P_draw) fun _ _ _ _ _ _ us hl => match us, hl with | [_, _], _ => rfl
  have F1 := fun_mk (st := s_carry_version) l1 c1 k1
  have b1 := F1.binds (ps := P_carry_version) fun _ _ _ _ _ _ us hl => match us, hl with | [_, _, _, _], _ => rfl
  have F2 := fun_mk (st := s_fault) l2 c2 k2
  have b2 := F2.binds (ps := P_fault) fun _ _ _ _ _ _ us hl => match us, hl with | [_, _], _ => rfl
  have F3 := fun_mk (st := s_check_lengths) l3 c3 k3
  have b3 := F3.binds (ps := P_check_lengths) fun _ _ _ _ _ _ us hl => match us, hl with | [_, _], _ => rfl
  have F4 := fun_mk (st := s_is_at_most) l4 c4 k4
  have b4 := F4.binds (ps := P_is_at_most) fun _ _ _ _ _ _ us hl => match us, hl with | [_, _], _ => rfl
  have F5 := fun_mk (st := s_begun_pen) l5 c5 k5
  have b5 := F5.binds (ps := P_begun_pen) fun _ _ _ _ _ _ us hl => match us, hl with | [_], _ => rfl
  have F6 := fun_mk (st := s_row) l6 c6 k6
  have b6 := F6.binds (ps := P_row) fun _ _ _ _ _ _ us hl => match us, hl with | [_, _], _ => rfl
  have F7 := fun_mk (st := s_number) l7 c7 k7
  have b7 := F7.binds (ps := P_number) fun _ _ _ _ _ _ us hl => match us, hl with | [_], _ => rfl
  have F8 := fun_mk (st := s_rows) l8 c8 k8
  have b8 := F8.binds (ps := P_rows) fun _ _ _ _ _ _ us hl => match us, hl with | [_], _ => rfl
  have F9 := fun_mk (st := s_risings) l9 c9 k9
  have b9 := F9.binds (ps := P_risings) fun _ _ _ _ _ _ us hl => match us, hl with | [_, _], _ => rfl
  have F10 := fun_mk (st := s_is_below) l10 c10 k10
  have b10 := F10.binds (ps := P_is_below) fun _ _ _ _ _ _ us hl => match us, hl with | [_, _, _], _ => rfl
  have F11 := fun_mk (st := s_code) l11 c11 k11
  have b11 := F11.binds (ps := P_code) fun _ _ _ _ _ _ us hl => match us, hl with | [_, _, _, _], _ => rfl
  have F12 := fun_mk (st := s_is_put_above) l12 c12 k12
  have b12 := F12.binds (ps := P_is_put_above) fun _ _ _ _ _ _ us hl => match us, hl with | [_, _], _ => rfl
  have F13 := fun_mk (st := s_new_pair) l13 c13 k13
  have b13 := F13.binds (ps := P_new_pair) fun _ _ _ _ _ _ us hl => match us, hl with | [_, _, _], _ => rfl
  have F14 := fun_mk (st := s_is_refused) l14 c14 k14
  have b14 := F14.binds (ps := P_is_refused) fun _ _ _ _ _ _ us hl => match us, hl with | [_, _], _ => rfl
  have F15 := fun_mk (st := s_law) l15 c15 k15
  have E_BadVersions : Ec K mg "BadVersions" cE_BadVersions := ⟨PySem.W.mg_of X G aE_BadVersions, xE_BadVersions, kE_BadVersions, bE_BadVersions, tE_BadVersions, iE_BadVersions, sE_BadVersions⟩
  have B : Bi mg := ⟨PySem.W.mg_none_of X G z_abs, PySem.W.mg_none_of X G z_all, PySem.W.mg_none_of X G z_dict, PySem.W.mg_none_of X G z_enumerate, PySem.W.mg_none_of X G z_int, PySem.W.mg_none_of X G z_isinstance, PySem.W.mg_none_of X G z_len, PySem.W.mg_none_of X G z_list, PySem.W.mg_none_of X G z_max, PySem.W.mg_none_of X G z_min, PySem.W.mg_none_of X G z_range, PySem.W.mg_none_of X G z_repr, PySem.W.mg_none_of X G z_sorted, PySem.W.mg_none_of X G z_str, PySem.W.mg_none_of X G z_sum, PySem.W.mg_none_of X G z_tuple, PySem.W.mg_none_of X G z_zip, PySem.W.mg_none_of X G z_ValueError⟩
  have X_BadVersions : Ei K mg cE_BadVersions cT := ⟨⟨g1_BadVersions, g2_BadVersions, bE_BadVersions, g3_BadVersions, g4_BadVersions, g5_BadVersions, g6_BadVersions, g7_BadVersions⟩, PySem.W.mg_of X G aT, kT_BadVersions, kV_BadVersions⟩
  refine ⟨PySem.W.fnOf "law" "law" (defArgs s_law) (defBody s_law) (defScope s_law) .none kV15 dc15 pm15 an15 cd15 ct15, fun s v => .of_eq rfl, fun base _ _ => ?_⟩
  have C_draw : Cal P w K mg base CX0 1 "_law_draw" P_draw spDraw := ⟨f0, _, ok_draw F0 B, PySem.W.mg_of X G a0, k0, b0⟩
  have C_carry_version : Cal P w K mg base CX0 1 "carry_version" P_carry_version (spCarry K) := ⟨f1, _, ok_carry F1, PySem.W.mg_of X G a1, k1, b1⟩
  have C_fault : Cal P w K mg base CX0 2 "fault" P_fault (spFault K) := ⟨f2, _, ok_fault F2 B C_carry_version, PySem.W.mg_of X G a2, k2, b2⟩
  have C_check_lengths : Cal P w K mg base (L2.CX P w) 1 "check_lengths" P_check_lengths (spCheck K cE_BadVersions) := ⟨f3, _, ok_check F3 B E_BadVersions, PySem.W.mg_of X G a3, k3, b3⟩
  have C_is_at_most : Cal P w K mg base (L2.CX P w) 3 "is_at_most" P_is_at_most (spAtMost K cE_BadVersions) := ⟨f4, _, ok_atmost F4 B C_check_lengths C_fault, PySem.W.mg_of X G a4, k4, b4⟩
  have C_begun_pen : Cal P w K mg base CX0 1 "_law_begun_pen" P_begun_pen (spBegun K) := ⟨f5, _, ok_begun F5 B, PySem.W.mg_of X G a5, k5, b5⟩
  have C_row : Cal P w K mg base CX0 1 "_law_row" P_row (spRow K) := ⟨f6, _, ok_row F6 B, PySem.W.mg_of X G a6, k6, b6⟩
  have C_number : Cal P w K mg base CX0 1 "_law_number" P_number (spNumber K) := ⟨f7, _, ok_number F7, PySem.W.mg_of X G a7, k7, b7⟩
  have C_rows : Cal P w K mg base CX0 1 "_law_rows" P_rows (spRows K) := ⟨f8, _, ok_rows F8 B, PySem.W.mg_of X G a8, k8, b8⟩
  have C_risings : Cal P w K mg base CX0 2 "_law_risings" P_risings (spRisings K) := ⟨f9, _, ok_risings F9 B C_rows, PySem.W.mg_of X G a9, k9, b9⟩
  have C_is_below : Cal P w K mg base CX0 2 "_law_is_below" P_is_below (spBelow K) := ⟨f10, _, ok_below F10 C_row C_number, PySem.W.mg_of X G a10, k10, b10⟩
  have C_code : Cal P w K mg base CX0 1 "_law_code" P_code (spCode K) := ⟨f11, _, ok_code F11 B, PySem.W.mg_of X G a11, k11, b11⟩
  have C_is_put_above : Cal P w K mg base CX0 2 "_law_is_put_above" P_is_put_above (spPut K) := ⟨f12, _, ok_put F12 B C_code, PySem.W.mg_of X G a12, k12, b12⟩
  have C_new_pair : Cal P w K mg base CX0 2 "_law_new_pair" P_new_pair spPair := ⟨f13, _, ok_pair F13 B C_draw, PySem.W.mg_of X G a13, k13, b13⟩
  have C_is_refused : Cal P w K mg base CX0 4 "_law_is_refused" P_is_refused (spRefused K) := ⟨f14, _, ok_refused F14 B E_BadVersions X_BadVersions C_is_at_most, PySem.W.mg_of X G a14, k14, b14⟩
  exact ok_law F15 B C_begun_pen C_draw C_risings C_new_pair C_is_below C_is_at_most C_is_put_above C_is_refused
end Dg
open PySem PySem.W PyProof.Rows
set_option maxRecDepth 100000 in
set_option maxHeartbeats 0 in
theorem PySem.Challenge.cw_digitsturn_k13_whole_at_most_holds : PySem.Challenge.rw_digitsturn_k13_whole_at_most.Holds := by
  w_on; o_law; k_head; (case hw => w_witness2)
  k_fill
  refine L2.walk_of (l := PySem.Challenge.rw_digitsturn_k13_whole_at_most) (n := 63) (k := 5) (x := "script") (CX := fun _ => L2.CX0) (sp := fun w => Dg.spLaw _) rfl (by decide) rfl ⟨rfl, by decide, by decide⟩ (fun w h Y => PySem.W.kIn_of Y) ?F (fun _ _ a ns hl _ hS => ⟨a, ns, rfl, hS, hl, fun _ => rfl⟩) (fun _ _ _ _ _ h => h)
  case F =>
    intro w mg fa h KX G hmg
    refine' Dg.all_mk KX G hmg ?a0 ?l0 ?c0 ?k0 ?a1 ?l1 ?c1 ?k1 ?a2 ?l2 ?c2 ?k2 ?a3 ?l3 ?c3 ?k3 ?a4 ?l4 ?c4 ?k4 ?a5 ?l5 ?c5 ?k5 ?a6 ?l6 ?c6 ?k6 ?a7 ?l7 ?c7 ?k7 ?a8 ?l8 ?c8 ?k8 ?a9 ?l9 ?c9 ?k9 ?a10 ?l10 ?c10 ?k10 ?a11 ?l11 ?c11 ?k11 ?a12 ?l12 ?c12 ?k12 ?a13 ?l13 ?c13 ?k13 ?a14 ?l14 ?c14 ?k14 ?a15 ?l15 ?c15 ?k15 ?aE_BadVersions ?xE_BadVersions ?kE_BadVersions ?bE_BadVersions ?tE_BadVersions ?iE_BadVersions ?sE_BadVersions ?aT ?g1_BadVersions ?g2_BadVersions ?g3_BadVersions ?g4_BadVersions ?g5_BadVersions ?g6_BadVersions ?g7_BadVersions ?kT_BadVersions ?kV_BadVersions ?z_abs ?z_all ?z_dict ?z_enumerate ?z_int ?z_isinstance ?z_len ?z_list ?z_max ?z_min ?z_range ?z_repr ?z_sorted ?z_str ?z_sum ?z_tuple ?z_zip ?z_ValueError
    (case a0 => k_is)
    (case l0 => k_is)
    (case c0 => k_is)
    (case k0 => k_is)
    (case a1 => k_is)
    (case l1 => k_is)
    (case c1 => k_is)
    (case k1 => k_is)
    (case a2 => k_is)
    (case l2 => k_is)
    (case c2 => k_is)
    (case k2 => k_is)
    (case a3 => k_is)
    (case l3 => k_is)
    (case c3 => k_is)
    (case k3 => k_is)
    (case a4 => k_is)
    (case l4 => k_is)
    (case c4 => k_is)
    (case k4 => k_is)
    (case a5 => k_is)
    (case l5 => k_is)
    (case c5 => k_is)
    (case k5 => k_is)
    (case a6 => k_is)
    (case l6 => k_is)
    (case c6 => k_is)
    (case k6 => k_is)
    (case a7 => k_is)
    (case l7 => k_is)
    (case c7 => k_is)
    (case k7 => k_is)
    (case a8 => k_is)
    (case l8 => k_is)
    (case c8 => k_is)
    (case k8 => k_is)
    (case a9 => k_is)
    (case l9 => k_is)
    (case c9 => k_is)
    (case k9 => k_is)
    (case a10 => k_is)
    (case l10 => k_is)
    (case c10 => k_is)
    (case k10 => k_is)
    (case a11 => k_is)
    (case l11 => k_is)
    (case c11 => k_is)
    (case k11 => k_is)
    (case a12 => k_is)
    (case l12 => k_is)
    (case c12 => k_is)
    (case k12 => k_is)
    (case a13 => k_is)
    (case l13 => k_is)
    (case c13 => k_is)
    (case k13 => k_is)
    (case a14 => k_is)
    (case l14 => k_is)
    (case c14 => k_is)
    (case k14 => k_is)
    (case a15 => k_is)
    (case l15 => k_is)
    (case c15 => k_is)
    (case k15 => k_is)
    (case aE_BadVersions => k_is)
    (case xE_BadVersions => first | k_exc | k_is)
    (case kE_BadVersions => k_is)
    (case bE_BadVersions => k_is)
    (case tE_BadVersions => k_is)
    (case iE_BadVersions => k_is)
    (case sE_BadVersions => first | rfl | k_is)
    (case z_abs => k_is)
    (case z_all => k_is)
    (case z_dict => k_is)
    (case z_enumerate => k_is)
    (case z_int => k_is)
    (case z_isinstance => k_is)
    (case z_len => k_is)
    (case z_list => k_is)
    (case z_max => k_is)
    (case z_min => k_is)
    (case z_range => k_is)
    (case z_repr => k_is)
    (case z_sorted => k_is)
    (case z_str => k_is)
    (case z_sum => k_is)
    (case z_tuple => k_is)
    (case z_zip => k_is)
    (case z_ValueError => k_is)
    (case aT => k_is)
    (case g1_BadVersions => k_is)
    (case g2_BadVersions => k_is)
    (case g3_BadVersions => k_is)
    (case g4_BadVersions => k_is)
    (case g5_BadVersions => k_is)
    (case g6_BadVersions => k_is)
    (case g7_BadVersions => k_is)
    (case kT_BadVersions => first | kit_is | k_is)
    (case kV_BadVersions => first | kit_is | k_is)

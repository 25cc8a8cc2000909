import PyProof.Rows.All
import Wide.All
import OpenK.AllK
import Wide.FinOn
import HandS.ForMost
import HandS.Wide
import HandS.TupAny
import HandS.TupMul
import HandS.Style
import HandS.Conv
import HandS.Codes
import HandS.Exc
import HandS.TryOnly
import HandS.ExcOwn
import HandS.WordsExc
import HandS.Deep
import HandS.ExcIs
import KE.GoesEnum
import KE.GoesEnumKw
import HandS.Walk
import HandS.SortKw
import HandS.ExcInit
import HandS.ExcField
import HandS.IsInst
import HandS.Zip
import HandS.TryMany
import PyProof.ReprRoads
import PyProof.ReprLen
import PyProof.FitsInt
import HandS.RaiseMore
import KE.KExcIs
import HandS.NoneIn
import HandS.More
import HandS.Flow
import HandS.Small
import HandS.CallLocal
import HandS.TupLe
import HandS.DictComp
import KE.KEqNest
import HandS.GenList
import HandS.ReplaceLit
import PySem.Challenge.RW_digitsturn_k06_runs_by_hand
set_option Elab.async false
set_option linter.all false
set_option maxRecDepth 100000
namespace Dg
open PySem PySem.Spec PyProof.Rows L2

local macro_rules | `(tactic| walk_at "rd1") => `(tactic| first | refine ⟨_, rfl, ?_⟩ | refine ⟨_, _, rfl, rfl, ?_⟩)
local macro_rules | `(tactic| walk_at "rd") => `(tactic| repeat walk_at "rd1")
structure Cal (P : Program) (w : World) (K : PySem.W.Frag) (mg : Str → Option Value) (base : Heap) (CX : CXT) (k : Nat) (x : Str) (ps : List Str) (sp : Sp) : Prop where
  ex : ∃ (f : Addr) (fd : FuncData), FnOk P w K mg base CX k f fd ps sp ∧ mg x = some (.ref f) ∧ PySem.W.keepIn K (.ref f) = true ∧ Binds K fd ps []
section
variable {X : Cx} {CX : CXT} {k : Nat} {x : Str} {ps : List Str} {sp : Sp} {E : XK} {e : Expr} {es : List Expr} {t : TA} {p pos : Pos}
theorem pe_cal (C : Cal X.prog X.w X.K X.mg X.base CX k x ps sp) (hr : Room k X.A) (hg : Gl X x) (hx : Passes CX X E)
    (ha : PA X (e :: es) t) (hdb : (x == ("__debug__" : Str)) = false := by decide) (he : starEach (e :: es) X.env = (false, eval e X.env) :: starEach es X.env := by rfl) (hpl : (backTo pos (starEach es X.env)).any (·.1) = false := by rfl) :
    PE X (.Call (.Name x p) (e :: es) [] pos) (tCall sp [] E t) := by
  obtain ⟨f, fd, F, hm, hk, hb⟩ := C.ex
  exact pe_call F hr hg hm hk hb .nil hx ha hdb he hpl
theorem pe_cal0 (C : Cal X.prog X.w X.K X.mg X.base CX k x ps sp) (hr : Room k X.A) (hg : Gl X x) (hx : Passes CX X E) (hdb : (x == ("__debug__" : Str)) = false := by decide) :
    PE X (.Call (.Name x p) [] [] pos) (tCall sp [] E tNil) := by
  obtain ⟨f, fd, F, hm, hk, hb⟩ := C.ex
  exact pe_call0 F hr hg hm hk hb .nil hx hdb
end

structure Bi (mg : Str → Option Value) : Prop where
  b_abs : mg "abs" = none
  b_all : mg "all" = none
  b_dict : mg "dict" = none
  b_enumerate : mg "enumerate" = none
  b_int : mg "int" = none
  b_isinstance : mg "isinstance" = none
  b_len : mg "len" = none
  b_list : mg "list" = none
  b_max : mg "max" = none
  b_min : mg "min" = none
  b_range : mg "range" = none
  b_repr : mg "repr" = none
  b_sorted : mg "sorted" = none
  b_str : mg "str" = none
  b_sum : mg "sum" = none
  b_tuple : mg "tuple" = none
  b_zip : mg "zip" = none
  b_ValueError : mg "ValueError" = none

def SameB (p : Addr) (H H' : Hp) : Prop := ∀ b o, H b = some o → b ≠ p → H' b = some o
theorem SameB.refl (p : Addr) (H : Hp) : SameB p H H := fun _ _ h _ => h
theorem SameB.trans {p : Addr} {H H1 H2 : Hp} (a : SameB p H H1) (b : SameB p H1 H2) : SameB p H H2 := fun c o h n => b c o (a c o h n) n
theorem SameB.of {p : Addr} {H H' : Hp} (e : Same H H') : SameB p H H' := fun b o h _ => e b o h
theorem same_new {H : Hp} {p : Addr} {o : HO} (h : H p = none) : Same H (upd H p o) := fun b u e => by
  rw [upd_ne (ne_of_none e h)]
  exact e

theorem dp_ints {K : PySem.W.Frag} {H : Hp} : ∀ ns : List Int, DpAll K H (ns.map V.int) (ns.map .int)
  | [] => .nil
  | n :: r => .cons (.int n) (dp_ints r)
def okD (n : Nat) (d : PyData) : Prop := d.canLay0 = true ∧ d.depth ≤ n
theorem okD_shaped {n : Nat} {d : PyData} (h : okD n d) (hn : n ≤ 64) : SeqAt.shaped d = true := by
  unfold SeqAt.shaped
  rw [h.1, decide_eq_true (Nat.le_trans h.2 hn)]
  rfl
theorem okD_int (n : Nat) (i : Int) : okD n (.int i) := ⟨rfl, by simp [PyData.depth]⟩
theorem okD_none (n : Nat) : okD n .none := ⟨rfl, by simp [PyData.depth]⟩
theorem okD_str {n : Nat} {x : Str} (h : x.cps.all (· < 0x110000) = true) : okD n (.str x) := ⟨by
  simp only [PyData.canLay0, PyData.strOk]
  exact h, by simp [PyData.depth]⟩
theorem okD_all {n : Nat} : ∀ {ds : List PyData}, (∀ d ∈ ds, okD n d) → PyData.canLayAll0 ds = true ∧ PyData.depthAll ds ≤ n
  | [], _ => ⟨rfl, by simp [PyData.depthAll]⟩
  | d :: r, h => by
    obtain ⟨h1, h2⟩ := h d List.mem_cons_self
    obtain ⟨r1, r2⟩ := okD_all (ds := r) fun e he => h e (List.mem_cons_of_mem _ he)
    exact ⟨by simp only [PyData.canLayAll0, h1, r1]; rfl, by simp only [PyData.depthAll]; omega⟩
theorem okD_list {n : Nat} {ds : List PyData} (h : ∀ d ∈ ds, okD n d) : okD (n + 1) (.list ds) := by
  obtain ⟨h1, h2⟩ := okD_all h
  exact ⟨by simp only [PyData.canLay0]; exact h1, by simp only [PyData.depth]; omega⟩
theorem okD_tuple {n : Nat} {ds : List PyData} (h : ∀ d ∈ ds, okD n d) : okD (n + 1) (.tuple ds) := by
  obtain ⟨h1, h2⟩ := okD_all h
  exact ⟨by simp only [PyData.canLay0]; exact h1, by simp only [PyData.depth]; omega⟩
theorem okD_ints (n : Nat) (ns : List Int) : ∀ d ∈ ns.map PyData.int, okD n d := fun d hd => by
  obtain ⟨i, _, rfl⟩ := List.mem_map.mp hd
  exact okD_int n i
theorem shaped_ints (ns : List Int) : SeqAt.shaped (.list (ns.map .int)) = true := okD_shaped (okD_list (okD_ints 0 ns)) (by decide)
theorem shaped_tints (ns : List Int) : SeqAt.shaped (.tuple (ns.map .int)) = true := okD_shaped (okD_tuple (okD_ints 0 ns)) (by decide)
theorem eqv_nil {ds : List PyData} : PyData.eqv (.list ds) (.list []) = ds.isEmpty := by
  cases ds with
  | nil => simp only [PyData.eqv, PyData.eqvAll]; rfl
  | cons d r => simp only [PyData.eqv, PyData.eqvAll]; rfl
def penL (c : Addr) (t l : Int) : List (Key × V) := [(.inr "cells", .ref c), (.inr "turn", .int t), (.inr "left", .int l)]
theorem kct : ¬ (Sum.inr ("cells" : Str) : Key) = Sum.inr ("turn" : Str) := by decide +kernel
theorem kcl : ¬ (Sum.inr ("cells" : Str) : Key) = Sum.inr ("left" : Str) := by decide +kernel
theorem ktl : ¬ (Sum.inr ("turn" : Str) : Key) = Sum.inr ("left" : Str) := by decide +kernel
theorem klt : ¬ (Sum.inr ("left" : Str) : Key) = Sum.inr ("turn" : Str) := by decide +kernel
theorem sct : ¬ ("cells" : Str) = ("turn" : Str) := by decide +kernel
theorem scl : ¬ ("cells" : Str) = ("left" : Str) := by decide +kernel
theorem stl : ¬ ("turn" : Str) = ("left" : Str) := by decide +kernel
theorem slt : ¬ ("left" : Str) = ("turn" : Str) := by decide +kernel
theorem pen_cells (c : Addr) (t l : Int) : valV (penL c t l) (Sum.inr ("cells" : Str) : Key) = some (.ref c) := by
  unfold penL
  rw [valV_pos rfl]
theorem pen_turn (c : Addr) (t l : Int) : valV (penL c t l) (Sum.inr ("turn" : Str) : Key) = some (.int t) := by
  unfold penL
  rw [valV_neg kct, valV_pos rfl]
theorem pen_left (c : Addr) (t l : Int) : valV (penL c t l) (Sum.inr ("left" : Str) : Key) = some (.int l) := by
  unfold penL
  rw [valV_neg kcl, valV_neg ktl, valV_pos rfl]
theorem pen_put_turn (c : Addr) (t l u : Int) : putK (penL c t l) (Sum.inr ("turn" : Str) : Key) (.int u) = penL c u l := by
  unfold penL putK
  simp [sct, slt]
theorem pen_put_left (c : Addr) (t l u : Int) : putK (penL c t l) (Sum.inr ("left" : Str) : Key) (.int u) = penL c t u := by
  unfold penL putK
  simp [scl, stl]
structure PenAt (H : Hp) (p c : Addr) (ns : List Int) (t l : Int) (b : Int) : Prop where
  ob : H p = some (.dK (penL c t l))
  cs : H c = some (.lst (ns.map V.int))
  t0 : 0 ≤ t
  tb : t ≤ b
  l0 : 0 ≤ l
  n63 : ns.length ≤ 63
def Pen (H : Hp) (p c : Addr) (b : Int) : Prop := ∃ ns t l, PenAt H p c ns t l b
theorem PenAt.get_cells {H : Hp} {p c : Addr} {ns : List Int} {t l b : Int} (h : PenAt H p c ns t l b) : DGet H p (.str "cells") (some (.ref c)) := by
  have e := DGet.k (k := Sum.inr ("cells" : Str)) h.ob
  rw [pen_cells] at e
  exact e
theorem PenAt.get_turn {H : Hp} {p c : Addr} {ns : List Int} {t l b : Int} (h : PenAt H p c ns t l b) : DGet H p (.str "turn") (some (.int t)) := by
  have e := DGet.k (k := Sum.inr ("turn" : Str)) h.ob
  rw [pen_turn] at e
  exact e
theorem PenAt.get_left {H : Hp} {p c : Addr} {ns : List Int} {t l b : Int} (h : PenAt H p c ns t l b) : DGet H p (.str "left") (some (.int l)) := by
  have e := DGet.k (k := Sum.inr ("left" : Str)) h.ob
  rw [pen_left] at e
  exact e
theorem PenAt.put_turn {H : Hp} {p c : Addr} {ns : List Int} {t l b : Int} (h : PenAt H p c ns t l b) (u : Int) : DPut H p (.str "turn") (.int u) (upd H p (.dK (penL c u l))) := by
  have e := DPut.k (k := Sum.inr ("turn" : Str)) (v := .int u) h.ob (by show 3 < sizeLine; decide)
  rw [pen_put_turn] at e
  exact e
theorem PenAt.put_left {H : Hp} {p c : Addr} {ns : List Int} {t l b : Int} (h : PenAt H p c ns t l b) (u : Int) : DPut H p (.str "left") (.int u) (upd H p (.dK (penL c t u))) := by
  have e := DPut.k (k := Sum.inr ("left" : Str)) (v := .int u) h.ob (by show 3 < sizeLine; decide)
  rw [pen_put_left] at e
  exact e
theorem PenAt.ne {H : Hp} {p c : Addr} {ns : List Int} {t l b : Int} (h : PenAt H p c ns t l b) : c ≠ p := ne_of h.cs h.ob (by intro z; cases z)
theorem PenAt.upd {H : Hp} {p c : Addr} {ns : List Int} {t l b u v b' : Int} (h : PenAt H p c ns t l b) (hu : 0 ≤ u) (hb : u ≤ b') (hv : 0 ≤ v) : PenAt (upd H p (.dK (penL c u v))) p c ns u v b' :=
  ⟨upd_same, by rw [upd_ne h.ne]; exact h.cs, hu, hb, hv, h.n63⟩
theorem PenAt.same {H H' : Hp} {p c : Addr} {ns : List Int} {t l b : Int} (h : PenAt H p c ns t l b) (e : Same H H') : PenAt H' p c ns t l b :=
  ⟨e _ _ h.ob, e _ _ h.cs, h.t0, h.tb, h.l0, h.n63⟩
theorem Pen.same {H H' : Hp} {p c : Addr} {b : Int} (h : Pen H p c b) (e : Same H H') : Pen H' p c b := by
  obtain ⟨ns, t, l, h⟩ := h
  exact ⟨ns, t, l, h.same e⟩
theorem Pen.mono {H : Hp} {p c : Addr} {b b' : Int} (h : Pen H p c b) (e : b ≤ b') : Pen H p c b' := by
  obtain ⟨ns, t, l, h⟩ := h
  exact ⟨ns, t, l, h.ob, h.cs, h.t0, Int.le_trans h.tb e, h.l0, h.n63⟩
theorem sameB_upd {H : Hp} {p : Addr} {o : HO} : SameB p H (L2.upd H p o) := fun b u h n => by
  rw [upd_ne n]
  exact h
def spDraw : Sp := fun vs H Q _ => ∃ (p c : Addr) (n b : Int), vs = [.ref p, .int n] ∧ Pen H p c b ∧ 0 < n ∧ n < 2 ^ 300 ∧ b < 2 ^ 60 ∧
  ∀ (r : Int) (H' : Hp), 0 ≤ r → r < n → Pen H' p c (b + 1) → SameB p H H' → Q (.int r) H'
end Dg
namespace Dg
open PySem PySem.Spec PyProof.Rows L2
def Sq (K : PySem.W.Frag) (H : Hp) (a : Addr) (xs : List V) : Prop := SqL K H a xs ∨ SqT K H a xs
theorem sqL {K : PySem.W.Frag} {H : Hp} {a : Addr} {xs : List V} (h : H a = some (.lst xs)) : SqL K H a xs := .inl (.inl h)
theorem sqT {K : PySem.W.Frag} {H : Hp} {a : Addr} {xs : List V} (h : H a = some (.tup xs)) : SqT K H a xs := .inl (.inl h)
theorem same_t {K : PySem.W.Frag} {H H' : Hp} {a : Addr} {xs : List V} (e : Same H H') (h : SqT K H a xs) : SqT K H' a xs := by
  rcases h with (h | ⟨o, h⟩) | h
  · exact .inl (.inl (e _ _ h))
  · exact .inl (.inr ⟨o, e _ _ h⟩)
  · exact .inr h
theorem Sq.same {K : PySem.W.Frag} {H H' : Hp} {a : Addr} {xs : List V} (h : Sq K H a xs) (e : Same H H') : Sq K H' a xs := by
  rcases h with h | h
  · exact .inl (e.seq h)
  · exact .inr (same_t e h)
def rIxA (K : PySem.W.Frag) : R2 := fun x y H Q => ∃ p xs i v, x = .ref p ∧ y = .int i ∧ Sq K H p xs ∧ atI xs i = some v ∧ Q v H
theorem ix_any {X : Cx} : IxR X (rIxA X.K) := by
  intro value slice pins s σ H x y v u Q I rx ry q hs
  obtain ⟨p, xs, i, w, h1, h2, h3, h4, h5⟩ := q
  refine ix_seq value slice pins s σ H x y v u Q I rx ry ?_ hs
  rcases h3 with h3 | h3
  · exact .inl ⟨p, xs, i, w, h1, h2, h3, h4, h5⟩
  · exact .inr (.inl ⟨p, xs, i, w, h1, h2, h3, h4, h5⟩)
theorem at_int {ns : List Int} {i : Int} {j : Nat} (e : i = (j : Int)) (h : j < ns.length) : atI (ns.map V.int) i = some (.int (ns.getD j 0)) := by
  refine at_of e ?_
  rw [List.getElem?_map, List.getElem?_eq_getElem h, List.getD_eq_getElem?_getD, List.getElem?_eq_getElem h]
  rfl
theorem pmk_own0 {X : Cx} {C : Addr} {bmB : List Value} {B newId initId : String} {x : Str} {p pos : Pos} (F : ExcBaseFacts B newId initId bmB) (q : PySem.W.excIn X.K C bmB newId = true) (gC : X.mg x = some (.ref C))
    (kC : PySem.W.keepIn X.K (.ref C) = true) (r : Raises X (.ref C)) (hg : Gl X x) (hdb : (x == ("__debug__" : Str)) = false := by decide) :
    PMk X (.Call (.Name x p) [] [] pos) (fun _ H Q => Q (.ref C) none H) := by
  intro pins s σ H Q I h
  refine wpAny_Call_Name_kw (ld_glob I hg gC ?_ hdb)
  refine PySem.W.callWith_K0 I.kIn kC ?_
  show wpAny _ _ (call (.ref C) []) _ _ _
  obtain ⟨bm, N, nm, qn, bs, hdct, sn, sub, ab, col, dd, k0, k1, k2, k3, k5, mN, hC, hN, hni, T⟩ := exc_obj I.kIn q
  refine wpAny_call_exc_subT F T hC hN hni (fun h' e hm => ?_) (by decide)
  exact mk_of I hm r h (I.hok.gone hm.new)
structure Ec (K : PySem.W.Frag) (mg : Str → Option Value) (x : Str) (C : Addr) : Prop where
  gC : mg x = some (.ref C)
  xC : PySem.W.excIn K C [.type "ValueError", .type "Exception", .type "BaseException", .type "object"] "ValueError.__new__" = true
  kC : PySem.W.keepIn K (.ref C) = true
  bC : PySem.W.subIn K (.ref C) (.type "BaseException") = some true
  tC : PySem.W.typeIn K (.ref C) = some (.type "type")
  iC : PySem.W.isClsIn K C = true
  sC : PySem.W.subIn K (.ref C) (.ref C) = some true
theorem exm_self {K : PySem.W.Frag} {S : Addr} (h1 : PySem.W.subIn K (.ref S) (.type "BaseException") = some true) (h2 : PySem.W.isClsIn K S = true) (h3 : PySem.W.typeIn K (.ref S) = some (.type "type")) (h4 : PySem.W.subIn K (.ref S) (.ref S) = some true) :
    PySem.W.exmOne K (.ref S) (.ref S) = some true := by
  have e1 : (PySem.W.subIn K (.ref S) (.type "BaseException") == some true) = true := by rw [h1] <;> rfl
  have e2 : ((PySem.W.clsIn K S).isSome && PySem.W.typeIn K (.ref S) == some (.type "type")) = true := by
    have h2' : (PySem.W.clsIn K S).isSome = true := h2
    rw [h2', h3] <;> rfl
  show (if (PySem.W.subIn K (.ref S) (.type "BaseException") == some true) = true then (if ((PySem.W.clsIn K S).isSome && PySem.W.typeIn K (.ref S) == some (.type "type")) = true then PySem.W.subIn K (.ref S) (.ref S) else none) else none) = some true
  rw [if_pos e1, if_pos e2]
  exact h4
theorem Ec.te {K : PySem.W.Frag} {mg : Str → Option Value} {x : Str} {C : Addr} (c : Ec K mg x C) : PySem.W.exmOne K (.ref C) (.ref C) = some true := exm_self c.bC c.iC c.tC c.sC
end Dg
namespace Dg
open PySem PySem.Spec PyProof.Rows L2
section
variable {X : Cx} {CX : CXT} {k : Nat} {x : Str} {ps : List Str} {sp : Sp} {E : L2.St → XK} {e : Expr} {es : List Expr} {t : TA} {p pos : Pos}
theorem pe_calS (C : Cal X.prog X.w X.K X.mg X.base CX k x ps sp) (hr : Room k X.A) (hg : Gl X x) (hx : ∀ σ, PassesAt CX X σ (E σ))
    (ha : PA X (e :: es) t) (hdb : (x == ("__debug__" : Str)) = false := by decide) (he : starEach (e :: es) X.env = (false, eval e X.env) :: starEach es X.env := by rfl) (hpl : (backTo pos (starEach es X.env)).any (·.1) = false := by rfl) :
    PE X (.Call (.Name x p) (e :: es) [] pos) (tCallS sp E t) := by
  obtain ⟨f, fd, F, hm, hk, hb⟩ := C.ex
  exact pe_callS F hr hg hm hk hb hx ha hdb he hpl
end
theorem iteB {c : Bool} {A B : Prop} (h1 : c = true → A) (h2 : c = false → B) : if c = true then A else B := by
  cases c with
  | true => rw [if_pos rfl]; exact h1 rfl
  | false => rw [if_neg Bool.false_ne_true]; exact h2 rfl
end Dg
namespace Dg
open PySem PySem.Spec PyProof.Rows L2
theorem pd_length {α β : Type} {F : α → β → Prop} : ∀ {xs : List α} {ys : List β}, Paired F xs ys → xs.length = ys.length
  | _, _, .nil => rfl
  | _, _, .cons _ t => congrArg (· + 1) (pd_length t)
theorem pd_mono {α β : Type} {F G : α → β → Prop} : ∀ {xs : List α} {ys : List β}, Paired F xs ys → (∀ a b, F a b → G a b) → Paired G xs ys
  | _, _, .nil, _ => .nil
  | _, _, .cons r t, f => .cons (f _ _ r) (pd_mono t f)
theorem pd_app {α β : Type} {F : α → β → Prop} : ∀ {xs xs' : List α} {ys ys' : List β}, Paired F xs ys → Paired F xs' ys' → Paired F (xs ++ xs') (ys ++ ys')
  | _, _, _, _, .nil, h => h
  | _, _, _, _, .cons r t, h => .cons r (pd_app t h)
theorem pd_get {α β : Type} {F : α → β → Prop} : ∀ {xs : List α} {ys : List β} {i : Nat} {x : α}, Paired F xs ys → xs[i]? = some x → ∃ y, ys[i]? = some y ∧ F x y
  | _, _, _, _, .nil, e => by simp at e
  | _, _, 0, _, .cons r _, e => by
    simp at e
    subst e
    exact ⟨_, rfl, r⟩
  | _, _, i + 1, x, .cons _ t, e => by
    obtain ⟨y, h1, h2⟩ := pd_get (i := i) (x := x) t (by simpa using e)
    exact ⟨y, by simpa using h1, h2⟩
theorem pd_get' {α β : Type} {F : α → β → Prop} : ∀ {xs : List α} {ys : List β} {i : Nat} {y : β}, Paired F xs ys → ys[i]? = some y → ∃ x, xs[i]? = some x ∧ F x y
  | _, _, _, _, .nil, e => by simp at e
  | _, _, 0, _, .cons r _, e => by
    simp at e
    subst e
    exact ⟨_, rfl, r⟩
  | _, _, i + 1, y, .cons _ t, e => by
    obtain ⟨x, h1, h2⟩ := pd_get' (i := i) (y := y) t (by simpa using e)
    exact ⟨x, by simpa using h1, h2⟩
theorem pd_drop {α β : Type} {F : α → β → Prop} : ∀ {xs : List α} {ys : List β} (n : Nat), Paired F xs ys → Paired F (xs.drop n) (ys.drop n)
  | _, _, 0, r => r
  | _, _, _ + 1, .nil => .nil
  | _, _, n + 1, .cons _ t => pd_drop n t
theorem pd_take {α β : Type} {F : α → β → Prop} : ∀ {xs : List α} {ys : List β} (n : Nat), Paired F xs ys → Paired F (xs.take n) (ys.take n)
  | _, _, 0, _ => .nil
  | _, _, _ + 1, .nil => .nil
  | _, _, n + 1, .cons r t => .cons r (pd_take n t)
def RowAt (K : PySem.W.Frag) (H : Hp) (v : V) (r : List Int) : Prop := ∃ a, v = .ref a ∧ SqT K H a (r.map V.int)
def LAt (K : PySem.W.Frag) (H : Hp) (v : V) (rs : List (List Int)) : Prop := ∃ a vals, v = .ref a ∧ H a = some (.lst vals) ∧ Paired (RowAt K H) vals rs
theorem RowAt.same {K : PySem.W.Frag} {H H' : Hp} (e : Same H H') {v : V} {r : List Int} (h : RowAt K H v r) : RowAt K H' v r := by
  obtain ⟨a, h1, h2⟩ := h
  exact ⟨a, h1, same_t e h2⟩
theorem LAt.same {K : PySem.W.Frag} {H H' : Hp} (e : Same H H') {v : V} {r : List (List Int)} (h : LAt K H v r) : LAt K H' v r := by
  obtain ⟨a, vals, h1, h2, h3⟩ := h
  exact ⟨a, vals, h1, e _ _ h2, pd_mono h3 fun _ _ => RowAt.same e⟩
theorem rows_same {K : PySem.W.Frag} {H H' : Hp} (e : Same H H') {vs : List V} {rs : List (List Int)} (h : Paired (RowAt K H) vs rs) : Paired (RowAt K H') vs rs := pd_mono h fun _ _ => RowAt.same e
theorem lats_same {K : PySem.W.Frag} {H H' : Hp} (e : Same H H') {vs : List V} {rs : List (List (List Int))} (h : Paired (LAt K H) vs rs) : Paired (LAt K H') vs rs := pd_mono h fun _ _ => LAt.same e
def hid (D : Addr) (H : Hp) : Hp := fun b => if b = D then none else H b
theorem hid_same {D : Addr} {H : Hp} : Same (hid D H) H := fun b o h => by
  unfold hid at h
  split at h
  · cases h
  · exact h
theorem hid_at {D b : Addr} {H : Hp} {o : HO} (h : H b = some o) (n : b ≠ D) : hid D H b = some o := by
  unfold hid
  rw [if_neg n]
  exact h
theorem hid_upd {D : Addr} {H : Hp} {o : HO} : hid D (upd H D o) = hid D H := by
  funext b
  unfold hid
  by_cases e : b = D
  · rw [if_pos e, if_pos e]
  · rw [if_neg e, if_neg e, upd_ne e]
theorem hid_mono {D : Addr} {H H' : Hp} (e : Same H H') : Same (hid D H) (hid D H') := fun b o h => by
  unfold hid at h
  split at h
  · cases h
  · rename_i n
    exact hid_at (e b o h) n
theorem hid_none {D : Addr} {H : Hp} (n : H D = none) : Same H (hid D H) := fun b o h => hid_at h (ne_of_none h n)
theorem sb_rd {p a : Addr} {H H' : Hp} {o u : HO} (e : SameB p H H') (hp : H p = some o) (d : ∀ o', o ≠ .frz o' u) (du : o ≠ u) (h : Rd H a u) : Rd H' a u := by
  rcases h with h | ⟨o', h⟩
  · exact .inl (e a _ h fun z => by
      subst z
      rw [hp] at h
      exact du (Option.some.inj h))
  · exact .inr ⟨o', e a _ h fun z => by
      subst z
      rw [hp] at h
      exact d o' (Option.some.inj h)⟩
theorem sb_l {K : PySem.W.Frag} {p a : Addr} {H H' : Hp} {kvs : List (Key × V)} {xs : List V} (e : SameB p H H') (hp : H p = some (.dK kvs)) (h : SqL K H a xs) : SqL K H' a xs := by
  rcases h with h | h
  · exact .inl (sb_rd e hp (fun _ z => by cases z) (fun z => by cases z) h)
  · exact .inr h
theorem sb_t {K : PySem.W.Frag} {p a : Addr} {H H' : Hp} {kvs : List (Key × V)} {xs : List V} (e : SameB p H H') (hp : H p = some (.dK kvs)) (h : SqT K H a xs) : SqT K H' a xs := by
  rcases h with h | h
  · exact .inl (sb_rd e hp (fun _ z => by cases z) (fun z => by cases z) h)
  · exact .inr h
theorem sb_sq {K : PySem.W.Frag} {p a : Addr} {H H' : Hp} {kvs : List (Key × V)} {xs : List V} (e : SameB p H H') (hp : H p = some (.dK kvs)) (h : Sq K H a xs) : Sq K H' a xs := by
  rcases h with h | h
  · exact .inl (sb_l e hp h)
  · exact .inr (sb_t e hp h)
theorem Pen.dk {H : Hp} {p c : Addr} {b : Int} (h : Pen H p c b) : ∃ kvs, H p = some (.dK kvs) := by
  obtain ⟨ns, t, l, h⟩ := h
  exact ⟨_, h.ob⟩
theorem SameB.l {K : PySem.W.Frag} {p a : Addr} {H H' : Hp} {b : Int} {c : Addr} {xs : List V} (e : SameB p H H') (hp : Pen H p c b) (h : SqL K H a xs) : SqL K H' a xs := by
  obtain ⟨_, q⟩ := hp.dk
  exact sb_l e q h
theorem SameB.t {K : PySem.W.Frag} {p a : Addr} {H H' : Hp} {b : Int} {c : Addr} {xs : List V} (e : SameB p H H') (hp : Pen H p c b) (h : SqT K H a xs) : SqT K H' a xs := by
  obtain ⟨_, q⟩ := hp.dk
  exact sb_t e q h
theorem SameB.lst {p a : Addr} {H H' : Hp} {b : Int} {c : Addr} {xs : List V} (e : SameB p H H') (hp : Pen H p c b) (h : H a = some (.lst xs)) : H' a = some (.lst xs) := by
  obtain ⟨_, q⟩ := hp.dk
  exact e _ _ h (ne_of h q (by intro z; cases z))
theorem SameB.tup {p a : Addr} {H H' : Hp} {b : Int} {c : Addr} {xs : List V} (e : SameB p H H') (hp : Pen H p c b) (h : H a = some (.tup xs)) : H' a = some (.tup xs) := by
  obtain ⟨_, q⟩ := hp.dk
  exact e _ _ h (ne_of h q (by intro z; cases z))
theorem RowAt.sb {K : PySem.W.Frag} {H H' : Hp} {p c : Addr} {b : Int} (e : SameB p H H') (hp : Pen H p c b) {v : V} {r : List Int} (h : RowAt K H v r) : RowAt K H' v r := by
  obtain ⟨a, h1, h2⟩ := h
  exact ⟨a, h1, e.t hp h2⟩
theorem LAt.sb {K : PySem.W.Frag} {H H' : Hp} {p c : Addr} {b : Int} (e : SameB p H H') (hp : Pen H p c b) {v : V} {r : List (List Int)} (h : LAt K H v r) : LAt K H' v r := by
  obtain ⟨a, vals, h1, h2, h3⟩ := h
  exact ⟨a, vals, h1, e.lst hp h2, pd_mono h3 fun _ _ => RowAt.sb e hp⟩
theorem sb_free {p a : Addr} {H H' : Hp} (e : SameB p H H') (h : H' a = none) (n : a ≠ p) : H a = none := by
  cases q : H a with
  | none => rfl
  | some o =>
    rw [e a o q n] at h
    cases h
theorem OpR.imp {X : Cx} {f : Value → Value → Sem Value} {r r' : R2} (h : OpR X f r) (i : ∀ x y H Q, r' x y H Q → r x y H Q) : OpR X f r' :=
  fun pins s σ H x y v u Q I rx ry q => h pins s σ H x y v u Q I rx ry (i x y H Q q)
def rCatS (K : PySem.W.Frag) : R2 := fun x y H Q => ∃ a b xs ys, x = .ref a ∧ y = .ref b ∧ SqT K H a xs ∧ SqT K H b ys ∧ xs.length + ys.length ≤ sizeLine ∧ ∀ p H', Same H H' → SqT K H' p (xs ++ ys) → Q (.ref p) H'
theorem op_catS {X : Cx} : OpR X (binaryOp .Add) (rCatS X.K) := by
  refine OpR.imp op_catA fun x y H Q h => ?_
  obtain ⟨a, b, xs, ys, h1, h2, h3, h4, h5, q⟩ := h
  refine ⟨a, b, xs, ys, h1, h2, h3, h4, h5, fun e => ?_, fun e e2 => ?_, fun e e2 p np => ?_⟩
  · refine q b H (Same.refl H) ?_
    rw [e]
    exact h4
  · refine q a H (Same.refl H) ?_
    rw [e2, List.append_nil]
    exact h3
  · exact q p _ (same_new np) (sqT upd_same)
theorem eqv_ints : ∀ (ns ms : List Int), PyData.eqvAll (ns.map .int) (ms.map .int) = decide (ns = ms)
  | [], [] => by simp [PyData.eqvAll]
  | [], _ :: _ => by simp [PyData.eqvAll]
  | _ :: _, [] => by simp [PyData.eqvAll]
  | a :: r, b :: t => by
    simp only [List.map_cons, PyData.eqvAll, eqv_ints r t, PyData.eqv]
    by_cases h : a = b <;> by_cases h' : r = t <;> simp [h, h']
theorem eqv_tints (ns ms : List Int) : PyData.eqv (.tuple (ns.map .int)) (.tuple (ms.map .int)) = decide (ns = ms) := by
  simp only [PyData.eqv]
  exact eqv_ints ns ms
theorem eqv_lints (ns ms : List Int) : PyData.eqv (.list (ns.map .int)) (.list (ms.map .int)) = decide (ns = ms) := by
  simp only [PyData.eqv]
  exact eqv_ints ns ms
def tupD (r : List Int) : PyData := .tuple (r.map .int)
theorem dp_row {K : PySem.W.Frag} {H : Hp} {v : V} {r : List Int} (h : RowAt K H v r) : Dp K H v (tupD r) := by
  obtain ⟨a, e, h⟩ := h
  subst e
  exact .tup h (dp_ints r)
theorem dp_rows {K : PySem.W.Frag} {H : Hp} : ∀ {vs : List V} {rs : List (List Int)}, Paired (RowAt K H) vs rs → DpAll K H vs (rs.map tupD)
  | _, _, .nil => .nil
  | _, _, .cons h t => .cons (dp_row h) (dp_rows t)
theorem okD_tup (n : Nat) (r : List Int) : okD (n + 1) (tupD r) := okD_tuple (okD_ints n r)
theorem okD_tups (n : Nat) (rs : List (List Int)) : ∀ d ∈ rs.map tupD, okD (n + 1) d := fun d hd => by
  obtain ⟨r, _, rfl⟩ := List.mem_map.mp hd
  exact okD_tup n r
theorem eqv_rows : ∀ (rs ss : List (List Int)), PyData.eqvAll (rs.map tupD) (ss.map tupD) = decide (rs = ss)
  | [], [] => by simp [PyData.eqvAll]
  | [], _ :: _ => by simp [PyData.eqvAll]
  | _ :: _, [] => by simp [PyData.eqvAll]
  | a :: r, b :: t => by
    have e : PyData.eqv (tupD a) (tupD b) = decide (a = b) := eqv_tints a b
    simp only [List.map_cons, PyData.eqvAll, eqv_rows r t, e]
    by_cases h : a = b <;> by_cases h' : r = t <;> simp [h, h']
theorem cut_all (xs : List V) : cutV xs none none = xs := by
  unfold cutV
  rw [HT.sIx_none, HT.sIx_none]
  simp
theorem cut_from (xs : List V) (k : Nat) : cutV xs (some (k : Int)) none = xs.drop k := by
  unfold cutV
  rw [HT.sIx_nat, HT.sIx_none]
  by_cases h : k ≤ xs.length
  · rw [Nat.min_eq_left h, List.take_of_length_le (by rw [List.length_drop]; exact Nat.le_refl _)]
  · rw [Nat.min_eq_right (by omega), List.drop_eq_nil_of_le (Nat.le_refl _), List.drop_eq_nil_of_le (by omega)]
    simp
theorem cut_to (xs : List V) (k : Nat) : cutV xs none (some (k : Int)) = xs.take k := by
  unfold cutV
  rw [HT.sIx_nat, HT.sIx_none]
  show (xs.take (min k xs.length)) = xs.take k
  by_cases h : k ≤ xs.length
  · rw [Nat.min_eq_left h]
  · rw [Nat.min_eq_right (by omega), List.take_of_length_le (Nat.le_refl _), List.take_of_length_le (by omega)]
end Dg
namespace Dg
open PySem PySem.Spec PyProof.Rows L2
section
variable {X : Cx} {K : PySem.W.Frag} (h : X.K = K)
include h
theorem k_ix_list : IxR X (rIxL K) := h ▸ ix_list
theorem k_ix_tup : IxR X (rIxT K) := h ▸ ix_tup
theorem k_ix_any : IxR X (rIxA K) := h ▸ ix_any
theorem k_op_catS : OpR X (binaryOp .Add) (rCatS K) := h ▸ op_catS
theorem k_op_in_seq : OpR X (compareOp .In) (rIn K false) := h ▸ op_in_seq
theorem k_op_notIn_seq : OpR X (compareOp .NotIn) (rIn K true) := h ▸ op_notIn_seq
theorem k_op_eqD (hu : X.A.units + 64 < cLine) : OpR X (compareOp .Eq) (rEqD K) := h ▸ op_eqD hu
theorem k_op_neD (hu : X.A.units + 64 < cLine) : OpR X (compareOp .NotEq) (rNeD K) := h ▸ op_neD hu
theorem k_call_len_seq : CallR X (.builtin "len") (fun xs H Q => ∃ p ys, xs = [.ref p] ∧ (SqL K H p ys ∨ SqT K H p ys) ∧ Q (.int ys.length) H) := h ▸ call_len_seq
theorem k_call_list_of : CallR X (.type "list") (fun xs H Q => ∃ p ys, xs = [.ref p] ∧ (SqL K H p ys ∨ SqT K H p ys) ∧ ∀ l, H l = none → Q (.ref l) (upd H l (.lst ys))) := h ▸ call_list_of
theorem k_call_tuple_of : CallR X (.type "tuple") (fun xs H Q => ∃ p ys, xs = [.ref p] ∧ ((SqL K H p ys ∧ ∀ l, H l = none → Q (.ref l) (upd H l (.tup ys))) ∨ (SqT K H p ys ∧ Q (.ref p) H))) := h ▸ call_tuple_of
theorem k_sl_list : SlR X (rSlL K) := h ▸ sl_list
theorem k_sl_tupA : SlR X (rSlA K) := h ▸ sl_tupA
end
end Dg
namespace Dg
open PySem PySem.Spec PyProof.Rows L2
theorem at_last' {α : Type} {xs : List α} {v : α} (h : xs[xs.length - 1]? = some v) : atI xs (-1) = some v := by
  have h1 : xs.getLast? = some v := by
    rw [List.getLast?_eq_getElem?]
    exact h
  rcases List.eq_nil_or_concat xs with e | ⟨s, d, e⟩
  · rw [e] at h1
    cases h1
  · rw [List.concat_eq_append] at e
    subst e
    have : d = v := by simpa using h1
    rw [this]
    exact atI_last _ _
end Dg
namespace Dg
open PySem PySem.Spec PyProof.Rows L2
theorem SameB.upd {p q : Addr} {H H' : Hp} {o : HO} (e : SameB p H H') (h : H q = none) : SameB p H (upd H' q o) := fun b u hb n => by
  rw [upd_ne (ne_of_none hb h)]
  exact e b u hb n
theorem SameB.new {p q : Addr} {H H' : Hp} {o : HO} (e : SameB p H H') (h : H' q = none) : SameB p H (L2.upd H' q o) := e.trans (SameB.of (same_new h))
theorem Pen.upd {H : Hp} {p c q : Addr} {b : Int} {o : HO} (h : Pen H p c b) (hp : q ≠ p) (hc : q ≠ c) : Pen (L2.upd H q o) p c b := by
  obtain ⟨ns, t, l, h⟩ := h
  refine ⟨ns, t, l, ?_, ?_, h.t0, h.tb, h.l0, h.n63⟩
  · rw [upd_ne hp.symm]
    exact h.ob
  · rw [upd_ne hc.symm]
    exact h.cs
theorem Pen.fresh {H : Hp} {p c q : Addr} {b : Int} (h : Pen H p c b) (hq : H q = none) : q ≠ p ∧ q ≠ c := by
  obtain ⟨ns, t, l, h⟩ := h
  exact ⟨(ne_of_none h.ob hq).symm, (ne_of_none h.cs hq).symm⟩
end Dg
namespace Dg
open PySem PySem.Spec PyProof.Rows L2
theorem call_isE2 {X : Cx} {a D : Addr} {oe : Obj} {pn : List (Addr × Obj)} {cls : Value} {d : Option Addr} (C : ExcC X.K D) (hz : Zc cls d oe) (hf : ∃ vs, oe.data = .fields vs) :
    CallR (X.suite a ((a, oe) :: pn)) (.builtin "isinstance") (fun xs H Q => cls = .ref D ∧ d = none ∧ rIsE X.K D a xs H Q) := by
  intro pins s σ H xs us Q I r h
  obtain ⟨h1, h2, h⟩ := h
  subst h1 h2
  exact call_isE C hz hf pins s σ H xs us Q I r h
structure Ei (K : PySem.W.Frag) (mg : Str → Option Value) (C T : Addr) : Prop where
  ex : ExcC K C
  g_TurnError : mg "TurnError" = some (.ref T)
  kT : PySem.W.kitOne K (.ref C) (.ref T) = some true
  kV : PySem.W.kitOne K (.ref C) (.type "ValueError") = some true
end Dg
namespace Dg
open PySem PySem.Spec PyProof.Rows L2
theorem rel_ref (a : Addr) : RelV (.ref a) (.ref a) := rfl
theorem rel_ty (n : String) : RelV (.ty n) (.type n) := rfl
theorem boot_VE : bootBuiltins "ValueError" = some (.type "ValueError") := by decide +kernel
end Dg
namespace Dg
open PySem PySem.Spec PyProof.Rows L2
def lstD (rs : List (List Int)) : PyData := .list (rs.map tupD)
theorem dp_lats {K : PySem.W.Frag} {H : Hp} : ∀ {vs : List V} {ls : List (List (List Int))}, Paired (LAt K H) vs ls → DpAll K H vs (ls.map lstD)
  | _, _, .nil => .nil
  | _, _, .cons h t => .cons (by
      obtain ⟨a, vals, e, h1, h2⟩ := h
      subst e
      exact .lst (sqL h1) (dp_rows h2)) (dp_lats t)
theorem okD_lsts (n : Nat) (ls : List (List (List Int))) : ∀ d ∈ ls.map lstD, okD (n + 2) d := fun d hd => by
  obtain ⟨r, _, rfl⟩ := List.mem_map.mp hd
  exact okD_list (okD_tups n r)
end Dg
namespace Dg
open PySem PySem.Spec PyProof.Rows L2
theorem k_pg_tup {X : Cx} {K : PySem.W.Frag} {es : List Expr} {k n : Nat} {pos : Pos} {t : List V → L2.St → Hp → (L2.St → Hp → Prop) → Prop} (h : PG X (.Tuple es k pos) (gTup X.K n t)) (e : X.K = K) : PG X (.Tuple es k pos) (gTup K n t) := e ▸ h
end Dg
namespace Dg
open PySem PySem.Spec PyProof.Rows L2
def IteG (G : List V → Hp → Prop) (k : Int) : It where
  go i H := ∃ (xs : List V) (x : V), G xs H ∧ xs[i]? = some x
  yld i H v H' := ∃ T x, v = .ref T ∧ H T = none ∧ H' = upd H T (.tup [.int (k + (i : Nat)), x]) ∧ ∀ xs, G xs H → xs[i]? = some x
  stop i H := ∃ xs : List V, G xs H ∧ xs.length ≤ i
structure Drawn (P : Program) (w : World) (K : PySem.W.Frag) (a : Addr) (G : List V → Hp → Prop) (on : Nat → Addr → Heap → Prop) (all : Array Value → Heap → Prop) : Prop where
  sees : ∀ {X : Cx} {pins : List (Addr × Obj)} {σ : L2.St} {H : Hp} {s : Shared} {xs : List V}, X.K = K → Inv X pins σ H s → G xs H → ∃ its : List Value, Vals xs its ∧ all its.toArray s.heap
  same : ∀ {X : Cx} {pins : List (Addr × Obj)} {σ : L2.St} {H : Hp} {s : Shared} {xs ys : List V}, X.K = K → Inv X pins σ H s → G xs H → G ys H → ys = xs
  draws : ∀ (A : Around) (it : Addr) (its : Array Value), A.handled = none → a ≠ it → Draws P w A it [it, a] its.size (fun i v => its[i]? = some v) fun i h => on i it h ∧ all its h
  plain : ∀ {i : Nat} {it : Addr} {h : Heap}, on i it h → ∃ o, h.get? it = some o ∧ ∀ v, o.data ≠ .cell v
  moves : ∀ {i : Nat} {it : Addr} {h h' : Heap}, on i it h → (∀ o, h.get? it = some o → h'.get? it = some o) → on i it h'
  ends : ∀ (A : Around) (it : Addr) (its : Array Value) (i : Nat), A.handled = none → its.size ≤ i → Draws P w A it [it, a] i (fun _ _ => False) fun j h => j = i ∧ on i it h ∧ all its h
theorem drawnT (P : Program) (w : World) (K : PySem.W.Frag) (a : Addr) : Drawn P w K a (fun xs H => SqT K H a xs) (fun i it h => h.IsTupleIter it a i) fun its h => h.IsTuple a its where
  sees k I q := by
    subst k
    obtain ⟨its, r, t, _⟩ := I.tuple q
    exact ⟨its, r, t⟩
  same k I p q := by
    subst k
    exact I.tuple_inj q p
  draws A it its hd ne := Draws.tuple hd it a ne its
  plain z := by
    obtain ⟨o, e, _, d⟩ := z
    refine ⟨o, e, fun v x => ?_⟩
    rw [d] at x
    cases x
  moves z k := z.at k
  ends A it its i hd le :=
    ⟨fun _ _ z => let ⟨o, e, _⟩ := z.2.1; ⟨o, e⟩, fun _ _ _ z k => ⟨z.1, z.2.1.at fun o => k it (by simp) o, z.2.2.at fun o => k a (by simp) o⟩, fun j _ _ _ lt z => absurd z.1 (Nat.ne_of_lt lt),
      fun _ _ _ z e => wpAny_nextOf_tuple_end hd z.2.1 z.2.2 (Array.getElem?_eq_none le) e⟩
theorem drawnL (P : Program) (w : World) (K : PySem.W.Frag) (a : Addr) : Drawn P w K a (fun xs H => SqL K H a xs) (fun i it h => h.IsListIter it a i) fun its h => h.IsList a its where
  sees k I q := by
    subst k
    obtain ⟨its, r, t, _⟩ := I.list q
    exact ⟨its, r, t.isList⟩
  same k I p q := by
    subst k
    exact I.list_inj q p
  draws A it its hd ne := Draws.list hd it a ne its
  plain z := by
    obtain ⟨o, e, _, d⟩ := z
    refine ⟨o, e, fun v x => ?_⟩
    rw [d] at x
    cases x
  moves z k := z.at k
  ends A it its i hd le :=
    ⟨fun _ _ z => let ⟨o, e, _⟩ := z.2.1; ⟨o, e⟩, fun _ _ _ z k => ⟨z.1, z.2.1.at fun o => k it (by simp) o, z.2.2.at fun o => k a (by simp) o⟩, fun j _ _ _ lt z => absurd z.1 (Nat.ne_of_lt lt),
      fun _ _ _ z e => wpAny_nextOf_list_end hd z.2.1 z.2.2 (Array.getElem?_eq_none le) e⟩
theorem new_pair {X : Cx} {pins : List (Addr × Obj)} {σ : L2.St} {H : Hp} {s : Shared} (I : Inv X pins σ H s) {e it : Addr} (le : e < s.heap.objs.size) (li : it < s.heap.objs.size) (free : ∀ b ∈ [e, it], FpOk X pins H b) {h2 : Heap} {tk : Nat} {n : Int} {t : Tok} {x : V} {u : Value} (ru : RelV x u)
    (rest : ∀ b o, b ≠ e → b ≠ it → s.heap.get? b = some o → h2.get? b = some o) (made : h2.get? s.heap.objs.size = some { cls := .type "tuple", data := .seq #[.int n t, u] }) :
    Inv X pins σ (upd H s.heap.objs.size (.tup [.int n, x])) { s with heap := h2, toks := tk } ∧ ∀ b ∈ [e, it], upd H s.heap.objs.size (.tup [.int n, x]) b = none := by
  have apart : ∀ b ∈ [e, it], b ≠ s.heap.objs.size := by
    simp only [List.mem_cons, List.not_mem_nil, or_false]
    intro b z
    rcases z with z | z
    · exact z ▸ Nat.ne_of_lt le
    · exact z ▸ Nat.ne_of_lt li
  constructor
  · refine I.turnedNew (ch := [e, it]) (fun b o nb q => ?_) free (Nat.le_refl _) ⟨(show 2 ≤ sizeLine by decide), [.int n t, u], .cons ⟨t, rfl⟩ (.cons ru .nil), ⟨_, made, rfl, _, rfl⟩⟩
    rw [List.mem_cons, List.mem_singleton] at nb
    exact rest b o (fun z => nb (.inl z)) (fun z => nb (.inr z)) q
  · intro b hb
    rw [upd_ne (apart b hb)]
    exact (free b hb).1
section
variable {P : Program} {w : World} {K : PySem.W.Frag} {elts : List Expr} {kk : Nat} {tpos : Pos} {a : Addr} {G : List V → Hp → Prop} {on : Nat → Addr → Heap → Prop} {all : Array Value → Heap → Prop}
def EnAt (on : Nat → Addr → Heap → Prop) (k : Int) (a e it : Addr) (i : Nat) (h : Heap) : Prop := (∃ old, IsEnum h e it (k + ((i : Nat) : Int)) old) ∧ on i it h ∧ a ≠ it ∧ e ≠ it ∧ e ≠ a
theorem turn_en (D : Drawn P w K a G on all) (k : Int) (e it : Addr) : Turn P w K (.Tuple elts kk tpos) (IteG G k) [e, it] e (EnAt on k a e it) where
  mem := List.mem_cons_self
  obj i h z b hb := by
    obtain ⟨⟨old, en⟩, on1, _⟩ := z
    rcases List.mem_cons.mp hb with y | y
    · rw [y]
      exact ⟨_, en, fun _ => Data.noConfusion⟩
    · obtain rfl := List.mem_singleton.mp y
      exact D.plain on1
  keep i h h' z kp := by
    obtain ⟨⟨old, en⟩, on1, r⟩ := z
    exact ⟨⟨old, kp e List.mem_cons_self _ en⟩, D.moves on1 (kp it (by simp)), r⟩
  item X hP hw hK calm i pins s σ H E I free z go := by
    subst hP hw
    obtain ⟨⟨old, en⟩, on1, ai, ei, ea⟩ := z
    obtain ⟨xs, x, gx, ex⟩ := go
    obtain ⟨its, vals, al⟩ := D.sees hK I gx
    obtain ⟨u, eu, ru⟩ := vals.get ex
    obtain ⟨oi, hoi, _⟩ := D.plain on1
    have le := Heap.lt_size en
    refine wpAny_pyNext_enum_itemC (D.draws X.A.in1 it its.toArray (I.ok.hd calm) ai) en ⟨on1, al⟩ (i := i) (by simpa using (List.getElem?_eq_some_iff.mp eu).1) ei (by simp [ei, ea]) fun y h1 tk ey out nxt tup _ kept => ?_
    have : its[i]? = some y := by simpa using ey
    rw [eu] at this
    cases this
    refine ⟨_, rfl, wpAny_letOwnedTupleGo_enum (s := { s with heap := h1, toks := tk + 1 }) out fun h2 en2 only => ?_⟩
    obtain ⟨I2, gone⟩ := new_pair (h2 := h2) (tk := tk + 1) I le (Heap.lt_size hoi) free ru (fun b o n1 n2 q => (only.2 b n1).trans (kept b o n1 n2 q)) ((only.2 _ (Nat.ne_of_gt le)).trans tup)
    have e1 : k + ((i + 1 : Nat) : Int) = k + (i : Int) + 1 := by omega
    exact ⟨.ref s.heap.objs.size, _, I2, rfl, ⟨_, x, rfl, I.hok.fresh (Nat.le_refl _), rfl, fun ys hy => D.same hK I gx hy ▸ ex⟩, ⟨⟨u, e1 ▸ en2⟩, D.moves nxt.1 (fun o q => (only.2 it (Ne.symm ei)).trans q), ai, ei, ea⟩, gone⟩
  done X hP hw hK calm i pins s σ H E I free z stop := by
    subst hP hw
    obtain ⟨⟨old, en⟩, on1, ai, ei, ea⟩ := z
    obtain ⟨xs, gx, lx⟩ := stop
    obtain ⟨its, vals, al⟩ := D.sees hK I gx
    obtain ⟨f0, f1, f2, f3, f4, f5⟩ := free it (List.mem_cons_of_mem _ List.mem_cons_self)
    have size : its.toArray.size ≤ i := by
      rw [List.size_toArray, ← vals.length]
      exact lx
    exact wpAny_pyNext_enum_endD (D.ends X.A.in1 it its.toArray i (I.ok.hd calm) size) en ⟨rfl, on1, al⟩ fun h' kept => ⟨rfl, I.turned (t' := s.toks) kept f0 f1 f3 f4 f5⟩
  self A i s Q E z q := by
    obtain ⟨⟨old, en⟩, _⟩ := z
    exact wpAny_pyIter_enum en q
end
theorem meets_en1 {v : Value} {o : Obj} {H : Heap → Prop} (B : Begins v o H) : Meets (Builtin.«enumerate.__new__» ⟨[.type "enumerate", v], []⟩)
    (fun _ R s => H s.heap ∧ R (.ok (.ret (.ref (s.heap.push o).objs.size))) { s with heap := (s.heap.push o).push { cls := .type "enumerate", data := .fields #[.none, .bool false, .ref s.heap.objs.size, rawInt 0, .none, .none] } }) := by
  refine .of_wp fun P w A R st ⟨hv, q⟩ => ?_
  obtain ⟨heap, g, d, tk, os⟩ := st
  have kind := sub_enumerate
  have begin1 : ∀ {B' : Around} {E N : Value → Shared → Prop}, N (.ref heap.objs.size) ⟨heap.push o, g, d, tk, os⟩ → wpAny (model P w) B' (pyIter v) N E ⟨heap, g, d, tk, os⟩ := fun n => B.iter P w _ _ _ _ hv n
  wp_walk using begin1
  refine wpAny_stack_any fun top => wpAny_pure ?_
  split
  · rename_i c _ _ _ _ _
    cases c == Value.type "enumerate" <;> (wp_walk using begin1; exact ⟨_, rfl, q⟩)
  · wp_walk using begin1
    exact ⟨_, rfl, q⟩
theorem en1_begins {prog : Program} {w : World} {A : Around} {E Q : Value → Shared → Prop} {s : Shared} {v : Value} {o : Obj} {H : Heap → Prop} (B : Begins v o H) (hv : H s.heap)
    (q : ∀ h', IsEnum h' (s.heap.objs.size + 1) s.heap.objs.size 0 .none → h'.get? s.heap.objs.size = some o → (∀ b u, s.heap.get? b = some u → h'.get? b = some u) → Q (.ref (s.heap.objs.size + 1)) { s with heap := h' }) :
    wpAny (model prog w) A (call (.type "enumerate") [v]) Q E s := by
  have n1 : (s.heap.push o).objs.size = s.heap.objs.size + 1 := Heap.size_push ..
  have made := Heap.get?_push_size (s.heap.push o) (o := { cls := .type "enumerate", data := .fields #[.none, .bool false, .ref s.heap.objs.size, rawInt 0, .none, .none] }) rfl
  rw [n1] at made
  refine callType_new F.called_enumerate (by decide) (F.typeCall_enumerate_1 _) (F.newCall_enumerate_1 _) (fun obj => F.args_object_init_2 obj _) F.entry_enumerate_new (meets_en1 B) ⟨hv, ?_⟩
  rw [n1]
  exact ⟨⟨_, made, rfl⟩, q _ made (Heap.get?_push_of_some _ (Heap.get?_push_size _ B.free)) fun b u x => Heap.get?_push_of_some _ (Heap.get?_push_of_some _ x)⟩
theorem walk_enumT {K : PySem.W.Frag} {a : Addr} {xs : List V} {k : Int} : Walk (IteG (fun xs H => SqT K H a xs) k) xs.length (fun H => SqT K H a xs) (YPair (fun i => some (.int (k + (i : Nat)))) (fun i => xs[i]?)) := by
  refine ⟨fun i _ hi q => ⟨xs, xs[i], q, by simp [hi]⟩, fun _ q => ⟨xs, q, Nat.le_refl _⟩, fun i H v H' _ q y => ?_⟩
  obtain ⟨T, x, h1, h2, h3, h4⟩ := y
  exact ⟨T, .int (k + (i : Nat)), x, h1, h2, h3, rfl, h4 xs q⟩
def iEnumS (K : PySem.W.Frag) (ta : TA) : TI := fun σ H R => ta σ H fun vs H1 => ∃ a xs, vs = [.ref a] ∧ Sq K H1 a xs ∧
  ∀ J, L2.Walk J xs.length (fun H => Sq K H a xs ∧ Same H1 H) (YPair (fun i => some (.int (i : Nat))) (fun i => xs[i]?)) → R J H1
theorem walk_enumS {K : PySem.W.Frag} {a : Addr} {xs : List V} {H1 : Hp} : (SqL K H1 a xs → L2.Walk (Ite K a) xs.length (fun H => Sq K H a xs ∧ Same H1 H) (YPair (fun i => some (.int (i : Nat))) (fun i => xs[i]?))) ∧
    (SqT K H1 a xs → L2.Walk (IteG (fun xs H => SqT K H a xs) 0) xs.length (fun H => Sq K H a xs ∧ Same H1 H) (YPair (fun i => some (.int (i : Nat))) (fun i => xs[i]?))) := by
  refine ⟨fun h => Walk.mono walk_enum (fun H g => g.2.seq h) fun _ _ _ _ _ _ y => y, fun h => Walk.mono walk_enumT (fun H g => same_t g.2 h) fun i H x H' _ _ y => ?_⟩
  obtain ⟨T, u, v, h1, h2, h3, h4, h5⟩ := y
  refine ⟨T, u, v, h1, h2, h3, ?_, h5⟩
  rw [← h4]
  simp
theorem pi_enumS {X : Cx} {e : Expr} {ta : TA} {p pos tpos : Pos} {elts : List Expr} {kk : Nat} (hg : Gl X "enumerate") (hm : X.mg "enumerate" = none) (ha : PA X [e] ta) (hs : starEach [e] X.env = [(false, eval e X.env)] := by rfl) :
    PI X (.Tuple elts kk tpos) (.Call (.Name "enumerate" p) [e] [] pos) (iEnumS X.K ta) := by
  constructor
  intro pins s σ H R I h
  refine Call_ (ld_blt I hg hm boot_enumerate (PyProof.Rows.callWith_type1 (thn (ha.run pos pins s σ H _ I h) fun us s1 z => ?_) hs rfl))
  obtain ⟨vs, H1, I1, r1, a, xs, rfl, sq, q⟩ := z
  obtain ⟨u, rfl, ru⟩ : ∃ u, us = [u] ∧ RelV (V.ref a) u := by
    cases r1 with
    | cons r rr =>
      cases rr
      exact ⟨_, rfl, r⟩
  obtain rfl : u = .ref a := ru
  let n := s1.heap.objs.size
  have young : ∀ b ∈ [n + 1, n], FpOk X pins H1 b := fun b hb => by
    have le : n ≤ b := by
      rcases List.mem_cons.mp hb with z | z
      · exact z ▸ Nat.le_add_right n 1
      · exact Nat.le_of_eq (List.mem_singleton.mp z).symm
    exact I1.fpOk le (I1.hok.fresh le)
  have old : ∀ {o : Obj}, s1.heap.get? a = some o → a ≠ n ∧ n + 1 ≠ a := fun e => by
    have := Heap.lt_size e
    exact ⟨Nat.ne_of_lt this, Nat.ne_of_gt (Nat.lt_succ_of_lt this)⟩
  rcases sq with l | t
  · obtain ⟨its, _, is, _⟩ := I1.list l
    exact call_enumerate_list is.isList fun h' en on _ kp => wpAny_pyIter_enum en ⟨n + 1, [n + 1, n], _, _, H1, rfl, I1.kept (t' := s1.toks) kp, turn_enum a (n + 1) n, ⟨⟨.none, en⟩, on, Nat.succ_ne_self _⟩, young, q _ (walk_enumS.1 l)⟩
  · obtain ⟨its, _, is, _⟩ := I1.tuple t
    have is2 : s1.heap.IsTuple a its.toArray := is
    obtain ⟨o, eo, _⟩ := is2
    exact en1_begins (begins_tuple a its.toArray) is fun h' en made kp => wpAny_pyIter_enum en
      ⟨n + 1, [n + 1, n], _, _, H1, rfl, I1.kept (t' := s1.toks) kp, turn_en (drawnT X.prog X.w X.K a) 0 (n + 1) n, ⟨⟨.none, by simpa using en⟩, ⟨_, made, rfl, rfl⟩, (old eo).1, Nat.succ_ne_self _, (old eo).2⟩, young, q _ (walk_enumS.2 t)⟩
end Dg
namespace Dg
open PySem PySem.Spec PyProof.Rows L2
def spFld (C : Addr) (fld : Str) : Sp := fun vs H Q _ => ∃ (a : Addr) (v : V), vs = [.ref a, v] ∧ H a = some (exo a C none) ∧
  ∀ dx, H dx = none → dx ≠ a → Q .non (upd (upd H dx (exd dx [(fld, v)])) a (exo a C (some dx)))
structure Ef (P : Program) (w : World) (K : PySem.W.Frag) (mg : Str → Option Value) (base : Heap) (x fld : Str) (C : Addr) : Prop where
  T : OexC K C
  gC : mg x = some (.ref C)
  no : PySem.W.findIn K (.ref C) fld = some none
  ini : ∃ (fI : Addr) (fd : FuncData), PySem.W.findIn K (.ref C) "__init__" = some (some (.ref fI)) ∧ PySem.W.typeIn K (.ref fI) = some (.type "function") ∧ FnOk P w K mg base CX0 1 fI fd ["self", fld] (spFld C fld) ∧ Binds K fd ["self", fld] []
  xf : XfC K C
  iC : PySem.W.isClsIn K C = true
  sC : PySem.W.subIn K (.ref C) (.ref C) = some true
theorem Ef.te {P : Program} {w : World} {K : PySem.W.Frag} {mg : Str → Option Value} {base : Heap} {x fld : Str} {C : Addr} (c : Ef P w K mg base x fld C) : PySem.W.exmOne K (.ref C) (.ref C) = some true := exm_self c.T.exC c.iC c.T.tyC c.sC
theorem passF {X : Cx} : Passes CX0 X (fun _ _ _ => False) := fun _ _ _ _ _ _ _ h => h.elim
theorem pmk_fld {X : Cx} {x fld : Str} {C : Addr} {e : Expr} {ta : TA} {p pos : Pos} (c : Ef X.prog X.w X.K X.mg X.base x fld C) (hr : Room 2 X.A) (hg : Gl X x) (ha : PA X [e] ta) (hdb : (x == ("__debug__" : Str)) = false := by decide)
    (he : starEach [e] X.env = (false, eval e X.env) :: starEach [] X.env := by rfl) (hpl : (backTo pos (starEach [] X.env)).any (·.1) = false := by rfl) :
    PMk X (.Call (.Name x p) [e] [] pos) (tMkO C (spFld C fld) [] ta) := by
  obtain ⟨fI, fd, iC, tI, F1, hb⟩ := c.ini
  exact pmk_oex c.T iC tI F1 hr hb .nil passF hg c.gC ha hdb he hpl
theorem mkO_in {C : Addr} {fld : Str} {v : V} {H1 : Hp} {Q : XK} (h : ∀ d, H1 d = none → Q (.ref C) (some d) (upd H1 d (.xd [(fld, v)]))) :
    [v].length ≤ 1000 ∧ ∀ a, H1 a = none → spFld C fld (.ref a :: ([v] ++ [])) (upd H1 a (exo a C none)) (fun u H2 => u = .non ∧ ∃ (d : Addr) (fs : List (Str × V)), H2 a = some (exo a C (some d)) ∧ H2 d = some (exd d fs) ∧ H1 d = none ∧ Q (.ref C) (some d) (upd (del H2 a) d (.xd fs))) (fun _ _ _ => False) := by
  refine ⟨by show 1 ≤ 1000; decide, fun a na => ⟨a, v, rfl, upd_same, fun dx nd ne => ⟨rfl, dx, [(fld, v)], upd_same, ?_, ?_, ?_⟩⟩⟩
  · rw [upd_ne ne, upd_same]
  · rw [upd_ne ne] at nd
    exact nd
  · rw [upd_ne ne] at nd
    have e : upd (del (upd (upd (upd H1 a (exo a C none)) dx (exd dx [(fld, v)])) a (exo a C (some dx))) a) dx (.xd [(fld, v)]) = upd H1 dx (.xd [(fld, v)]) := by
      funext b
      by_cases h1 : b = dx
      · rw [h1, upd_same, upd_same]
      · rw [upd_ne h1, upd_ne h1]
        by_cases h2 : b = a
        · rw [h2, del_same, na]
        · rw [del_ne h2, upd_ne h2, upd_ne h1, upd_ne h2]
    rw [e]
    exact h dx nd
end Dg
namespace Dg
open PySem PySem.Spec PyProof.Rows L2
def iAny (K : PySem.W.Frag) (tl : TE) : TI := fun σ H R => tl σ H fun x H1 => ∃ a xs, x = .ref a ∧ Sq K H1 a xs ∧ ∀ J, L2.Walk J xs.length (fun H => Sq K H a xs ∧ Same H1 H) (YAt xs) → R J H1
theorem seq_begins {X : Cx} {pins : List (Addr × Obj)} {σ : L2.St} {H : Hp} {s : Shared} {tg : Expr} {a : Addr} {R : It → Hp → Prop} (I : Inv X pins σ H s) (q : ((∃ xs, SqL X.K H a xs) ∧ R (Itl X.K a) H) ∨ ((∃ xs, SqT X.K H a xs) ∧ R (Itt X.K a) H)) :
    wpAny (model X.prog X.w) X.A (pyIter (.ref a)) (PIE X pins σ tg R) X.xe s := by
  let n := s.heap.objs.size
  have young : ∀ b ∈ [n], FpOk X pins H b := fun b z => List.mem_singleton.mp z ▸ I.fpOk (Nat.le_refl n) (I.hok.fresh (Nat.le_refl n))
  have old : ∀ (o : Obj) (b : Addr) (u : Obj), s.heap.get? b = some u → (s.heap.push o).get? b = some u := fun _ _ _ z => Heap.get?_push_of_some _ z
  rcases q with ⟨⟨xs, l⟩, q⟩ | ⟨⟨xs, t⟩, q⟩
  · obtain ⟨its, _, is, _⟩ := I.list l
    exact wpAny_pyIter_list is.isList ⟨n, [n], _, _, H, rfl, I.kept (t' := s.toks) (old _), turn_list a n, ⟨_, Heap.get?_push_size _ rfl, rfl, rfl⟩, young, q⟩
  · obtain ⟨its, _, is, _⟩ := I.tuple t
    have is2 : s.heap.IsTuple a its.toArray := is
    exact wpAny_pyIter_tuple is2 ⟨n, [n], _, _, H, rfl, I.kept (t' := s.toks) (old _), turn_tuple a n, ⟨_, Heap.get?_push_size _ rfl, rfl, rfl⟩, young, q⟩
theorem pi_any {X : Cx} {tg l : Expr} {tl : TE} (hl : PE X l tl) : PI X tg l (iAny X.K tl) := by
  constructor
  intro pins s σ H R I h
  refine thn (hl.run pins s σ H _ I h) fun v s1 z => ?_
  obtain ⟨_, H1, I1, rv, a, xs, rfl, sq, q⟩ := z
  obtain rfl : v = .ref a := rv
  refine seq_begins I1 ?_
  rcases sq with k | k
  · exact .inl ⟨⟨xs, k⟩, q _ (Walk.mono walk_list (fun H g => g.2.seq k) fun _ _ _ _ _ _ y => y)⟩
  · exact .inr ⟨⟨xs, k⟩, q _ (Walk.mono walk_tup (fun H g => same_t g.2 k) fun _ _ _ _ _ _ y => y)⟩
def ValAt (K : PySem.W.Frag) (H : Hp) (v : V) (r : List Int) : Prop := ∃ a, v = .ref a ∧ Sq K H a (r.map V.int)
theorem ValAt.same {K : PySem.W.Frag} {H H' : Hp} (e : Same H H') {v : V} {r : List Int} (h : ValAt K H v r) : ValAt K H' v r := by
  obtain ⟨a, h1, h2⟩ := h
  exact ⟨a, h1, h2.same e⟩
theorem RowAt.val {K : PySem.W.Frag} {H : Hp} {v : V} {r : List Int} (h : RowAt K H v r) : ValAt K H v r := by
  obtain ⟨a, h1, h2⟩ := h
  exact ⟨a, h1, .inr h2⟩
theorem vals_same {K : PySem.W.Frag} {H H' : Hp} (e : Same H H') {vs : List V} {rs : List (List Int)} (h : Paired (ValAt K H) vs rs) : Paired (ValAt K H') vs rs := pd_mono h fun _ _ => ValAt.same e
theorem truV_l {K : PySem.W.Frag} {H : Hp} {a : Addr} {xs : List V} (h : SqL K H a xs) : TruV K (.ref a) H (!xs.isEmpty) := .inl ⟨xs, h, rfl⟩
theorem truV_t {K : PySem.W.Frag} {H : Hp} {a : Addr} {xs : List V} (h : SqT K H a xs) : TruV K (.ref a) H (!xs.isEmpty) := .inr (.inl ⟨xs, h, rfl⟩)
end Dg
namespace Dg
open PySem PySem.Spec PyProof.Rows L2
theorem sqT_upd {K : PySem.W.Frag} {H : Hp} {D a : Addr} {o : HO} {acc xs : List V} (hD : H D = some (.lst acc)) (h : SqT K H a xs) : SqT K (upd H D o) a xs := by
  rcases h with (h | ⟨o', h⟩) | h
  · exact .inl (.inl (by rw [upd_ne (ne_of h hD (by intro z; cases z))]; exact h))
  · exact .inl (.inr ⟨o', by rw [upd_ne (ne_of h hD (by intro z; cases z))]; exact h⟩)
  · exact .inr h
theorem row_upd {K : PySem.W.Frag} {H : Hp} {D : Addr} {o : HO} {acc : List V} {v : V} {r : List Int} (hD : H D = some (.lst acc)) (h : RowAt K H v r) : RowAt K (upd H D o) v r := by
  obtain ⟨a, e, h⟩ := h
  exact ⟨a, e, sqT_upd hD h⟩
end Dg
namespace Dg
def carryV (k l : List Int) (c d : Nat) : Option Int :=
  if k.getD d 0 = l.getD d 0 then none
  else if k.getD c 0 > k.getD d 0 then some (k.getD d 0 + 1)
  else if l.getD d 0 > l.getD c 0 then some (l.getD d 0)
  else none
def stepV (k l : List Int) (n : Nat) : Option (List Int × Int) :=
  (List.range n).findSome? fun i => if k.getD i 0 > l.getD i 0 then some ([(i : Int)], k.getD i 0) else none
def pairV (k l : List Int) (d n : Nat) : Option (List Int × Int) :=
  (List.range n).findSome? fun c => (carryV k l c d).map fun p => ([(c : Int), (d : Int)], p)
def carriesV (k l : List Int) (n : Nat) : Option (List Int × Int) :=
  (List.range n).findSome? fun d => pairV k l d d
def faultV (k l : List Int) : Option (List Int × Int) :=
  match stepV k l k.length with
  | some x => some x
  | none => carriesV k l k.length
theorem range_some {α : Type} (f : Nat → Option α) (n : Nat) : (List.range (n + 1)).findSome? f = ((List.range n).findSome? f).or (f n) := by
  rw [List.range_succ, List.findSome?_append]
  congr 1
  simp
theorem range_some_first {α : Type} {f : Nat → Option α} {x : α} : ∀ (n i : Nat), i < n → (List.range i).findSome? f = none → f i = some x → (List.range n).findSome? f = some x
  | 0, _, h, _, _ => absurd h (Nat.not_lt_zero _)
  | n + 1, i, h, h0, hx => by
    rw [range_some]
    by_cases e : i = n
    · subst e
      rw [h0, hx]
      rfl
    · rw [range_some_first n i (by omega) h0 hx]
      rfl
end Dg
namespace Dg
def preP (g : Nat → Nat → Int) : Nat → Nat → Int
  | 0, _ => 0
  | i + 1, v => 2 * preP g i v + g i v
def redP (g : Nat → Nat → Int) (k : Nat → Nat) : Nat → Int
  | 0 => 0
  | i + 1 => 2 * redP g k i + g i (k i)
structure Bits (g : Nat → Nat → Int) : Prop where
  lo : ∀ i v, 0 ≤ g i v
  hi : ∀ i v, g i v ≤ 1
theorem preP_mono {g : Nat → Nat → Int} (B : Bits g) {v w : Nat} : ∀ (n i : Nat), i ≤ n → preP g n v ≤ preP g n w → preP g i v ≤ preP g i w
  | 0, i, h, hn => by
    have : i = 0 := by omega
    subst this
    exact hn
  | n + 1, i, h, hn => by
    by_cases e : i = n + 1
    · subst e
      exact hn
    · refine preP_mono B n i (by omega) ?_
      have h1 := B.lo n v
      have h2 := B.hi n w
      simp only [preP] at hn
      omega
structure Crit (k l : Nat → Nat) (n : Nat) : Prop where
  le : ∀ i, i < n → k i ≤ l i
  adj : ∀ i, i + 1 < n → k (i + 1) = l (i + 1) ∨ (k i ≤ k (i + 1) ∧ l (i + 1) ≤ l i)
theorem crit_same {g : Nat → Nat → Int} {k l : Nat → Nat} {n : Nat} (C : Crit k l n) (M : ∀ i v w, i ≤ n → v ≤ w → preP g i v ≤ preP g i w) :
    ∀ x, x < n → (∀ j, j ≤ x → g j (k j) = g j (l j)) → ∀ lo hi, k x ≤ lo → lo ≤ hi → hi ≤ l x → preP g (x + 1) lo = preP g (x + 1) hi
  | 0, hx, hd, lo, hi, h1, h2, h3 => by
    have a1 := M 1 (k 0) lo (by omega) h1
    have a2 := M 1 lo hi (by omega) h2
    have a3 := M 1 hi (l 0) (by omega) h3
    have e : preP g 1 (k 0) = preP g 1 (l 0) := by
      simp only [preP]
      rw [hd 0 (Nat.le_refl _)]
    show preP g 1 lo = preP g 1 hi
    omega
  | x + 1, hx, hd, lo, hi, h1, h2, h3 => by
    rcases C.adj x hx with e | ⟨e1, e2⟩
    · have : lo = hi := by omega
      rw [this]
    · have hk := C.le (x + 1) hx
      have e : preP g (x + 1) (k (x + 1)) = preP g (x + 1) (l (x + 1)) := crit_same C M x (by omega) (fun j hj => hd j (by omega)) _ _ e1 hk e2
      have e' : preP g (x + 2) (k (x + 1)) = preP g (x + 2) (l (x + 1)) := by
        show 2 * preP g (x + 1) (k (x + 1)) + g (x + 1) (k (x + 1)) = 2 * preP g (x + 1) (l (x + 1)) + g (x + 1) (l (x + 1))
        rw [e, hd (x + 1) (Nat.le_refl _)]
      have a1 := M (x + 2) (k (x + 1)) lo (by omega) h1
      have a2 := M (x + 2) lo hi (by omega) h2
      have a3 := M (x + 2) hi (l (x + 1)) (by omega) h3
      show preP g (x + 2) lo = preP g (x + 2) hi
      omega
theorem crit_le {g : Nat → Nat → Int} (B : Bits g) {k l : Nat → Nat} {n : Nat} (C : Crit k l n) (M : ∀ i v w, i ≤ n → v ≤ w → preP g i v ≤ preP g i w) :
    ∀ i, i ≤ n → redP g k i < redP g l i ∨ (redP g k i = redP g l i ∧ ∀ j, j < i → g j (k j) = g j (l j))
  | 0, _ => .inr ⟨rfl, fun j h => absurd h (Nat.not_lt_zero _)⟩
  | i + 1, hi => by
    have b1 := B.lo i (k i)
    have b2 := B.hi i (k i)
    have b3 := B.lo i (l i)
    have b4 := B.hi i (l i)
    have ek : redP g k (i + 1) = 2 * redP g k i + g i (k i) := rfl
    have el : redP g l (i + 1) = 2 * redP g l i + g i (l i) := rfl
    rcases crit_le B C M i (by omega) with h | ⟨h, hd⟩
    · left
      omega
    · have hk := C.le i (by omega)
      have key : g i (k i) ≤ g i (l i) := by
        have m1 := M (i + 1) (k i) (l i) hi hk
        have e1 : preP g (i + 1) (k i) = 2 * preP g i (k i) + g i (k i) := rfl
        have e2 : preP g (i + 1) (l i) = 2 * preP g i (l i) + g i (l i) := rfl
        cases i with
        | zero =>
          have z1 : preP g 0 (k 0) = 0 := rfl
          have z2 : preP g 0 (l 0) = 0 := rfl
          omega
        | succ x =>
          rcases C.adj x (by omega) with e | ⟨f1, f2⟩
          · rw [e]
            exact Int.le_refl _
          · have e := crit_same C M x (by omega) (fun j hj => hd j (by omega)) _ _ f1 hk f2
            omega
      by_cases e : g i (k i) = g i (l i)
      · right
        refine ⟨by omega, fun j hj => ?_⟩
        by_cases hj2 : j = i
        · subst hj2
          exact e
        · exact hd j (by omega)
      · left
        omega
end Dg
namespace Dg
def numV (r : List Int) : Int := r.foldl (fun a d => 2 * a + d) 0
def rowsV : Nat → List (List Int)
  | 0 => [[]]
  | n + 1 => (rowsV n).flatMap fun r => [r ++ [0], r ++ [1]]
theorem numV_snoc (r : List Int) (d : Int) : numV (r ++ [d]) = 2 * numV r + d := by
  unfold numV
  rw [List.foldl_append]
  rfl
def IsBits (n : Nat) (r : List Int) : Prop := r.length = n ∧ ∀ d ∈ r, d = 0 ∨ d = 1
theorem snoc_of {α : Type} {n : Nat} {r : List α} (h : r.length = n + 1) : ∃ s d, r = s ++ [d] ∧ s.length = n := by
  rcases List.eq_nil_or_concat r with e | ⟨s, d, e⟩
  · rw [e] at h
    simp at h
  · rw [List.concat_eq_append] at e
    refine ⟨s, d, e, ?_⟩
    rw [e] at h
    simp at h
    exact h
theorem mem_rowsV : ∀ (n : Nat) (r : List Int), r ∈ rowsV n ↔ IsBits n r
  | 0, r => by
    unfold IsBits rowsV
    constructor
    · intro h
      have e : r = [] := by simpa using h
      subst e
      exact ⟨rfl, fun d hd => by simp at hd⟩
    · intro h
      have e : r = [] := List.eq_nil_of_length_eq_zero h.1
      rw [e]
      simp
  | n + 1, r => by
    unfold rowsV
    rw [List.mem_flatMap]
    constructor
    · rintro ⟨s, hs, hr⟩
      have hb := (mem_rowsV n s).mp hs
      have hr' : r = s ++ [0] ∨ r = s ++ [1] := by simpa using hr
      rcases hr' with e | e <;> subst e
      · refine ⟨by rw [List.length_append, hb.1]; rfl, fun d hd => ?_⟩
        rcases List.mem_append.mp hd with h | h
        · exact hb.2 d h
        · left
          simpa using h
      · refine ⟨by rw [List.length_append, hb.1]; rfl, fun d hd => ?_⟩
        rcases List.mem_append.mp hd with h | h
        · exact hb.2 d h
        · right
          simpa using h
    · rintro ⟨h1, h2⟩
      obtain ⟨s, d, e, hs⟩ := snoc_of h1
      subst e
      refine ⟨s, (mem_rowsV n s).mpr ⟨hs, fun x hx => h2 x (List.mem_append_left _ hx)⟩, ?_⟩
      rcases h2 d (List.mem_append_right _ List.mem_cons_self) with e | e <;> rw [e] <;> simp
theorem rowsV_len (n : Nat) : (rowsV n).length = 2 ^ n := by
  induction n with
  | zero => rfl
  | succ n ih =>
    unfold rowsV
    rw [List.length_flatMap]
    have e : (List.map (fun a => ([a ++ [(0 : Int)], a ++ [1]] : List (List Int)).length) (rowsV n)) = List.replicate (rowsV n).length 2 := by
      rw [List.eq_replicate_iff]
      refine ⟨by rw [List.length_map], fun b hb => ?_⟩
      obtain ⟨a, _, rfl⟩ := List.mem_map.mp hb
      rfl
    rw [e, List.sum_replicate_nat, ih, Nat.pow_succ]
theorem rowsV_pw : ∀ n : Nat, (rowsV n).Pairwise fun a b => numV a < numV b
  | 0 => by
    unfold rowsV
    simp
  | n + 1 => by
    unfold rowsV
    rw [List.pairwise_flatMap]
    refine ⟨fun a _ => ?_, ?_⟩
    · simp only [List.pairwise_cons, List.mem_cons, List.mem_nil_iff, or_false, forall_eq, List.not_mem_nil, false_imp_iff, implies_true, List.Pairwise.nil, and_true]
      rw [numV_snoc, numV_snoc]
      omega
    · refine (rowsV_pw n).imp fun {a b} h x hx y hy => ?_
      have hx' : x = a ++ [0] ∨ x = a ++ [1] := by simpa using hx
      have hy' : y = b ++ [0] ∨ y = b ++ [1] := by simpa using hy
      rcases hx' with e | e <;> rcases hy' with e2 | e2 <;> rw [e, e2, numV_snoc, numV_snoc] <;> omega
def firstV (rows one : List (List Int)) : Nat := match one.getLast? with
  | none => 0
  | some r => rows.findIdx (fun x => decide (x = r))
def risV (rows : List (List Int)) : Nat → List (List (List Int))
  | 0 => [[]]
  | n + 1 => (risV rows n).flatMap fun one => (rows.drop (firstV rows one)).map fun row => one ++ [row]
structure IsRis (rows : List (List Int)) (m : Nat) (rs : List (List Int)) : Prop where
  len : rs.length = m
  mem : ∀ r ∈ rs, r ∈ rows
  up : rs.Pairwise fun a b => numV a ≤ numV b
theorem getLast_snoc {α : Type} (s : List α) (d : α) : (s ++ [d]).getLast? = some d := by simp
theorem drop_le {rows : List (List Int)} (pw : rows.Pairwise fun a b => numV a < numV b) {x y : List Int} {j : Nat} (hx : rows[j]? = some x) (hy : y ∈ rows.drop j) : numV x ≤ numV y := by
  have hj : j < rows.length := (List.getElem?_eq_some_iff.mp hx).1
  have e : rows.drop j = x :: rows.drop (j + 1) := by
    rw [List.drop_eq_getElem_cons hj]
    congr 1
    exact (List.getElem?_eq_some_iff.mp hx).2
  rw [e] at hy
  have pw2 : (rows.drop j).Pairwise fun a b => numV a < numV b := pw.sublist (List.drop_sublist _ _)
  rw [e] at pw2
  rcases List.mem_cons.mp hy with h | h
  · rw [h]
    exact Int.le_refl _
  · exact Int.le_of_lt (List.rel_of_pairwise_cons pw2 h)
theorem mem_drop {rows : List (List Int)} (pw : rows.Pairwise fun a b => numV a < numV b) {x y : List Int} {j : Nat} (hx : rows[j]? = some x) (hy : y ∈ rows) (h : numV x ≤ numV y) : y ∈ rows.drop j := by
  rw [← List.take_append_drop j rows] at hy
  rcases List.mem_append.mp hy with h1 | h1
  · exfalso
    have hj : j < rows.length := (List.getElem?_eq_some_iff.mp hx).1
    have hxd : x ∈ rows.drop j := by
      rw [List.drop_eq_getElem_cons hj, (List.getElem?_eq_some_iff.mp hx).2]
      exact List.mem_cons_self
    have pw' := pw
    rw [← List.take_append_drop j rows, List.pairwise_append] at pw'
    have := pw'.2.2 y h1 x hxd
    omega
  · exact h1
theorem find_at {rows : List (List Int)} {r : List Int} (h : r ∈ rows) : rows[rows.findIdx (fun x => decide (x = r))]? = some r := by
  have hlt : rows.findIdx (fun x => decide (x = r)) < rows.length := List.findIdx_lt_length_of_exists ⟨r, h, by simp⟩
  rw [List.getElem?_eq_getElem hlt]
  have := List.findIdx_getElem (w := hlt)
  rw [of_decide_eq_true this]
theorem mem_risV {rows : List (List Int)} (pw : rows.Pairwise fun a b => numV a < numV b) : ∀ (m : Nat) (rs : List (List Int)), rs ∈ risV rows m ↔ IsRis rows m rs
  | 0, rs => by
    unfold risV
    constructor
    · intro h
      have e : rs = [] := by simpa using h
      subst e
      exact ⟨rfl, fun r hr => by simp at hr, List.Pairwise.nil⟩
    · intro h
      rw [List.eq_nil_of_length_eq_zero h.len]
      simp
  | m + 1, rs => by
    unfold risV
    rw [List.mem_flatMap]
    constructor
    · rintro ⟨one, ho, hr⟩
      obtain ⟨row, hrow, rfl⟩ := List.mem_map.mp hr
      have H := (mem_risV pw m one).mp ho
      refine ⟨by rw [List.length_append, H.len]; rfl, fun r hr => ?_, ?_⟩
      · rcases List.mem_append.mp hr with h | h
        · exact H.mem r h
        · have e : r = row := by simpa using h
          rw [e]
          exact List.mem_of_mem_drop hrow
      · rw [List.pairwise_append]
        refine ⟨H.up, by simp, fun a ha b hb => ?_⟩
        have eb : b = row := by simpa using hb
        subst eb
        rcases List.eq_nil_or_concat one with e | ⟨s, d, e⟩
        · rw [e] at ha
          simp at ha
        · have e' : one = s ++ [d] := e.trans (List.concat_eq_append)
          have hf : firstV rows one = rows.findIdx (fun x => decide (x = d)) := by
            unfold firstV
            rw [e', getLast_snoc]
          have hd : d ∈ rows := H.mem d (by rw [e']; simp)
          have h1 : numV d ≤ numV b := drop_le pw (find_at hd) (by rw [← hf]; exact hrow)
          rw [e'] at ha
          rcases List.mem_append.mp ha with h | h
          · have up := H.up
            rw [e', List.pairwise_append] at up
            have := up.2.2 a h d List.mem_cons_self
            omega
          · have : a = d := by simpa using h
            rw [this]
            exact h1
    · rintro ⟨h1, h2, h3⟩
      obtain ⟨s, d, e, hs⟩ := snoc_of h1
      subst e
      rw [List.pairwise_append] at h3
      refine ⟨s, (mem_risV pw m s).mpr ⟨hs, fun r hr => h2 r (List.mem_append_left _ hr), h3.1⟩, List.mem_map.mpr ⟨d, ?_, rfl⟩⟩
      have hd : d ∈ rows := h2 d (by simp)
      rcases List.eq_nil_or_concat s with e | ⟨t, x, e⟩
      · unfold firstV
        rw [e]
        exact hd
      · have e' : s = t ++ [x] := e.trans (List.concat_eq_append)
        have hf : firstV rows s = rows.findIdx (fun y => decide (y = x)) := by
          unfold firstV
          rw [e', getLast_snoc]
        rw [hf]
        refine mem_drop pw (find_at (h2 x (by rw [e']; simp))) hd (h3.2.2 x (by rw [e']; simp) d List.mem_cons_self)
theorem risV_len (rows : List (List Int)) (R : Nat) (h : rows.length ≤ R) : ∀ m, (risV rows m).length ≤ R ^ m
  | 0 => by simp [risV]
  | m + 1 => by
    unfold risV
    rw [List.length_flatMap]
    have ih := risV_len rows R h m
    have key : ∀ l : List (List (List Int)), (l.map fun one => ((rows.drop (firstV rows one)).map fun row => one ++ [row]).length).sum ≤ l.length * R := by
      intro l
      induction l with
      | nil => simp
      | cons a r ih2 =>
        rw [List.map_cons, List.sum_cons, List.length_cons, Nat.succ_mul]
        have : ((rows.drop (firstV rows a)).map fun row => a ++ [row]).length ≤ R := by
          rw [List.length_map, List.length_drop]
          omega
        omega
    refine Nat.le_trans (key _) ?_
    rw [Nat.pow_succ]
    exact Nat.mul_le_mul_right _ ih
end Dg
namespace Dg
def rowV (rows : List (List Int)) (k : List Int) : List Int := (List.range k.length).map fun i => (rows.getD (k.getD i 0).toNat []).getD i 0
def digV (rows : List (List Int)) (i v : Nat) : Int := (rows.getD (min v (rows.length - 1)) []).getD i 0
def verV (k : List Int) (i : Nat) : Nat := (k.getD i 0).toNat
structure InV (k : List Int) (m : Nat) : Prop where
  lo : ∀ i, 0 ≤ k.getD i 0
  hi : ∀ i, k.getD i 0 ≤ (m : Int)
theorem num_row {rows : List (List Int)} {k : List Int} {m : Nat} (h : InV k m) (hr : rows.length = m + 1) : ∀ n, n ≤ k.length →
    numV ((List.range n).map fun i => (rows.getD (k.getD i 0).toNat []).getD i 0) = redP (digV rows) (verV k) n
  | 0, _ => rfl
  | n + 1, hn => by
    rw [List.range_succ, List.map_append, List.map_cons, List.map_nil, numV_snoc, num_row h hr n (by omega)]
    have h1 := h.lo n
    have h2 := h.hi n
    have e : min (verV k n) (rows.length - 1) = (k.getD n 0).toNat := by
      unfold verV
      omega
    show _ = 2 * redP (digV rows) (verV k) n + digV rows n (verV k n)
    unfold digV
    rw [e]
theorem num_row' {rows : List (List Int)} {k : List Int} {m : Nat} (h : InV k m) (hr : rows.length = m + 1) : numV (rowV rows k) = redP (digV rows) (verV k) k.length := num_row h hr _ (Nat.le_refl _)
theorem getD_bits {n : Nat} {r : List Int} (h : IsBits n r) (i : Nat) : 0 ≤ r.getD i 0 ∧ r.getD i 0 ≤ 1 := by
  rw [List.getD_eq_getElem?_getD]
  cases e : r[i]? with
  | none => simp
  | some d =>
    have := h.2 d (List.mem_of_getElem? e)
    simp only [Option.getD_some]
    omega
theorem dig_row {rows : List (List Int)} {m : Nat} (hr : rows.length = m + 1) (v : Nat) : ∃ r, r ∈ rows ∧ (∀ i, digV rows i v = r.getD i 0) ∧ rows[min v (rows.length - 1)]? = some r := by
  have hlt : min v (rows.length - 1) < rows.length := by omega
  refine ⟨rows[min v (rows.length - 1)], List.getElem_mem hlt, fun i => ?_, List.getElem?_eq_getElem hlt⟩
  unfold digV
  rw [List.getD_eq_getElem?_getD (l := rows), List.getElem?_eq_getElem hlt]
  rfl
theorem pre_num {g : Nat → Nat → Int} {r : List Int} {v : Nat} (h : ∀ i, g i v = r.getD i 0) : ∀ n, n ≤ r.length → preP g n v = numV (r.take n)
  | 0, _ => rfl
  | n + 1, hn => by
    have hlt : n < r.length := by omega
    have e : r.take (n + 1) = r.take n ++ [r.getD n 0] := by
      rw [List.take_add_one, List.getElem?_eq_getElem hlt, List.getD_eq_getElem?_getD, List.getElem?_eq_getElem hlt]
      rfl
    rw [e, numV_snoc, ← pre_num h n (by omega)]
    show 2 * preP g n v + g n v = _
    rw [h]
theorem ris_mono {n m : Nat} {rows : List (List Int)} (R : IsRis (rowsV n) (m + 1) rows) : ∀ i v w, i ≤ n → v ≤ w → preP (digV rows) i v ≤ preP (digV rows) i w := by
  have B : Bits (digV rows) := by
    constructor
    · intro i v
      obtain ⟨r, hr, hd, _⟩ := dig_row R.len v
      rw [hd]
      exact (getD_bits ((mem_rowsV n r).mp (R.mem r hr)) i).1
    · intro i v
      obtain ⟨r, hr, hd, _⟩ := dig_row R.len v
      rw [hd]
      exact (getD_bits ((mem_rowsV n r).mp (R.mem r hr)) i).2
  intro i v w hi hvw
  refine preP_mono B n i hi ?_
  obtain ⟨r, hr, hd, e1⟩ := dig_row R.len v
  obtain ⟨s, hs, hd2, e2⟩ := dig_row R.len w
  have lr := ((mem_rowsV n r).mp (R.mem r hr)).1
  have ls := ((mem_rowsV n s).mp (R.mem s hs)).1
  rw [pre_num hd n (by omega), pre_num hd2 n (by omega), List.take_of_length_le (by omega), List.take_of_length_le (by omega)]
  by_cases e : min v (rows.length - 1) = min w (rows.length - 1)
  · rw [e, e2] at e1
    have := Option.some.inj e1
    rw [this]
    exact Int.le_refl _
  · have up := List.pairwise_iff_getElem.mp R.up (min v (rows.length - 1)) (min w (rows.length - 1)) (List.getElem?_eq_some_iff.mp e1).1 (List.getElem?_eq_some_iff.mp e2).1 (by omega)
    rw [(List.getElem?_eq_some_iff.mp e1).2, (List.getElem?_eq_some_iff.mp e2).2] at up
    exact up
theorem ris_bits {n m : Nat} {rows : List (List Int)} (R : IsRis (rowsV n) (m + 1) rows) : Bits (digV rows) := by
  constructor
  · intro i v
    obtain ⟨r, hr, hd, _⟩ := dig_row R.len v
    rw [hd]
    exact (getD_bits ((mem_rowsV n r).mp (R.mem r hr)) i).1
  · intro i v
    obtain ⟨r, hr, hd, _⟩ := dig_row R.len v
    rw [hd]
    exact (getD_bits ((mem_rowsV n r).mp (R.mem r hr)) i).2
theorem some_none {α : Type} {f : Nat → Option α} {n : Nat} (h : (List.range n).findSome? f = none) : ∀ i, i < n → f i = none := by
  intro i hi
  rw [List.findSome?_eq_none_iff] at h
  exact h i (List.mem_range.mpr hi)
theorem some_some {α : Type} {f : Nat → Option α} {n : Nat} {x : α} (h : (List.range n).findSome? f = some x) : ∃ i, i < n ∧ f i = some x := by
  obtain ⟨i, hi, e⟩ := List.exists_of_findSome?_eq_some h
  exact ⟨i, List.mem_range.mp hi, e⟩
theorem fault_none {k l : List Int} (h : faultV k l = none) : (∀ i, i < k.length → k.getD i 0 ≤ l.getD i 0) ∧ ∀ d, d < k.length → ∀ c, c < d → carryV k l c d = none := by
  unfold faultV at h
  cases hs : stepV k l k.length with
  | some x =>
    rw [hs] at h
    cases h
  | none =>
    rw [hs] at h
    refine ⟨fun i hi => ?_, fun d hd c hc => ?_⟩
    · have := some_none hs i hi
      by_cases e : k.getD i 0 > l.getD i 0
      · rw [if_pos e] at this
        cases this
      · omega
    · have h1 : pairV k l d d = none := some_none h d hd
      have h2 := some_none h1 c hc
      cases e : carryV k l c d with
      | none => rfl
      | some p =>
        rw [e] at h2
        cases h2
theorem carry_none {k l : List Int} {c d : Nat} (h : carryV k l c d = none) : k.getD d 0 = l.getD d 0 ∨ (k.getD c 0 ≤ k.getD d 0 ∧ l.getD d 0 ≤ l.getD c 0) := by
  unfold carryV at h
  by_cases e : k.getD d 0 = l.getD d 0
  · exact .inl e
  · rw [if_neg e] at h
    by_cases e1 : k.getD c 0 > k.getD d 0
    · rw [if_pos e1] at h
      cases h
    · rw [if_neg e1] at h
      by_cases e2 : l.getD d 0 > l.getD c 0
      · rw [if_pos e2] at h
        cases h
      · exact .inr ⟨by omega, by omega⟩
theorem fault_none_le {n m : Nat} {k l : List Int} {rows : List (List Int)} (hk : InV k m) (hl : InV l m) (nk : k.length = n) (nl : l.length = n) (h : faultV k l = none) (R : IsRis (rowsV n) (m + 1) rows) : numV (rowV rows k) ≤ numV (rowV rows l) := by
  rw [num_row' hk R.len, num_row' hl R.len, nk, nl]
  obtain ⟨h1, h2⟩ := fault_none h
  have C : Crit (verV k) (verV l) n := by
    constructor
    · intro i hi
      have := h1 i (by omega)
      unfold verV
      omega
    · intro i hi
      unfold verV
      have a1 := hk.lo (i + 1)
      have a2 := hl.lo (i + 1)
      rcases carry_none (h2 (i + 1) (by omega) i (by omega)) with e | ⟨e1, e2⟩
      · left
        rw [e]
      · right
        omega
  rcases crit_le (ris_bits R) C (ris_mono R) n (Nat.le_refl _) with e | ⟨e, _⟩ <;> omega
theorem gt_up {g : Nat → Nat → Int} (B : Bits g) {k l : Nat → Nat} {i : Nat} (h : redP g l i < redP g k i) : ∀ n, i ≤ n → redP g l n < redP g k n
  | 0, hn => by
    have : i = 0 := by omega
    subst this
    exact h
  | n + 1, hn => by
    by_cases e : i = n + 1
    · subst e
      exact h
    · have ih := gt_up B h n (by omega)
      have b1 := B.hi n (l n)
      have b2 := B.lo n (k n)
      show 2 * redP g l n + g n (l n) < 2 * redP g k n + g n (k n)
      omega
theorem eq_up {g : Nat → Nat → Int} {k l : Nat → Nat} {i : Nat} (h : redP g k i = redP g l i) : ∀ n, i ≤ n → (∀ j, i ≤ j → j < n → g j (k j) = g j (l j)) → redP g k n = redP g l n
  | 0, hn, _ => by
    have : i = 0 := by omega
    subst this
    exact h
  | n + 1, hn, hd => by
    by_cases e : i = n + 1
    · subst e
      exact h
    · have ih := eq_up h n (by omega) fun j a b => hd j a (by omega)
      show 2 * redP g k n + g n (k n) = 2 * redP g l n + g n (l n)
      rw [ih, hd n (by omega) (by omega)]
def lowV (n : Nat) (cs : List Int) : List Int := if cs.length = 2 then (List.replicate n 0).set (cs.getD 1 0).toNat 1 else List.replicate n 0
def highV (n : Nat) (cs : List Int) : List Int := (List.replicate n 0).set (cs.getD 0 0).toNat 1
def turnV (n : Nat) (cs : List Int) (p last : Int) : List (List Int) := List.replicate p.toNat (lowV n cs) ++ List.replicate (last + 1 - p).toNat (highV n cs)
theorem set_bits (n j : Nat) : IsBits n ((List.replicate n (0 : Int)).set j 1) := by
  refine ⟨by simp, fun d hd => ?_⟩
  rcases List.mem_or_eq_of_mem_set hd with h | h
  · left
    exact (List.mem_replicate.mp h).2
  · right
    exact h
theorem zero_bits (n : Nat) : IsBits n (List.replicate n (0 : Int)) := ⟨by simp, fun d hd => .inl (List.mem_replicate.mp hd).2⟩
theorem low_bits (n : Nat) (cs : List Int) : IsBits n (lowV n cs) := by
  unfold lowV
  split
  · exact set_bits n _
  · exact zero_bits n
theorem getD_set0 (n j i : Nat) (hj : j < n) : ((List.replicate n (0 : Int)).set j 1).getD i 0 = if i = j then 1 else 0 := by
  rw [List.getD_eq_getElem?_getD]
  by_cases e : i = j
  · subst e
    rw [if_pos rfl, List.getElem?_set_self (by simpa using hj)]
    rfl
  · rw [if_neg e, List.getElem?_set_ne (fun z => e z.symm)]
    rw [List.getElem?_replicate]
    split <;> rfl
theorem getD_zero (n i : Nat) : (List.replicate n (0 : Int)).getD i 0 = 0 := by
  rw [List.getD_eq_getElem?_getD, List.getElem?_replicate]
  split <;> rfl
theorem turn_len {n : Nat} {cs : List Int} {p last : Int} (h0 : 0 ≤ p) (h1 : p ≤ last) : (turnV n cs p last).length = last.toNat + 1 := by
  unfold turnV
  rw [List.length_append, List.length_replicate, List.length_replicate]
  omega
theorem turn_at {n : Nat} {cs : List Int} {p last : Int} (h0 : 0 ≤ p) (h1 : p ≤ last) (v : Nat) (hv : v ≤ last.toNat) : (turnV n cs p last).getD v [] = if (v : Int) < p then lowV n cs else highV n cs := by
  unfold turnV
  rw [List.getD_eq_getElem?_getD, List.getElem?_append, List.length_replicate]
  by_cases e : v < p.toNat
  · rw [if_pos e, List.getElem?_replicate, if_pos e, if_pos (by omega)]
    rfl
  · rw [if_neg e, List.getElem?_replicate, if_pos (by omega), if_neg (by omega)]
    rfl
theorem turn_dig {n : Nat} {cs : List Int} {p last : Int} (h0 : 0 ≤ p) (h1 : p ≤ last) (i v : Nat) (hv : v ≤ last.toNat) : digV (turnV n cs p last) i v = if (v : Int) < p then (lowV n cs).getD i 0 else (highV n cs).getD i 0 := by
  unfold digV
  rw [turn_len h0 h1, show min v (last.toNat + 1 - 1) = v by omega, turn_at h0 h1 v hv]
  split <;> rfl
theorem fault_some {n m : Nat} {k l : List Int} {cs : List Int} {p : Int} (hk : InV k m) (hl : InV l m) (nk : k.length = n) (nl : l.length = n) (h : faultV k l = some (cs, p)) :
    (1 ≤ p ∧ p ≤ m) ∧ ((∃ c : Nat, c < n ∧ cs = [(c : Int)] ∧ p ≤ k.getD c 0 ∧ l.getD c 0 < p) ∨
      ∃ c d : Nat, c < d ∧ d < n ∧ cs = [(c : Int), (d : Int)] ∧ k.getD d 0 < p ∧ p ≤ l.getD d 0 ∧ k.getD c 0 ≤ l.getD c 0 ∧ (p ≤ k.getD c 0 ∨ l.getD c 0 < p)) := by
  unfold faultV at h
  cases hs : stepV k l k.length with
  | some x =>
    rw [hs] at h
    obtain ⟨i, hi, e⟩ := some_some hs
    have hx : x = (cs, p) := Option.some.inj h
    by_cases g : k.getD i 0 > l.getD i 0
    · rw [if_pos g] at e
      have e2 := (Option.some.inj e).trans hx
      have c1 : [(i : Int)] = cs := congrArg Prod.fst e2
      have c2 : k.getD i 0 = p := congrArg Prod.snd e2
      have a1 := hl.lo i
      have a2 := hk.hi i
      exact ⟨⟨by omega, by omega⟩, .inl ⟨i, by omega, c1.symm, by omega, by omega⟩⟩
    · rw [if_neg g] at e
      cases e
  | none =>
    rw [hs] at h
    have hle : ∀ i, i < k.length → k.getD i 0 ≤ l.getD i 0 := fun i hi => by
      have := some_none hs i hi
      by_cases e : k.getD i 0 > l.getD i 0
      · rw [if_pos e] at this
        cases this
      · omega
    obtain ⟨d, hd, h1⟩ := some_some (show (List.range k.length).findSome? (fun d => pairV k l d d) = some (cs, p) from h)
    obtain ⟨c, hc, h2⟩ := some_some (show (List.range d).findSome? (fun c => (carryV k l c d).map fun p => ([(c : Int), (d : Int)], p)) = some (cs, p) from h1)
    have q1 := hle d hd
    have q2 := hle c (by omega)
    have a1 := hk.lo d
    have a2 := hl.hi d
    have a3 := hk.lo c
    cases e : carryV k l c d with
    | none =>
      rw [e] at h2
      cases h2
    | some q =>
      rw [e] at h2
      have e2 : (([(c : Int), (d : Int)], q) : List Int × Int) = (cs, p) := Option.some.inj h2
      have c1 : [(c : Int), (d : Int)] = cs := congrArg Prod.fst e2
      have c2 : q = p := congrArg Prod.snd e2
      subst c2
      unfold carryV at e
      by_cases g0 : k.getD d 0 = l.getD d 0
      · rw [if_pos g0] at e
        cases e
      · rw [if_neg g0] at e
        by_cases g1 : k.getD c 0 > k.getD d 0
        · rw [if_pos g1] at e
          have := Option.some.inj e
          exact ⟨⟨by omega, by omega⟩, .inr ⟨c, d, hc, by omega, c1.symm, by omega, by omega, q2, .inl (by omega)⟩⟩
        · rw [if_neg g1] at e
          by_cases g2 : l.getD d 0 > l.getD c 0
          · rw [if_pos g2] at e
            have := Option.some.inj e
            exact ⟨⟨by omega, by omega⟩, .inr ⟨c, d, hc, by omega, c1.symm, by omega, by omega, q2, .inr (by omega)⟩⟩
          · rw [if_neg g2] at e
            cases e
theorem red_zero {g : Nat → Nat → Int} {k : Nat → Nat} : ∀ n, (∀ i, i < n → g i (k i) = 0) → redP g k n = 0
  | 0, _ => rfl
  | n + 1, h => by
    show 2 * redP g k n + g n (k n) = 0
    rw [red_zero n fun i hi => h i (by omega), h n (by omega)]
    rfl
theorem turn_bits {n : Nat} {cs : List Int} {p last : Int} : Bits (digV (turnV n cs p last)) := by
  have key : ∀ i v, 0 ≤ digV (turnV n cs p last) i v ∧ digV (turnV n cs p last) i v ≤ 1 := by
    intro i v
    unfold digV
    have : ∀ r, r ∈ turnV n cs p last → IsBits n r := by
      intro r hr
      unfold turnV at hr
      rcases List.mem_append.mp hr with h | h
      · rw [(List.mem_replicate.mp h).2]
        exact low_bits n cs
      · rw [(List.mem_replicate.mp h).2]
        exact set_bits n _
    rw [List.getD_eq_getElem?_getD (l := turnV n cs p last)]
    cases e : (turnV n cs p last)[min v ((turnV n cs p last).length - 1)]? with
    | none => simp
    | some r => exact getD_bits (this r (List.mem_of_getElem? e)) i
  exact ⟨fun i v => (key i v).1, fun i v => (key i v).2⟩
theorem fault_gt {n m : Nat} {k l : List Int} {cs : List Int} {p : Int} {last : Int} (hk : InV k m) (hl : InV l m) (nk : k.length = n) (nl : l.length = n) (h : faultV k l = some (cs, p))
    (hm : last = (m : Int)) : numV (rowV (turnV n cs p last) l) < numV (rowV (turnV n cs p last) k) := by
  subst hm
  obtain ⟨⟨p1, p2⟩, hc⟩ := fault_some hk hl nk nl h
  have tl : (turnV n cs p (m : Int)).length = m + 1 := by
    rw [turn_len (by omega) p2]
    rfl
  rw [num_row' hl tl, num_row' hk tl, nk, nl]
  have dk : ∀ i, digV (turnV n cs p (m : Int)) i (verV k i) = if k.getD i 0 < p then (lowV n cs).getD i 0 else (highV n cs).getD i 0 := fun i => by
    have a1 := hk.lo i
    have a2 := hk.hi i
    rw [turn_dig (by omega) p2 i _ (by unfold verV; omega)]
    have e : ((verV k i : Nat) : Int) = k.getD i 0 := by
      unfold verV
      omega
    rw [e]
  have dl : ∀ i, digV (turnV n cs p (m : Int)) i (verV l i) = if l.getD i 0 < p then (lowV n cs).getD i 0 else (highV n cs).getD i 0 := fun i => by
    have a1 := hl.lo i
    have a2 := hl.hi i
    rw [turn_dig (by omega) p2 i _ (by unfold verV; omega)]
    have e : ((verV l i : Nat) : Int) = l.getD i 0 := by
      unfold verV
      omega
    rw [e]
  rcases hc with ⟨c, hcn, ecs, h1, h2⟩ | ⟨c, d, hcd, hdn, ecs, h1, h2, h3, h4⟩
  · have lo0 : ∀ i, (lowV n cs).getD i 0 = 0 := fun i => by
      unfold lowV
      rw [ecs, if_neg (by simp)]
      exact getD_zero n i
    have hi0 : ∀ i, (highV n cs).getD i 0 = if i = c then 1 else 0 := fun i => by
      unfold highV
      rw [ecs]
      exact getD_set0 n c i hcn
    have z1 : redP (digV (turnV n cs p (m : Int))) (verV k) c = redP (digV (turnV n cs p (m : Int))) (verV l) c := by
      rw [red_zero c fun i hi => by
        rw [dk, lo0, hi0, if_neg (show ¬ i = c by omega)]
        split <;> rfl]
      rw [red_zero c fun i hi => by
        rw [dl, lo0, hi0, if_neg (show ¬ i = c by omega)]
        split <;> rfl]
    refine gt_up turn_bits (i := c + 1) ?_ n (by omega)
    show 2 * redP _ (verV l) c + digV _ c (verV l c) < 2 * redP _ (verV k) c + digV _ c (verV k c)
    rw [z1, dk, dl, lo0, hi0, if_pos rfl, if_pos h2, if_neg (by omega)]
    omega
  · have hi0 : ∀ i, (highV n cs).getD i 0 = if i = c then 1 else 0 := fun i => by
      unfold highV
      rw [ecs]
      exact getD_set0 n c i (by omega)
    have lo0 : ∀ i, (lowV n cs).getD i 0 = if i = d then 1 else 0 := fun i => by
      unfold lowV
      rw [ecs, if_pos (by simp)]
      exact getD_set0 n d i hdn
    have z1 : redP (digV (turnV n cs p (m : Int))) (verV k) c = redP (digV (turnV n cs p (m : Int))) (verV l) c := by
      rw [red_zero c fun i hi => by
        rw [dk, lo0, hi0, if_neg (show ¬ i = c by omega), if_neg (show ¬ i = d by omega)]
        split <;> rfl]
      rw [red_zero c fun i hi => by
        rw [dl, lo0, hi0, if_neg (show ¬ i = c by omega), if_neg (show ¬ i = d by omega)]
        split <;> rfl]
    have ck : digV (turnV n cs p (m : Int)) c (verV k c) = if k.getD c 0 < p then 0 else 1 := by
      rw [dk, lo0, hi0, if_pos rfl, if_neg (show ¬ c = d by omega)]
    have cl : digV (turnV n cs p (m : Int)) c (verV l c) = if l.getD c 0 < p then 0 else 1 := by
      rw [dl, lo0, hi0, if_pos rfl, if_neg (show ¬ c = d by omega)]
    by_cases e : (l.getD c 0 < p ∧ p ≤ k.getD c 0)
    · omega
    · by_cases e2 : digV (turnV n cs p (m : Int)) c (verV k c) = digV (turnV n cs p (m : Int)) c (verV l c)
      · have z2 : redP (digV (turnV n cs p (m : Int))) (verV k) d = redP (digV (turnV n cs p (m : Int))) (verV l) d := by
          refine eq_up z1 d (by omega) fun j hj hj2 => ?_
          by_cases ej : j = c
          · rw [ej]
            exact e2
          · rw [dk, dl, lo0, hi0, if_neg ej, if_neg (show ¬ j = d by omega)]
            split <;> split <;> rfl
        refine gt_up turn_bits (i := d + 1) ?_ n (by omega)
        show 2 * redP _ (verV l) d + digV _ d (verV l d) < 2 * redP _ (verV k) d + digV _ d (verV k d)
        rw [z2, dk, dl, lo0, hi0, if_pos rfl, if_neg (show ¬ d = c by omega), if_pos h1, if_neg (show ¬ l.getD d 0 < p by omega)]
        omega
      · exfalso
        rw [ck, cl] at e2
        rcases h4 with h | h
        · rw [if_neg (by omega), if_neg (by omega)] at e2
          exact e2 rfl
        · rw [if_pos (show k.getD c 0 < p by omega), if_pos h] at e2
          exact e2 rfl
theorem numV_le_of {n : Nat} {cs : List Int} (h : numV (lowV n cs) ≤ numV (highV n cs)) {p last : Int} : (turnV n cs p last).Pairwise fun a b => numV a ≤ numV b := by
  unfold turnV
  rw [List.pairwise_append]
  refine ⟨?_, ?_, fun a ha b hb => ?_⟩
  · rw [List.pairwise_replicate]
    exact .inr (Int.le_refl _)
  · rw [List.pairwise_replicate]
    exact .inr (Int.le_refl _)
  · rw [(List.mem_replicate.mp ha).2, (List.mem_replicate.mp hb).2]
    exact h
end Dg
namespace Dg
theorem red_const (g : Nat → Nat → Int) (v : Nat) : ∀ n, redP g (fun _ => v) n = preP g n v
  | 0 => rfl
  | n + 1 => by
    show 2 * redP g (fun _ => v) n + g n v = 2 * preP g n v + g n v
    rw [red_const g v n]
theorem num_two {n : Nat} {r s : List Int} (hr : IsBits n r) (hs : IsBits n s) {c : Nat} (hc : c < n) (heq : ∀ i, i < c → r.getD i 0 = s.getD i 0) (hlt : r.getD c 0 < s.getD c 0) : numV r ≤ numV s := by
  have B : Bits (fun i v => if v = 0 then r.getD i 0 else s.getD i 0) := by
    constructor
    · intro i v
      show (0 : Int) ≤ if v = 0 then _ else _
      split
      · exact (getD_bits hr i).1
      · exact (getD_bits hs i).1
    · intro i v
      show (if v = 0 then _ else _) ≤ (1 : Int)
      split
      · exact (getD_bits hr i).2
      · exact (getD_bits hs i).2
  have e1 : preP (fun i v => if v = 0 then r.getD i 0 else s.getD i 0) n 0 = numV r := by
    rw [pre_num (r := r) (fun i => if_pos rfl) n (by rw [hr.1]; exact Nat.le_refl _), List.take_of_length_le (by rw [hr.1]; exact Nat.le_refl _)]
  have e2 : preP (fun i v => if v = 0 then r.getD i 0 else s.getD i 0) n 1 = numV s := by
    rw [pre_num (r := s) (fun i => if_neg (by decide)) n (by rw [hs.1]; exact Nat.le_refl _), List.take_of_length_le (by rw [hs.1]; exact Nat.le_refl _)]
  have z : redP (fun i v => if v = 0 then r.getD i 0 else s.getD i 0) (fun _ => 1) c = redP (fun i v => if v = 0 then r.getD i 0 else s.getD i 0) (fun _ => 0) c :=
    eq_up (i := 0) (k := fun _ => 1) (l := fun _ => 0) rfl c (Nat.zero_le _) fun j _ hj => (heq j hj).symm
  have h := gt_up B (k := fun _ => 1) (l := fun _ => 0) (i := c + 1) (by
    show 2 * redP _ (fun _ => 0) c + r.getD c 0 < 2 * redP _ (fun _ => 1) c + s.getD c 0
    rw [z]
    omega) n (by omega)
  rw [red_const, red_const, e1, e2] at h
  omega
theorem turn_ris {n m : Nat} {k l : List Int} {cs : List Int} {p : Int} (hk : InV k m) (hl : InV l m) (nk : k.length = n) (nl : l.length = n) (h : faultV k l = some (cs, p)) : IsRis (rowsV n) (m + 1) (turnV n cs p (m : Int)) := by
  obtain ⟨⟨p1, p2⟩, hc⟩ := fault_some hk hl nk nl h
  refine ⟨?_, fun r hr => ?_, numV_le_of ?_⟩
  · rw [turn_len (by omega) p2]
    rfl
  · rw [mem_rowsV]
    unfold turnV at hr
    rcases List.mem_append.mp hr with h | h
    · rw [(List.mem_replicate.mp h).2]
      exact low_bits n cs
    · rw [(List.mem_replicate.mp h).2]
      exact set_bits n _
  · rcases hc with ⟨c, hcn, ecs, _⟩ | ⟨c, d, hcd, hdn, ecs, _⟩
    · refine num_two (low_bits n cs) (set_bits n _) hcn (fun i hi => ?_) ?_
      · unfold lowV
        rw [ecs, if_neg (by simp), getD_zero]
        show 0 = ((List.replicate n (0 : Int)).set c 1).getD i 0
        rw [getD_set0 n c i hcn, if_neg (by omega)]
      · unfold lowV
        rw [ecs, if_neg (by simp), getD_zero]
        show 0 < ((List.replicate n (0 : Int)).set c 1).getD c 0
        rw [getD_set0 n c c hcn, if_pos rfl]
        decide
    · refine num_two (low_bits n cs) (set_bits n _) (c := c) (by omega) (fun i hi => ?_) ?_
      · unfold lowV
        rw [ecs, if_pos (by simp)]
        show ((List.replicate n (0 : Int)).set d 1).getD i 0 = ((List.replicate n (0 : Int)).set c 1).getD i 0
        rw [getD_set0 n d i hdn, getD_set0 n c i (by omega), if_neg (by omega), if_neg (by omega)]
      · unfold lowV
        rw [ecs, if_pos (by simp)]
        show ((List.replicate n (0 : Int)).set d 1).getD c 0 < ((List.replicate n (0 : Int)).set c 1).getD c 0
        rw [getD_set0 n d c hdn, getD_set0 n c c (by omega), if_neg (by omega), if_pos rfl]
        decide
theorem fault_iff {n m : Nat} {k l : List Int} (hk : InV k m) (hl : InV l m) (nk : k.length = n) (nl : l.length = n) :
    faultV k l = none ↔ ((risV (rowsV n) (m + 1)).filter fun rows => !decide (numV (rowV rows k) ≤ numV (rowV rows l))) = [] := by
  constructor
  · intro h
    rw [List.filter_eq_nil_iff]
    intro rows hr
    have R := (mem_risV (rowsV_pw n) (m + 1) rows).mp hr
    have := fault_none_le hk hl nk nl h R
    simp [this]
  · intro h
    cases e : faultV k l with
    | none => rfl
    | some x =>
      obtain ⟨cs, p⟩ := x
      exfalso
      have R := turn_ris hk hl nk nl e
      have hm := (mem_risV (rowsV_pw n) (m + 1) _).mpr R
      have := fault_gt hk hl nk nl e (last := (m : Int)) rfl
      rw [List.filter_eq_nil_iff] at h
      have h2 := h _ hm
      simp at h2
      omega
def codeV (v : List Int) (c d : Nat) (p : Int) : Int := 2 * (if p ≤ v.getD c 0 then 1 else 0) + (if v.getD d 0 < p then 1 else 0)
def putPair (k l : List Int) (d c : Nat) : Bool := decide (codeV k c d (k.getD d 0 + 1) > codeV l c d (k.getD d 0 + 1)) || decide (codeV k c d (l.getD d 0) > codeV l c d (l.getD d 0))
def putCell (k l : List Int) (d : Nat) : Bool := decide (k.getD d 0 > l.getD d 0) || (List.range d).any (putPair k l d)
def putV (k l : List Int) : Bool := (List.range k.length).any (putCell k l)
theorem put_pair {k l : List Int} {c d : Nat} (hc : k.getD c 0 ≤ l.getD c 0) (hd : k.getD d 0 ≤ l.getD d 0) : putPair k l d c = (carryV k l c d).isSome := by
  unfold putPair codeV carryV
  by_cases e : k.getD d 0 = l.getD d 0
  · rw [if_pos e, e]
    rw [Bool.or_eq_false_iff.mpr ⟨decide_eq_false ?_, decide_eq_false ?_⟩]
    · rfl
    · rw [if_pos (show l.getD d 0 < l.getD d 0 + 1 by omega)]
      split <;> split <;> omega
    · rw [if_neg (show ¬ l.getD d 0 < l.getD d 0 by omega)]
      split <;> split <;> omega
  · rw [if_neg e]
    have h1 : k.getD d 0 < l.getD d 0 := by omega
    rw [if_pos (show k.getD d 0 < k.getD d 0 + 1 by omega), if_neg (show ¬ l.getD d 0 < k.getD d 0 + 1 by omega), if_pos h1, if_neg (show ¬ l.getD d 0 < l.getD d 0 by omega)]
    by_cases e1 : k.getD c 0 > k.getD d 0
    · rw [if_pos e1, Bool.or_eq_true_iff.mpr (.inl (decide_eq_true ?_))]
      · rfl
      · rw [if_pos (show k.getD d 0 + 1 ≤ k.getD c 0 by omega)]
        split <;> omega
    · rw [if_neg e1]
      by_cases e2 : l.getD d 0 > l.getD c 0
      · rw [if_pos e2, Bool.or_eq_true_iff.mpr (.inr (decide_eq_true ?_))]
        · rfl
        · rw [if_neg (show ¬ l.getD d 0 ≤ l.getD c 0 by omega)]
          split <;> omega
      · rw [if_neg e2, Bool.or_eq_false_iff.mpr ⟨decide_eq_false ?_, decide_eq_false ?_⟩]
        · rfl
        · rw [if_neg (show ¬ k.getD d 0 + 1 ≤ k.getD c 0 by omega), if_pos (show k.getD d 0 + 1 ≤ l.getD c 0 by omega)]
          omega
        · rw [if_neg (show ¬ l.getD d 0 ≤ k.getD c 0 by omega), if_pos (show l.getD d 0 ≤ l.getD c 0 by omega)]
          omega
theorem put_is (k l : List Int) : putV k l = (faultV k l).isSome := by
  unfold putV faultV
  cases hs : stepV k l k.length with
  | some x =>
    obtain ⟨i, hi, e⟩ := some_some hs
    have g : k.getD i 0 > l.getD i 0 := by
      by_cases g : k.getD i 0 > l.getD i 0
      · exact g
      · rw [if_neg g] at e
        cases e
    show _ = true
    rw [List.any_eq_true]
    refine ⟨i, List.mem_range.mpr hi, ?_⟩
    unfold putCell
    rw [decide_eq_true g]
    rfl
  | none =>
    have hle : ∀ i, i < k.length → k.getD i 0 ≤ l.getD i 0 := fun i hi => by
      have := some_none hs i hi
      by_cases e : k.getD i 0 > l.getD i 0
      · rw [if_pos e] at this
        cases this
      · omega
    have key : ∀ d, d < k.length → putCell k l d = (pairV k l d d).isSome := fun d hd => by
      unfold putCell
      rw [decide_eq_false (by have := hle d hd; omega), Bool.false_or]
      have gen : ∀ n, n ≤ d → (List.range n).any (putPair k l d) = (pairV k l d n).isSome := by
        intro n
        induction n with
        | zero => intro _; rfl
        | succ n ih =>
          intro hn
          rw [List.range_succ, List.any_append, ih (by omega)]
          unfold pairV
          rw [range_some]
          rw [List.any_cons, List.any_nil, Bool.or_false, put_pair (hle n (by omega)) (hle d hd), Option.isSome_or, Option.isSome_map]
      exact gen d (Nat.le_refl _)
    have gen : ∀ n, n ≤ k.length → (List.range n).any (putCell k l) = (carriesV k l n).isSome := by
      intro n
      induction n with
      | zero => intro _; rfl
      | succ n ih =>
        intro hn
        rw [List.range_succ, List.any_append, ih (by omega)]
        unfold carriesV
        rw [range_some, List.any_cons, List.any_nil, Bool.or_false, key n (by omega), Option.isSome_or]
    exact gen _ (Nat.le_refl _)
theorem fault_self {k : List Int} : faultV k k = none := by
  have h : putV k k = false := by
    unfold putV
    rw [List.any_eq_false]
    intro d hd
    unfold putCell
    rw [decide_eq_false (Int.lt_irrefl _), Bool.false_or, Bool.not_eq_true, List.any_eq_false]
    intro c hc
    unfold putPair
    simp
  rw [put_is] at h
  cases e : faultV k k with
  | none => rfl
  | some x =>
    rw [e] at h
    cases h
end Dg
namespace Dg
theorem num_bound {n : Nat} {r : List Int} (h : IsBits n r) : ∀ i, i ≤ n → 0 ≤ numV (r.take i) ∧ numV (r.take i) < 2 ^ i
  | 0, _ => by
    simp [numV]
  | i + 1, hi => by
    have hlt : i < r.length := by rw [h.1]; omega
    have e : r.take (i + 1) = r.take i ++ [r.getD i 0] := by
      rw [List.take_add_one, List.getElem?_eq_getElem hlt, List.getD_eq_getElem?_getD, List.getElem?_eq_getElem hlt]
      rfl
    obtain ⟨h1, h2⟩ := num_bound h i (by omega)
    obtain ⟨b1, b2⟩ := getD_bits h i
    rw [e, numV_snoc, Int.pow_succ]
    omega
theorem take_snoc (r : List Int) (i : Nat) (h : i < r.length) : r.take (i + 1) = r.take i ++ [r.getD i 0] := by
  rw [List.take_add_one, List.getElem?_eq_getElem h, List.getD_eq_getElem?_getD, List.getElem?_eq_getElem h]
  rfl
theorem pow60 {i : Nat} {x : Int} (hi : i ≤ 60) (h0 : 0 ≤ x) (h : x < 2 ^ i) : x.natAbs < 2 ^ 60 := by
  have h1 : x.natAbs < 2 ^ i := by
    have : (x.natAbs : Int) = x := Int.natAbs_of_nonneg h0
    have h2 : ((x.natAbs : Nat) : Int) < ((2 ^ i : Nat) : Int) := by
      rw [this]
      simpa using h
    exact Int.ofNat_lt.mp h2
  exact Nat.lt_of_lt_of_le h1 (Nat.pow_le_pow_right (by decide) hi)
theorem row_bits {n m : Nat} {rows : List (List Int)} {k : List Int} (h : InV k m) (R : IsRis (rowsV n) (m + 1) rows) (nk : k.length = n) : IsBits n (rowV rows k) := by
  refine ⟨by unfold rowV; rw [List.length_map, List.length_range, nk], fun d hd => ?_⟩
  unfold rowV at hd
  obtain ⟨i, hi, rfl⟩ := List.mem_map.mp hd
  have h1 := h.lo i
  have h2 := h.hi i
  have hlt : (k.getD i 0).toNat < rows.length := by rw [R.len]; omega
  have hr : rows.getD (k.getD i 0).toNat [] ∈ rows := by
    rw [List.getD_eq_getElem?_getD, List.getElem?_eq_getElem hlt]
    exact List.getElem_mem hlt
  have b := (mem_rowsV n _).mp (R.mem _ hr)
  have := getD_bits b i
  omega
theorem flat_take {α β : Type} (f : α → List β) (l : List α) (i : Nat) (x : α) (h : l[i]? = some x) : (l.take (i + 1)).flatMap f = (l.take i).flatMap f ++ f x := by
  rw [List.take_add_one, h, List.flatMap_append]
  simp
end Dg
namespace Dg
theorem any_at {f : Nat → Bool} {n i : Nat} (h : i < n) (e : f i = true) : (List.range n).any f = true := List.any_eq_true.mpr ⟨i, List.mem_range.mpr h, e⟩
theorem any_next {f : Nat → Bool} {n : Nat} (h : (List.range n).any f = false) (e : f n = false) : (List.range (n + 1)).any f = false := by
  rw [List.range_succ, List.any_append, h, List.any_cons, e]
  rfl
theorem ite_dec {q : Prop} [Decidable q] : (if decide q = true then (1 : Int) else 0) = if q then 1 else 0 := by
  by_cases h : q <;> simp [h]
theorem put_first {k l : List Int} {c d : Nat} (h : codeV k c d (k.getD d 0 + 1) > codeV l c d (k.getD d 0 + 1)) : putPair k l d c = true := by
  unfold putPair
  rw [decide_eq_true h]
  rfl
theorem put_second {k l : List Int} {c d : Nat} (h : codeV k c d (l.getD d 0) > codeV l c d (l.getD d 0)) : putPair k l d c = true := by
  unfold putPair
  rw [decide_eq_true h, Bool.or_true]
theorem put_not {k l : List Int} {c d : Nat} (h1 : ¬ codeV k c d (k.getD d 0 + 1) > codeV l c d (k.getD d 0 + 1)) (h2 : ¬ codeV k c d (l.getD d 0) > codeV l c d (l.getD d 0)) : putPair k l d c = false := by
  unfold putPair
  rw [decide_eq_false h1, decide_eq_false h2]
  rfl
theorem put_cell_gt {k l : List Int} {d : Nat} (h : k.getD d 0 > l.getD d 0) : putCell k l d = true := by
  unfold putCell
  rw [decide_eq_true h]
  rfl
theorem put_cell_pair {k l : List Int} {c d : Nat} (hc : c < d) (h : putPair k l d c = true) : putCell k l d = true := by
  unfold putCell
  rw [any_at hc h, Bool.or_true]
theorem put_cell_not {k l : List Int} {d : Nat} (h1 : ¬ k.getD d 0 > l.getD d 0) (h2 : (List.range d).any (putPair k l d) = false) : putCell k l d = false := by
  unfold putCell
  rw [decide_eq_false h1, h2]
  rfl
theorem first_nil (rows : List (List Int)) : firstV rows [] = 0 := rfl
theorem first_last {rows one : List (List Int)} {r : List Int} (h : one.getLast? = some r) : firstV rows one = rows.findIdx (fun x => decide (x = r)) := by
  unfold firstV
  rw [h]
theorem ris_step {rows : List (List Int)} {R m : Nat} (h : rows.length ≤ R) (j : Nat) (hR : 0 < R) : (((risV rows m).take j).flatMap fun one => (rows.drop (firstV rows one)).map fun row => one ++ [row]).length ≤ R ^ (m + 1) := by
  have e : risV rows m = (risV rows m).take j ++ (risV rows m).drop j := (List.take_append_drop j _).symm
  have h2 := risV_len rows R h (m + 1)
  unfold risV at h2
  rw [e, List.flatMap_append, List.length_append] at h2
  omega
end Dg
namespace Dg
def AllIn (k : List Int) (m : Int) : Prop := ∀ x ∈ k, 0 ≤ x ∧ x ≤ m
theorem AllIn.inV {k : List Int} {m : Nat} (h : AllIn k m) : InV k m := by
  have key : ∀ i, 0 ≤ k.getD i 0 ∧ k.getD i 0 ≤ (m : Int) := by
    intro i
    rw [List.getD_eq_getElem?_getD]
    cases e : k[i]? with
    | none => simp
    | some d => exact h d (List.mem_of_getElem? e)
  exact ⟨fun i => (key i).1, fun i => (key i).2⟩
theorem AllIn.snoc {k : List Int} {m x : Int} (h : AllIn k m) (h0 : 0 ≤ x) (h1 : x ≤ m) : AllIn (k ++ [x]) m := fun y hy => by
  rcases List.mem_append.mp hy with z | z
  · exact h y z
  · have : y = x := by simpa using z
    rw [this]
    exact ⟨h0, h1⟩
theorem AllIn.set {k : List Int} {m x : Int} (h : AllIn k m) (j : Nat) (h0 : 0 ≤ x) (h1 : x ≤ m) : AllIn (k.set j x) m := fun y hy => by
  rcases List.mem_or_eq_of_mem_set hy with z | z
  · exact h y z
  · rw [z]
    exact ⟨h0, h1⟩
theorem AllIn.get {k : List Int} {m : Int} (h : AllIn k m) {j : Nat} (hj : j < k.length) : 0 ≤ k.getD j 0 ∧ k.getD j 0 ≤ m := by
  rw [List.getD_eq_getElem?_getD, List.getElem?_eq_getElem hj]
  exact h _ (List.getElem_mem hj)
end Dg
namespace Dg
def lexL : List Int → List Int → Bool
  | [], [] => false
  | [], _ :: _ => true
  | _ :: _, [] => false
  | x :: xs, y :: ys => if x = y then lexL xs ys else decide (x < y)
def badNext (a b : List Int) : Bool := decide (b.length ≠ a.length) || lexL b a
def badFrom (rows : List (List Int)) (n : Nat) : Option Nat := (List.range n).findSome? fun j => if badNext (rows.getD j []) (rows.getD (j + 1) []) = true then some (j + 1) else none
def badAt (rows : List (List Int)) : Option Nat := if rows = [] ∨ rows.getD 0 [] = [] then some 0 else badFrom rows (rows.length - 1)
end Dg
namespace Dg
theorem bad_none {rows : List (List Int)} (h : badAt rows = none) : rows ≠ [] ∧ rows.getD 0 [] ≠ [] ∧ badFrom rows (rows.length - 1) = none := by
  unfold badAt at h
  by_cases e : rows = [] ∨ rows.getD 0 [] = []
  · rw [if_pos e] at h
    cases h
  · rw [if_neg e] at h
    exact ⟨fun z => e (.inl z), fun z => e (.inr z), h⟩
theorem bad_step {rows : List (List Int)} (h : badAt rows = none) (j : Nat) (hj : j + 1 < rows.length) : (rows.getD (j + 1) []).length = (rows.getD j []).length ∧ lexL (rows.getD (j + 1) []) (rows.getD j []) = false := by
  have h1 := (bad_none h).2.2
  unfold badFrom at h1
  have h2 := some_none h1 j (by omega)
  cases e : badNext (rows.getD j []) (rows.getD (j + 1) []) with
  | true =>
    rw [if_pos e] at h2
    cases h2
  | false =>
    unfold badNext at e
    rw [Bool.or_eq_false_iff] at e
    refine ⟨?_, e.2⟩
    have := of_decide_eq_false e.1
    omega
theorem bad_len {rows : List (List Int)} (h : badAt rows = none) : ∀ j, j < rows.length → (rows.getD j []).length = (rows.getD 0 []).length
  | 0, _ => rfl
  | j + 1, hj => (bad_step h j hj).1.trans (bad_len h j (by omega))
theorem bad_len' {rows : List (List Int)} (h : badAt rows = none) {r : List Int} (hr : r ∈ rows) : r.length = (rows.getD 0 []).length := by
  obtain ⟨j, hj, e⟩ := List.getElem_of_mem hr
  have := bad_len h j hj
  rw [List.getD_eq_getElem?_getD, List.getElem?_eq_getElem hj] at this
  rw [← e]
  exact this
def versOk (rows : List (List Int)) (k : List Int) : Prop := k.length = (rows.getD 0 []).length ∧ ∀ x ∈ k, 0 ≤ x ∧ x < (rows.length : Int)
theorem versOk_in {rows : List (List Int)} {k : List Int} (h : versOk rows k) (hr : rows ≠ []) : AllIn k ((rows.length - 1 : Nat) : Int) := fun x hx => by
  have h1 := h.2 x hx
  have h2 : 0 < rows.length := List.length_pos_iff.mpr hr
  omega
end Dg
namespace Dg
open PySem PySem.Spec PyProof.Rows L2
theorem lex_is : ∀ a b : List Int, lexL a b = HT.lexLt a b
  | [], [] => rfl
  | [], _ :: _ => rfl
  | _ :: _, [] => rfl
  | x :: xs, y :: ys => by
    unfold lexL
    rw [HT.lexLt_cons, lex_is xs ys]
end Dg
namespace Dg
open PySem PySem.Spec PyProof.Rows L2
theorem int_at {k : List Int} {i : Nat} {x : V} (h : (k.map V.int)[i]? = some x) : i < k.length ∧ x = .int (k.getD i 0) := by
  have hi : i < k.length := by
    have := (List.getElem?_eq_some_iff.mp h).1
    rwa [List.length_map] at this
  refine ⟨hi, ?_⟩
  rw [List.getElem?_map, List.getElem?_eq_getElem hi] at h
  rw [List.getD_eq_getElem?_getD, List.getElem?_eq_getElem hi]
  exact (Option.some.inj h).symm
end Dg
namespace Dg
open PySem PySem.Spec PyProof.Rows L2
section
variable {prog : Program} {w : World} {A : Around} {E : Value → Shared → Prop} {s : Shared} {l : Addr}
theorem max_tup {its : List Value} {ns : List Int} {Q : Value → Shared → Prop} (hd : A.handled = none) (is : s.heap.IsTuple l its.toArray) (num : IntsAre its ns) (any1 : 0 < ns.length)
    (q : ∀ h' tk m t, (∀ b o, s.heap.get? b = some o → h'.get? b = some o) → m ∈ ns → (∀ y ∈ ns, y ≤ m) → Q (.int m t) { s with heap := h', toks := tk }) : wpAny (model prog w) A (call (.builtin "max") [.ref l]) Q E s := by
  obtain ⟨xs, same⟩ := num.allInts.items
  have told : (xs.toList.map (·.1)) = ns := by rw [← nums_intItems, ← same]; exact num.numsOf
  have many : ns.length = xs.size := by rw [← told, List.length_map, Array.length_toList]
  have all : ∀ i, i < xs.size → numAt xs i ∈ ns := fun i hi => by
    rw [numAt_eq, ← told]
    exact PySem.getD_mem (by rw [told, many]; exact hi)
  rw [same] at is
  let n := s.heap.objs.size
  have young : l < n := let ⟨_, e, _⟩ := id is; Heap.lt_size e
  obtain ⟨w1, w2⟩ := argBest_gt (numAt xs) (xs.size - 1)
  have low : ∀ b ∈ [n, l], b < (s.heap.push { cls := .type "tuple_iterator", data := .fields #[.ref l, .int 0 0] }).objs.size := fun b hb => by
    rw [Heap.size_push]
    show b < n + 1
    rcases List.mem_cons.mp hb with z | z
    · exact z ▸ Nat.lt_succ_self n
    · exact List.mem_singleton.mp z ▸ Nat.lt_succ_of_lt young
  apply call_max_walk
  apply wpAny_pyIter_tuple is
  refine ⟨_, [n, l], [n], _, _, _, _, rfl, Walks.tuple (A := A.in1) hd n l (Nat.ne_of_lt young) (intItems xs), ⟨⟨_, Heap.get?_push_size _ rfl, rfl, rfl⟩, is.push _⟩, low, ?_, CmpOf.ints_gt (numAt xs) (fun _ _ => intItems_at), fun v h' tk got kept => ?_⟩
  · simpa [intItems, ← many] using any1
  · have got : (intItems xs)[argBest (fun i j => decide (numAt xs i > numAt xs j)) (xs.size - 1)]? = some v := by simpa [intItems] using got
    obtain ⟨t, rfl⟩ := intItems_at got
    refine q h' tk _ t (fun b o e => kept b o (fun z => ?_) (Heap.get?_push_of_some _ e)) (all _ (by omega)) fun y hy => ?_
    · have := Heap.lt_size e
      rw [List.mem_singleton.mp z] at this
      exact Nat.lt_irrefl n this
    · rw [← told] at hy
      obtain ⟨i, hi, rfl⟩ := mem_getD hy
      rw [told, many] at hi
      exact numAt_eq xs i ▸ w2 i (by omega)
end
section
variable {X : Cx}
def rMaxA (K : PySem.W.Frag) : List V → Hp → VK → Prop := fun vs H Q => ∃ (a : Addr) (ns : List Int), vs = [V.ref a] ∧ Sq K H a (ns.map V.int) ∧ 0 < ns.length ∧ ∀ m, m ∈ ns → (∀ y, y ∈ ns → y ≤ m) → Q (.int m) H
theorem cr_maxA (hc : X.calm = true) : CallR X (.builtin "max") (rMaxA X.K) := by
  rintro pins s σ H vs us Q I r ⟨a, ns, rfl, hs, hne, q⟩
  rw [Vals.ref1 r]
  rcases hs with hs | hs
  · obtain ⟨its, rv, hl, _⟩ := I.list hs
    exact max_raw (I.ok.hd hc) hl.isList rv.ints hne fun h' tk m t' hk h1 h2 => ⟨.int _, H, I.kept hk, ⟨_, rfl⟩, q m h1 h2⟩
  · obtain ⟨its, rv, hl, _⟩ := I.tuple hs
    exact max_tup (I.ok.hd hc) hl rv.ints hne fun h' tk m t' hk h1 h2 => ⟨.int _, H, I.kept hk, ⟨_, rfl⟩, q m h1 h2⟩
end
theorem rep_one {α : Type} (n : Nat) (x : α) : (List.replicate n [x]).flatten = List.replicate n x := List.flatten_replicate_singleton
theorem getD_in {k : List Int} {i : Nat} (h : i < k.length) : k.getD i 0 ∈ k := by
  rw [List.getD_eq_getElem?_getD, List.getElem?_eq_getElem h]
  exact List.getElem_mem h
theorem ix_of {n : Nat} {x : Int} (h0 : 0 ≤ x) (h : x < (n : Int)) : ixN n x = some x.toNat := by
  obtain ⟨j, rfl⟩ := Int.eq_ofNat_of_zero_le h0
  rw [Int.toNat_natCast]
  unfold ixN
  rw [if_pos (by omega), if_pos (by omega), Int.toNat_natCast]
theorem same_updF {H H1 : Hp} {p : Addr} {o : HO} (s : Same H H1) (hp : H p = none) : Same H (upd H1 p o) := fun c o' e => by
  rw [upd_ne (ne_of_none e hp)]
  exact s c o' e
theorem set_ints (n j : Nat) : (List.replicate n (V.int 0)).set j (V.int 1) = (((List.replicate n (0 : Int)).set j 1)).map V.int := by
  rw [List.map_set, List.map_replicate]
theorem pd_rep {K : PySem.W.Frag} {H : Hp} {p : Addr} {r : List Int} (h : SqT K H p (r.map V.int)) (n : Nat) : Paired (RowAt K H) (List.replicate n (V.ref p)) (List.replicate n r) := by
  induction n with
  | zero => exact .nil
  | succ n ih => exact .cons ⟨p, rfl, h⟩ ih
theorem k_call_isi {X : Cx} {K : PySem.W.Frag} (h : X.K = K) : CallR X (.builtin "isinstance") (rIsi K) := h ▸ call_isi
theorem boot_list : bootBuiltins "list" = some (.type "list") := by decide +kernel
theorem boot_tuple : bootBuiltins "tuple" = some (.type "tuple") := by decide +kernel
theorem boot_int : bootBuiltins "int" = some (.type "int") := by decide +kernel
theorem boot_str : bootBuiltins "str" = some (.type "str") := by decide +kernel
theorem boot_dict : bootBuiltins "dict" = some (.type "dict") := by decide +kernel
theorem boot_bool : bootBuiltins "bool" = some (.type "bool") := by decide +kernel
theorem tyx_T {K : PySem.W.Frag} {H : Hp} {a : Addr} {xs : List V} (h : SqT K H a xs) : TyX K H (.ref a) (.type "tuple") := by
  rcases h with (h | ⟨o, h⟩) | ⟨o, its, n, e, c, _⟩
  · exact .base (.tup h)
  · exact .fTuple h
  · exact .kTuple e c
theorem tyx_L {K : PySem.W.Frag} {H : Hp} {a : Addr} {xs : List V} (h : SqL K H a xs) : TyX K H (.ref a) (.type "list") := by
  rcases h with (h | ⟨o, h⟩) | ⟨o, its, n, e, c, _⟩
  · exact .base (.lst h)
  · exact .base (.frz h)
  · exact .kList e c
theorem kitb_tt : kitB "tuple" "tuple" = some true := by decide +kernel
theorem kitb_ll : kitB "list" "list" = some true := by decide +kernel
theorem eqvAll_ints : ∀ a b : List Int, PyData.eqvAll (a.map .int) (b.map .int) = decide (a = b)
  | [], [] => by simp only [List.map_nil, PyData.eqvAll]; rfl
  | [], _ :: _ => by simp only [List.map_nil, List.map_cons, PyData.eqvAll]; rfl
  | _ :: _, [] => by simp only [List.map_nil, List.map_cons, PyData.eqvAll]; rfl
  | x :: xs, y :: ys => by
    rw [List.map_cons, List.map_cons, PyData.eqvAll, eqvAll_ints xs ys]
    rw [PyData.eqv]
    by_cases e : x = y <;> by_cases e2 : xs = ys <;> simp [e, e2]
theorem eqv_tups (a b : List Int) : PyData.eqv (tupD a) (tupD b) = decide (a = b) := by
  unfold tupD
  rw [PyData.eqv, eqvAll_ints]
end Dg
namespace Dg
inductive Cells (n : Nat) : List Int → Prop where
  | one (c : Nat) (h : c < n) : Cells n [(c : Int)]
  | two (c d : Nat) (h : c < d) (h' : d < n) : Cells n [(c : Int), (d : Int)]
theorem rep_at (n i : Nat) : (List.replicate n (0 : Int)).getD i 0 = 0 := by
  rw [List.getD_eq_getElem?_getD, List.getElem?_replicate]
  split <;> rfl
theorem repset_at {n j : Nat} (hj : j < n) (i : Nat) : ((List.replicate n (0 : Int)).set j 1).getD i 0 = if i = j then 1 else 0 := by
  rw [List.getD_eq_getElem?_getD, List.getElem?_set, List.length_replicate, List.getElem?_replicate]
  by_cases e : j = i
  · subst e
    rw [if_pos rfl, if_pos hj, if_pos rfl]
    rfl
  · rw [if_neg e, if_neg (Ne.symm e)]
    split <;> rfl
theorem high_at {n : Nat} {cs : List Int} (h : Cells n cs) (i : Nat) : (highV n cs).getD i 0 = if (i : Int) = cs.getD 0 0 then 1 else 0 := by
  cases h with
  | one c h =>
    show ((List.replicate n (0 : Int)).set (c : Int).toNat 1).getD i 0 = if (i : Int) = (c : Int) then 1 else 0
    rw [Int.toNat_natCast, repset_at h]
    by_cases e : i = c
    · rw [if_pos e, if_pos (by omega)]
    · rw [if_neg e, if_neg (by omega)]
  | two c d h h' =>
    show ((List.replicate n (0 : Int)).set (c : Int).toNat 1).getD i 0 = if (i : Int) = (c : Int) then 1 else 0
    rw [Int.toNat_natCast, repset_at (by omega)]
    by_cases e : i = c
    · rw [if_pos e, if_pos (by omega)]
    · rw [if_neg e, if_neg (by omega)]
theorem filt_one (c : Nat) : ∀ n, (List.range n).filter (fun i => decide (i = c)) = if c < n then [c] else []
  | 0 => by simp
  | n + 1 => by
    rw [List.range_succ, List.filter_append, filt_one c n]
    by_cases e : n = c
    · subst e
      simp
    · rw [List.filter_cons_of_neg (by simp [e]), List.filter_nil, List.append_nil]
      by_cases h : c < n
      · rw [if_pos h, if_pos (by omega)]
      · rw [if_neg h, if_neg (by omega)]
theorem filt_two {c d : Nat} (hcd : c < d) : ∀ n, (List.range n).filter (fun i => decide (i = c ∨ i = d)) = if d < n then [c, d] else if c < n then [c] else []
  | 0 => by simp
  | n + 1 => by
    rw [List.range_succ, List.filter_append, filt_two hcd n]
    by_cases e : n = d
    · subst e
      rw [List.filter_cons_of_pos (by simp), List.filter_nil, if_neg (by omega), if_pos hcd, if_pos (by omega)]
      rfl
    · by_cases e2 : n = c
      · subst e2
        rw [List.filter_cons_of_pos (by simp), List.filter_nil, if_neg (by omega), if_neg (by omega), if_neg (by omega), if_pos (by omega)]
        rfl
      · rw [List.filter_cons_of_neg (by simp [e, e2]), List.filter_nil, List.append_nil]
        by_cases h : d < n
        · simp [h, show d < n + 1 by omega]
        · by_cases h2 : c < n
          · simp [h, h2, show ¬ d < n + 1 by omega, show c < n + 1 by omega]
          · simp [h, h2, show ¬ d < n + 1 by omega, show ¬ c < n + 1 by omega]
theorem low_at {n : Nat} {cs : List Int} (h : Cells n cs) (i : Nat) : (lowV n cs).getD i 0 = if cs.length = 2 ∧ (i : Int) = cs.getD 1 0 then 1 else 0 := by
  cases h with
  | one c h =>
    show (List.replicate n (0 : Int)).getD i 0 = _
    rw [rep_at, if_neg (fun z => by have := z.1; simp at this)]
  | two c d h h' =>
    have e0 : (lowV n [(c : Int), (d : Int)]).getD i 0 = if i = d then 1 else 0 := by
      show ((List.replicate n (0 : Int)).set (d : Int).toNat 1).getD i 0 = _
      rw [Int.toNat_natCast, repset_at h']
    rw [e0]
    by_cases e : i = d
    · simp [e]
    · have : ¬ (i : Int) = (d : Int) := by omega
      simp [e, this]
theorem moved_is {n : Nat} {cs : List Int} (h : Cells n cs) : ((List.range n).filter fun i : Nat => !decide ((lowV n cs).getD i 0 = (highV n cs).getD i 0)).map (fun i : Nat => (i : Int)) = cs := by
  have e : (List.range n).filter (fun i : Nat => !decide ((lowV n cs).getD i 0 = (highV n cs).getD i 0)) = (List.range n).filter (fun i : Nat => decide ((i : Int) ∈ cs)) := by
    congr 1
    funext i
    rw [low_at h, high_at h]
    cases h with
    | one c h =>
      by_cases e : (i : Int) = (c : Int) <;> simp [e]
    | two c d h h' =>
      have e0 : [(c : Int), (d : Int)].getD 0 0 = c := rfl
      have e1 : [(c : Int), (d : Int)].getD 1 0 = d := rfl
      have e2 : [(c : Int), (d : Int)].length = 2 := rfl
      have e3 : decide ((i : Int) ∈ [(c : Int), (d : Int)]) = decide ((i : Int) = c ∨ (i : Int) = d) := decide_eq_decide.mpr (by rw [List.mem_cons, List.mem_cons]; simp)
      rw [e0, e1, e2, e3]
      by_cases g : (i : Int) = (c : Int)
      · rw [if_neg (fun z => by omega), if_pos g, decide_eq_true (Or.inl g)]
        rfl
      · rw [if_neg (c := (i : Int) = (c : Int)) g]
        by_cases g2 : (i : Int) = (d : Int)
        · rw [if_pos ⟨rfl, g2⟩, decide_eq_true (Or.inr g2)]
          rfl
        · rw [if_neg (fun z => g2 z.2), decide_eq_false (p := (i : Int) = c ∨ (i : Int) = d) (fun z => z.elim g g2)]
          rfl
  rw [e]
  cases h with
  | one c h =>
    have : (fun i : Nat => decide ((i : Int) ∈ [(c : Int)])) = fun i => decide (i = c) := by
      funext i
      simp
      omega
    rw [this, filt_one, if_pos h]
    rfl
  | two c d h h' =>
    have : (fun i : Nat => decide ((i : Int) ∈ [(c : Int), (d : Int)])) = fun i => decide (i = c ∨ i = d) := by
      funext i
      refine decide_eq_decide.mpr ?_
      rw [List.mem_cons, List.mem_cons]
      constructor
      · rintro (z | z | z)
        · exact .inl (by omega)
        · exact .inr (by omega)
        · cases z
      · rintro (z | z)
        · exact .inl (by omega)
        · exact .inr (.inl (by omega))
    rw [this, filt_two h, if_pos h']
    rfl
theorem low_ne_high {n : Nat} {cs : List Int} (h : Cells n cs) : highV n cs ≠ lowV n cs := by
  intro z
  have h1 := high_at h (cs.getD 0 0).toNat
  have h2 := low_at h (cs.getD 0 0).toNat
  rw [z] at h1
  cases h with
  | one c h =>
    rw [h1] at h2
    simp at h2
  | two c d h h' =>
    rw [h1] at h2
    have e0 : [(c : Int), (d : Int)].getD 0 0 = c := rfl
    have e1 : [(c : Int), (d : Int)].getD 1 0 = d := rfl
    rw [e0, e1, Int.toNat_natCast, if_pos rfl, if_neg (fun z => by omega)] at h2
    exact absurd h2 (by decide)
theorem fault_cells {n m : Nat} {k l : List Int} {cs : List Int} {p : Int} (hk : InV k m) (hl : InV l m) (nk : k.length = n) (nl : l.length = n) (h : faultV k l = some (cs, p)) : Cells n cs ∧ 1 ≤ p ∧ p ≤ m := by
  obtain ⟨hp, hc⟩ := fault_some hk hl nk nl h
  refine ⟨?_, hp⟩
  rcases hc with ⟨c, hcn, rfl, _⟩ | ⟨c, d, hcd, hdn, rfl, _⟩
  · exact .one c hcn
  · exact .two c d hcd hdn
theorem low_len {n : Nat} {cs : List Int} : (lowV n cs).length = n := by
  unfold lowV
  split <;> simp
theorem high_len {n : Nat} {cs : List Int} : (highV n cs).length = n := by
  unfold highV
  simp
theorem turn_row_len {n : Nat} {cs : List Int} {p last : Int} {r : List Int} (h : r ∈ turnV n cs p last) : r.length = n := by
  unfold turnV at h
  rcases List.mem_append.mp h with z | z
  · rw [(List.mem_replicate.mp z).2, low_len]
  · rw [(List.mem_replicate.mp z).2, high_len]
theorem turn_get {n : Nat} {cs : List Int} {p last : Int} (h0 : 0 ≤ p) (h1 : p ≤ last) (v : Nat) (hv : v ≤ last.toNat) : (turnV n cs p last)[v]? = some (if (v : Int) < p then lowV n cs else highV n cs) := by
  have hl : v < (turnV n cs p last).length := by
    rw [turn_len h0 h1]
    omega
  have h := turn_at (n := n) (cs := cs) h0 h1 v hv
  rw [List.getD_eq_getElem?_getD, List.getElem?_eq_getElem hl] at h
  rw [List.getElem?_eq_getElem hl]
  exact congrArg some h
theorem Cells.bound {n : Nat} {cs : List Int} (h : Cells n cs) : ∀ x ∈ cs, 0 ≤ x ∧ x < (n : Int) := by
  cases h with
  | one c h =>
    intro x hx
    have : x = c := by simpa using hx
    omega
  | two c d h h' =>
    intro x hx
    have : x = c ∨ x = d := by simpa using hx
    omega
end Dg
namespace Dg
theorem foldl_num : ∀ (r : List Int) (a : Int), r.foldl (fun a d => 2 * a + d) a = a * 2 ^ r.length + numV r
  | [], a => by
    show a = a * 2 ^ 0 + 0
    omega
  | x :: xs, a => by
    have h0 : numV (x :: xs) = (2 * 0 + x) * 2 ^ xs.length + numV xs := by
      unfold numV
      rw [List.foldl_cons, foldl_num xs (2 * 0 + x)]
      unfold numV
      rfl
    rw [List.foldl_cons, foldl_num xs (2 * a + x), h0, List.length_cons, Int.pow_succ]
    generalize (2 : Int) ^ xs.length = z
    rw [show a * (z * 2) = 2 * a * z by rw [Int.mul_comm z 2, ← Int.mul_assoc, Int.mul_comm a 2], Int.add_mul (2 * a) x z, Int.mul_zero, Int.zero_add]
    omega
theorem num_cons (x : Int) (xs : List Int) : numV (x :: xs) = x * 2 ^ xs.length + numV xs := by
  have h := foldl_num xs (2 * 0 + x)
  rw [show (2 * 0 + x) = x by omega] at h
  unfold numV
  rw [List.foldl_cons, show (2 * 0 + x) = x by omega, h]
  unfold numV
  rfl
def BitsOf (r : List Int) : Prop := ∀ d ∈ r, d = 0 ∨ d = 1
theorem num_range : ∀ {r : List Int}, BitsOf r → 0 ≤ numV r ∧ numV r < 2 ^ r.length
  | [], _ => ⟨Int.le_refl _, by decide⟩
  | x :: xs, h => by
    obtain ⟨h1, h2⟩ := num_range (r := xs) fun d hd => h d (List.mem_cons_of_mem _ hd)
    rw [num_cons, List.length_cons, Int.pow_succ]
    have hx := h x List.mem_cons_self
    generalize (2 : Int) ^ xs.length = z at h2
    rcases hx with e | e <;> rw [e] <;> constructor <;> omega
theorem lex_num : ∀ {r s : List Int}, r.length = s.length → BitsOf r → BitsOf s → lexL r s = false → numV s ≤ numV r
  | [], [], _, _, _, _ => Int.le_refl _
  | x :: xs, y :: ys, hl, hr, hs, h => by
    have hl' : xs.length = ys.length := by simpa using hl
    have hr' : BitsOf xs := fun d hd => hr d (List.mem_cons_of_mem _ hd)
    have hs' : BitsOf ys := fun d hd => hs d (List.mem_cons_of_mem _ hd)
    rw [num_cons, num_cons, hl']
    unfold lexL at h
    by_cases e : x = y
    · rw [if_pos e] at h
      have := lex_num hl' hr' hs' h
      rw [e]
      omega
    · rw [if_neg e] at h
      have h1 := of_decide_eq_false h
      have hx := hr x List.mem_cons_self
      have hy := hs y List.mem_cons_self
      have b1 := num_range hr'
      have b2 := num_range hs'
      have ex : x = 1 := by omega
      have ey : y = 0 := by omega
      rw [ex, ey]
      generalize (2 : Int) ^ ys.length = z at b2
      omega
theorem num_lex {r s : List Int} (hl : r.length = s.length) (hr : BitsOf r) (hs : BitsOf s) (h : numV r < numV s) : lexL r s = true := by
  cases e : lexL r s with
  | true => rfl
  | false =>
    have := lex_num hl hr hs e
    omega
theorem lex_self : ∀ r : List Int, lexL r r = false
  | [] => rfl
  | x :: xs => by
    unfold lexL
    rw [if_pos rfl]
    exact lex_self xs
theorem lex_at : ∀ {r s : List Int} (i : Nat), r.length = s.length → lexL r s = true → (∀ j, j < i → r.getD j 0 = s.getD j 0) → i < r.length ∧ (r.getD i 0 ≠ s.getD i 0 → r.getD i 0 < s.getD i 0)
  | [], [], i, _, h, _ => by
    rw [lex_self] at h
    cases h
  | x :: xs, y :: ys, 0, _, h, _ => by
    refine ⟨Nat.zero_lt_succ _, fun z => ?_⟩
    have z' : ¬ x = y := z
    unfold lexL at h
    rw [if_neg z'] at h
    exact of_decide_eq_true h
  | x :: xs, y :: ys, i + 1, hl, h, he => by
    have e0 : x = y := he 0 (Nat.zero_lt_succ _)
    unfold lexL at h
    rw [if_pos e0] at h
    obtain ⟨h1, h2⟩ := lex_at (r := xs) (s := ys) i (by simpa using hl) h fun j hj => he (j + 1) (Nat.succ_lt_succ hj)
    exact ⟨Nat.succ_lt_succ h1, h2⟩
theorem bad_of {rows : List (List Int)} (h0 : rows ≠ []) (h1 : rows.getD 0 [] ≠ []) (h : ∀ j, j + 1 < rows.length → badNext (rows.getD j []) (rows.getD (j + 1) []) = false) : badAt rows = none := by
  unfold badAt
  rw [if_neg (fun z => z.elim h0 h1)]
  unfold badFrom
  rw [List.findSome?_eq_none_iff]
  intro j hj
  have hj' := List.mem_range.mp hj
  rw [h j (by omega)]
  rfl
theorem lowV_bits {n : Nat} {cs : List Int} : BitsOf (lowV n cs) := by
  unfold lowV
  split
  · exact (set_bits n _).2
  · exact (zero_bits n).2
theorem highV_bits {n : Nat} {cs : List Int} : BitsOf (highV n cs) := (set_bits n _).2
theorem high_not_below {n : Nat} {cs : List Int} (h : Cells n cs) : lexL (highV n cs) (lowV n cs) = false := by
  cases e : lexL (highV n cs) (lowV n cs) with
  | false => rfl
  | true =>
    have hl : (highV n cs).length = (lowV n cs).length := high_len.trans low_len.symm
    have key : ∀ c : Nat, cs.getD 0 0 = (c : Int) → ((cs.length = 2) → (c : Int) < cs.getD 1 0) → False := by
      intro c hc h2
      have hlow : (lowV n cs).getD c 0 = 0 := by
        rw [low_at h, if_neg (fun z => by have := h2 z.1; omega)]
      have hhigh : (highV n cs).getD c 0 = 1 := by
        rw [high_at h, if_pos hc.symm]
      have hj : ∀ j, j < c → (highV n cs).getD j 0 = (lowV n cs).getD j 0 := by
        intro j hj
        rw [high_at h, low_at h, if_neg (by omega), if_neg (fun z => by have := h2 z.1; omega)]
      have := (lex_at c hl e hj).2 (by rw [hlow, hhigh]; decide)
      rw [hlow, hhigh] at this
      omega
    cases h with
    | one c h => exact (key c rfl (fun z => by simp at z)).elim
    | two c d h h' => exact (key c rfl (fun _ => by show (c : Int) < (d : Int); omega)).elim
theorem turn_bad {n : Nat} {cs : List Int} {p last : Int} (h : Cells n cs) (p1 : 1 ≤ p) (pl : p ≤ last) : badAt (turnV n cs p last) = none := by
  have hlen : (turnV n cs p last).length = last.toNat + 1 := turn_len (by omega) pl
  have n0 : 0 < n := by
    cases h <;> omega
  refine bad_of (fun z => ?_) (fun z => ?_) fun j hj => ?_
  · rw [z] at hlen
    simp at hlen
  · rw [turn_at (by omega) pl 0 (Nat.zero_le _), if_pos (by omega)] at z
    have := low_len (n := n) (cs := cs)
    rw [z] at this
    simp at this
    omega
  · rw [turn_at (by omega) pl j (by omega), turn_at (by omega) pl (j + 1) (by omega)]
    unfold badNext
    by_cases g : ((j + 1 : Nat) : Int) < p
    · rw [if_pos g, if_pos (by omega), lex_self, decide_eq_false (fun z => z rfl)]
      rfl
    · rw [if_neg g]
      by_cases g2 : (j : Int) < p
      · rw [if_pos g2, high_not_below h, decide_eq_false (fun z => z (high_len.trans low_len.symm))]
        rfl
      · rw [if_neg g2, lex_self, decide_eq_false (fun z => z rfl)]
        rfl
theorem turn_versOk {n : Nat} {cs : List Int} {p last : Int} {k : List Int} (p1 : 1 ≤ p) (pl : p ≤ last) (hk : AllIn k last) (hl : k.length = n) : versOk (turnV n cs p last) k := by
  refine ⟨?_, fun x hx => ?_⟩
  · rw [turn_at (by omega) pl 0 (Nat.zero_le _), if_pos (by omega), low_len, hl]
  · rw [turn_len (by omega) pl]
    have := hk x hx
    omega
theorem rowV_bits {n : Nat} {cs : List Int} {p last : Int} {k : List Int} : BitsOf (rowV (turnV n cs p last) k) := by
  intro d hd
  unfold rowV at hd
  obtain ⟨i, _, rfl⟩ := List.mem_map.mp hd
  have key : ∀ r, r ∈ turnV n cs p last → BitsOf r := by
    intro r hr
    unfold turnV at hr
    rcases List.mem_append.mp hr with z | z
    · rw [(List.mem_replicate.mp z).2]
      exact lowV_bits
    · rw [(List.mem_replicate.mp z).2]
      exact highV_bits
  have dig : ∀ r : List Int, BitsOf r → r.getD i 0 = 0 ∨ r.getD i 0 = 1 := by
    intro r hr
    rw [List.getD_eq_getElem?_getD]
    cases e2 : r[i]? with
    | none => exact .inl rfl
    | some d => exact hr d (List.mem_of_getElem? e2)
  refine dig _ ?_
  generalize (k.getD i 0).toNat = v
  rw [List.getD_eq_getElem?_getD]
  cases e : (turnV n cs p last)[v]? with
  | none => exact fun d hd => by cases hd
  | some r => exact key r (List.mem_of_getElem? e)
theorem turn_above {n m : Nat} {k l : List Int} {cs : List Int} {p last : Int} (hk : InV k m) (hl : InV l m) (nk : k.length = n) (nl : l.length = n) (h : faultV k l = some (cs, p)) (hm : last = (m : Int)) :
    lexL (rowV (turnV n cs p last) l) (rowV (turnV n cs p last) k) = true :=
  num_lex (by unfold rowV; rw [List.length_map, List.length_map, List.length_range, List.length_range, nk, nl]) rowV_bits rowV_bits (fault_gt hk hl nk nl h hm)
end Dg
namespace Dg
open PySem PySem.Spec PyProof.Rows L2
structure FnG (P : Program) (w : World) (K : PySem.W.Frag) (mg : Str → Option Value) (base : Heap) (C : CXT) (k : Nat) (f : Addr) (fd : FuncData) (ps : List Str) (sp : Sp) : Prop where
  cnt : ∀ vs H Q E, sp vs H Q E → vs.length = ps.length
  go : ∀ (A : Around) (outer : List Env) (s : Shared) (H : Hp) (args : Args) (us : List Value) (vs : List V) (Q : VK) (E : XK), A.guards = some [] → Room k A → Env0 P w K mg base A outer s H →
    BindsTo s fd args (ps.zip us) → Vals vs us → sp vs H Q E → codeAny (model P w) A (.call (.ref f) args) (CR C outer P w H s Q E) s
section
variable {P : Program} {w : World} {K : PySem.W.Frag} {mg : Str → Option Value} {base : Heap}
theorem fnG_ok {x q : Str} {st : Stmt} {f : Addr} {fd : FuncData} {N ps : List Str} {k : Nat} {sp : Sp} (F : Fun K x q st f fd) (S : FnScope N ps (defScope st)) (cnt : ∀ vs H Q E, sp vs H Q E → vs.length = ps.length)
    (body : ∀ (cdv : Value) (A : Around) (outer : List Env) (s : Shared) (H : Hp) (vs : List V) (Q : VK) (E : XK), A.guards = some [] → Room k (A.deeper (envOfC q (defScope st) s.heap.objs.size f cdv)) → sp vs H Q E →
      ∃ t, PSs (cxOf CX0 P w K mg base N q (defScope st) f cdv A outer s H E).nox (defBody st) t ∧ t { nx := fun _ H' => Q .non H', rt := Q } (start N vs) H) : FnG P w K mg base CX0 (k + 1) f fd ps sp := by
  obtain ⟨_, _, _, _, _, _, cdv, _, _, rfl, look, code⟩ := F.ex
  constructor
  · exact cnt
  intro A outer s H args us vs Q E hg room e0 bind rel asked
  have nvs := cnt _ _ _ _ asked
  have old : ∀ b o, base.get? b = some o → s.heap.get? b = some o := fun b o e => (e0.bs b o e).1
  have KX : K.In s.heap := e0.mod.kin.keeps old
  have names : ∀ y ∈ ps.zip us, (defScope st).names.lookup y.1 = some .local ∨ ((defScope st).names.lookup y.1 = some .cell ∧ ((cellsFrom (s.heap.objs.size + 1) (defScope st).names []).lookup y.1).isSome = true) := by
    rintro ⟨n, v⟩ hy
    have hn := (List.of_mem_zip hy).1
    exact (S.par n hn).imp (fun z => z) fun z => ⟨z, PySem.W.cellsFrom_some _ _ _ (.inl z)⟩
  refine codeAny_call_function room.depth (KX _ _ look) rfl S.co S.gen rfl (PySem.W.codeRec_of KX code) (bind _ _ _ _ ?_)
  refine wpAny_newFunctionEnv_cells S.kind names ?_
  intro env he s1 made
  subst he
  refine ⟨(e0.mod.nolimit.keeps old).keeps made.toInCall.keep, codeAny_func ?_⟩
  obtain ⟨t, ht, asks⟩ := body cdv A outer s H vs Q E hg (room.deeper _) asked
  have I := inv_start (CX := CX0) (E := E) S room.hd e0 nvs rel made
  refine wpAny_mono (ht.nox.run [] s1 (start N vs) H _ I asks) ?_ (fun e s' z => z)
  intro fl s' z
  have fin : ∀ {σ' : L2.St} {H' : Hp} {v : V} {u : Value}, Inv (cxOf CX0 P w K mg base N q (defScope st) f cdv A outer s H E) [] σ' H' s' → RelV v u → Q v H' → CE outer P w H s Q u s' :=
    fun J rv hq => ⟨_, _, J.os, J.bare, J.base, J.hok, rv, hq⟩
  cases fl with
  | ret u =>
    obtain ⟨_, _, _, J, rv, hq⟩ := z
    exact fin J rv hq
  | next =>
    obtain ⟨_, _, J, hq⟩ := z
    exact fin (v := V.non) (u := Value.none) J rfl hq
  | brk => exact z.elim fun _ z => z.elim fun _ z => z.2.elim
  | cont => exact z.elim fun _ z => z.elim fun _ z => z.2.elim
end
section
variable {X : Cx}
def rRepr (K : PySem.W.Frag) : List V → Hp → VK → Prop := fun vs H Q => ∃ (a : Addr) (d : PyData), vs = [.ref a] ∧ Dp K H (.ref a) d ∧ d.showable = true ∧ d.hasDict = false ∧ d.depth ≤ 60 ∧ d.shown.length ≤ sizeLine ∧ Q (.str d.shown) H
theorem cr_repr (hg : X.A.guards = some []) (hu : X.A.units + 64 < cLine) : CallR X (.builtin "repr") (rRepr X.K) := by
  intro pins s σ H vs us Q I r h
  obtain ⟨a, d, rfl, hd, h1, h2, h3, h4, q⟩ := h
  rw [Vals.ref1 r]
  obtain ⟨as, rd⟩ := Dp.reads I d _ _ hd rfl
  exact repr_of_reads' rd h1 (fun z => by rw [h2] at z; cases z) hg (by omega) (fun _ _ e => e) (fun h' u tk hk => ⟨.str _, H, I.kept hk, ⟨_, rfl⟩, q⟩) h4
end
theorem script_heap {P : Program} {w : World} {K : PySem.W.Frag} {h : Heap} {a : Addr} {vs : List Value} {ns : List Int} (KX : K.In h) (ha : h.get? a = some { cls := .type "list", data := .seq vs.toArray }) (hi : IntsAre vs ns) (hl : ns.length ≤ sizeLine) :
    ∃ H : Hp, Only H ∧ SqL K H a (ns.map V.int) ∧ HOk P w H h ∧ ∀ b, H b ≠ none → b = a ∧ K.lookup a = none := by
  have rv := vals_ints hi
  have nv := hi.length
  cases hk : K.lookup a with
  | some o =>
    have eo := (KX a o hk).symm.trans ha
    cases eo
    exact ⟨fun _ => none, fun _ => .inl rfl, .inr ⟨_, vs.toArray, _, hk, rfl, rfl, rfl, by rw [List.size_toArray, nv]; exact hl, by simpa using rv⟩, fun _ _ z => (by cases z), fun _ z => absurd rfl z⟩
  | none =>
    obtain ⟨ob, eob⟩ : ∃ ob : Obj, ob = { cls := .type "list", data := .seq vs.toArray } := ⟨_, rfl⟩
    refine ⟨fun b => if b = a then some (.frz ob (.lst (ns.map V.int))) else none, fun b => ?_, .inl (.inr ⟨ob, if_pos rfl⟩), fun b u z => ?_, fun b z => ⟨?_, rfl⟩⟩
    · rcases Classical.em (b = a) with e | e
      · exact .inr ⟨_, _, if_pos e⟩
      · exact .inl (if_neg e)
    · rcases Classical.em (b = a) with e | e
      · have z1 : some _ = some u := (if_pos e).symm.trans z
        cases z1
        rw [e, eob]
        exact ⟨ha, by rw [List.length_map]; exact hl, vs, _, rv, ha⟩
      · have z1 : none = some u := (if_neg e).symm.trans z
        cases z1
    · rcases Classical.em (b = a) with e | e
      · exact e
      · exact absurd (if_neg e) z
theorem headG {P : Program} {w : World} {K : PySem.W.Frag} {mg mb : Str → Option Value} {k : Nat} {fa a : Addr} {fd : FuncData} {x : Str} {sp : Sp} {s : Shared} {vs : List Value} {ns : List Int}
    (KX : K.In s.heap) (gl : s.heap.Ns mainGlobals mg) (bl : s.heap.Ns builtinsNs mb) (bb : ∀ x : Str, x ≠ "__name__" → mb x = bootBuiltins x) (lim : s.heap.NoLimit) (gn : s.gens = #[])
    (ha : s.heap.get? a = some { cls := .type "list", data := .seq vs.toArray }) (hi : IntsAre vs ns) (hl : ns.length ≤ sizeLine) (room : Room k callerA)
    (F : ∀ base : Heap, K.In base → base.Ns mainGlobals mg → FnG P w K mg base CX0 k fa fd [x] sp) (bind : ∀ (s : Shared) (u : Value), BindsTo s fd ⟨[u], []⟩ [(x, u)])
    (asks : ∀ H : Hp, Only H → SqL K H a (ns.map V.int) → sp [.ref a] H (fun v _ => v = .bl true) fun _ _ _ => False) :
    codeAny (model P w) callerA (.call (.ref fa) ⟨[.ref a], []⟩) (fun r s' => r = .ok (.ret (.bool true)) ∧ OldK s.heap s'.heap ∧ s'.os = s.os ∧ AllBare s'.gens) s := by
  obtain ⟨H, only, seq, ok, hA⟩ := script_heap (P := P) (w := w) KX ha hi hl
  have free : ∀ {b : Addr} {o : Obj}, s.heap.get? b = some o → (b = a → False) → (hidT s.heap H).get? b = some o := fun {b o} e n => hidT_get e (by
    cases q : H b with
    | none => rfl
    | some u => exact (n (hA b (by rw [q]; simp)).1).elim)
  have space : ∀ {b : Addr} {m : Str → Option Value}, s.heap.Ns b m → (hidT s.heap H).Ns b m := by
    rintro b m ⟨o, es, ep, e, d, r⟩
    refine ⟨o, es, ep, free e (fun z => ?_), d, r⟩
    subst z
    cases e.symm.trans ha
    cases d
  have kin : K.In (hidT s.heap H) := fun b o e => hidT_get (KX b o e) (by
    cases q : H b with
    | none => rfl
    | some u =>
      obtain ⟨z, nk⟩ := hA b (by rw [q]; simp)
      subst z
      cases e.symm.trans nk)
  have mod : Mod K mg (hidT s.heap H) := ⟨kin, space gl, ⟨mb, space bl, bb⟩, lim.elim fun mc z => ⟨mc, space z.1, z.2⟩⟩
  have env : Env0 P w K mg (hidT s.heap H) callerA [] s H := by
    refine ⟨rfl, mod, fun b o e => of_hidT e, Nat.le_of_eq (hidT_size _ _), trivial, fun b z => ?_, ok, .of_eq gn⟩
    cases (show b ∈ ([] : List Addr) from z)
  have run := (F _ kin (space gl)).go callerA [] s H ⟨[.ref a], []⟩ [.ref a] [.ref a] _ _ rfl room env (bind s _) (.cons rfl .nil) (asks H only seq)
  refine codeAny_mono run ?_
  intro r s' z
  match r, z with
  | .error e, z => exact z.elim
  | .ok .next, z => exact z.elim
  | .ok .brk, z => exact z.elim
  | .ok .cont, z => exact z.elim
  | .ok (.ret u), ⟨v, H', os, bare, un, ok', rel, hv⟩ =>
    have hv' : v = .bl true := hv
    rw [hv'] at rel
    refine ⟨congrArg (fun t => Except.ok (Flow.ret t)) (show u = Value.bool true from rel), OldK.of_keep ?_, os, bare⟩
    intro b o e
    cases q : H b with
    | none => exact un.keep b o e q (fun y => by cases (show b ∈ ([] : List Addr) from y)) (by simp)
    | some c =>
      rcases only b with y | ⟨ob, xs, y⟩
      · cases q.symm.trans y
      · have e1 := (ok b _ y).1
        have e2 := (ok' b _ (un.frzs b ob _ y)).1
        cases e.symm.trans e1
        exact e2
theorem walk_ofG {l : PySem.W.OpenLaw} {n k : Nat} {q : Program} {loose : List Str} {XP : (Str → Option Value) → Heap → Prop} {YP : World → Heap → Prop} {d : DefRec} {K : Params → PySem.W.Frag} {sp : World → Sp} {x : Str}
    (most : l.most = some n) (n2 : n ≤ sizeLine) (nodef : d.params.defaults = []) (room : Room k callerA) (kin : ∀ (w : World) (h : Heap), YP w h → (K w.params).In h)
    (F : ∀ (w : World) (mg : Str → Option Value) (fa : Addr) (h : Heap), (K w.params).In h → h.Ns mainGlobals mg → mg d.name = some (.ref fa) →
      ∃ fd : FuncData, (∀ (s : Shared) (u : Value), BindsTo s fd ⟨[u], []⟩ [(x, u)]) ∧ ∀ base : Heap, (K w.params).In base → base.Ns mainGlobals mg → FnG l.prog w (K w.params) mg base CX0 k fa fd [x] (sp w))
    (asks : ∀ (w : World) (H : Hp) (a : Addr) (ns : List Int), ns.length ≤ n → Only H → SqL (K w.params) H a (ns.map V.int) → sp w [.ref a] H (fun v _ => v = .bl true) fun _ _ _ => False) :
    PySem.W.WalkO q loose XP YP l.row.toRowW d [] (fun f vs => PySem.call f vs) := by
  refine Att.attach_call most nodef ?_
  intro w s₀ s mg mb fa o pm cd doc a vs ns G Y ho hd hcd hmg hobj hints hlen hg
  have KX := kin w _ Y
  obtain ⟨fd, bind, go⟩ := F w mg fa _ KX G.T.g hmg
  exact headG KX G.T.g G.T.b G.T.builtins G.T.nolimit hg hobj hints (Nat.le_trans hlen n2) room go bind fun H only seq => asks w H a ns hlen only seq
end Dg
namespace Dg
open PySem PySem.Spec PyProof.Rows L2
abbrev Suite := Addr → Value → Option Addr → TS
def clauseEnds : Option Nat → Ends → Ends
  | none, D => D
  | some i, D => { nx := fun t G => D.nx (t.set i none) G, rt := D.rt, bk := fun t G => D.bk (t.set i none) G, ct := fun t G => D.ct (t.set i none) G }
def clauseSlot : Option Nat → L2.St → Addr → L2.St
  | none, t, _ => t
  | some i, t, a => t.set i (some (.ref a))
def wClauses (K : PySem.W.Frag) (out : WX) (D : Ends) : List (Value × Option Nat × Suite) → WX
  | [] => out
  | (c, i, ts) :: l => fun cls d t G => ∃ b, PySem.W.exmOne K cls c = some b ∧
      (b = true → ∀ a, G a = none → ts a cls d (clauseEnds i D) (clauseSlot i t a) G) ∧ (b = false → wClauses K out D l cls d t G)
inductive Clauses (X : Cx) : List ExceptHandler → List (Value × Option Nat × Suite) → Prop where
  | nil : Clauses X [] []
  | bare {x : Str} {c : Value} {ts : Suite} {b : Stmt} {bs : List Stmt} {p p' : Pos} {hs : List ExceptHandler} {l : List (Value × Option Nat × Suite)} (nm : Names X x c)
      (su : ∀ (a : Addr) (o : Obj) (cls : Value) (d : Option Addr) (pn : List (Addr × Obj)), Zc cls d o → (∃ vs, o.data = .fields vs) → PSs (X.suite a ((a, o) :: pn)) (b :: bs) (ts a cls d)) (more : Clauses X hs l) :
      Clauses X (.ExceptHandler (some (.Name x p)) none (b :: bs) p' :: hs) ((c, none, ts) :: l)
  | named {x n : Str} {c : Value} {i : Nat} {ts : Suite} {b : Stmt} {bs : List Stmt} {p p' : Pos} {hs : List ExceptHandler} {l : List (Value × Option Nat × Suite)} (at_ : X.N[i]? = some n) (lo : X.env.kindOf n = some .local) (nm : Names X x c)
      (su : ∀ (a : Addr) (o : Obj) (cls : Value) (d : Option Addr) (pn : List (Addr × Obj)), Zc cls d o → (∃ vs, o.data = .fields vs) → PSs (X.suite a ((a, o) :: pn)) (b :: bs) (ts a cls d)) (more : Clauses X hs l) :
      Clauses X (.ExceptHandler (some (.Name x p)) (some n) (b :: bs) p' :: hs) ((c, some i, ts) :: l)
section
variable {X : Cx} {body : List Stmt} {h0 : ExceptHandler} {hs : List ExceptHandler} {l : List (Value × Option Nat × Suite)} {pos : Pos} {tb : WX → TS} {out : WX}
theorem ps_tryC (stk : X.stack = X.env :: X.outer) (frm : X.env.frame = some X.env.locals) (nod : X.N.Nodup) (tk : Takes X out)
    (hb : ∀ (W : WX) (pn : List (Addr × Obj)) (xe : Value → Shared → Prop), Takes (X.tr pn xe) W → PassesOwn (model X.prog X.w) X.A X.env xe → PSs (X.tr pn xe) body (tb W)) (hc : Clauses X (h0 :: hs) l) :
    PS X (.Try body (h0 :: hs) [] [] pos) (fun D t G => tb (wClauses X.K out D l) D t G) := by
  constructor
  intro pins s t G D I asked
  have ok := I.ok
  have frames : X.A.frames = some (X.env :: X.outer) := ok.frames.trans (congrArg some stk)
  refine wpAny_Try_except (wpAny_mono ((hb (wClauses X.K out D l) (X.pn ++ pins) _ ?takes PassesOwn.looking).run [] s t G D (I.toTry _) asked) ?done fun _ _ z => z)
  case takes =>
    rintro u s1 ⟨a, B, sI, pins1, t1, G1, cls, d, rfl, J0, nb, up, sky, free, os, gens, wish⟩
    have J := J0.ofTry ok
    have sky1 : Sky B (X.env :: X.outer) a (Zc cls d) X.env.locals s1.heap := stk ▸ sky
    show wpAny (model X.prog X.w) X.A (noteFrame (.ref a) X.env) _ _ _
    refine Sky.land Zc.steady frames frm sky1 ?_
    intro h3 fl up3
    have J3 : Inv X pins t1 G1 { s1 with heap := h3 } := J.landed nb fl.1 (up.trans up3) os gens
    obtain ⟨o3, vs3, e3, z3, d3⟩ := fl.there
    have away : a ∉ frs (X.env :: X.outer) := by
      intro hm
      obtain ⟨_, o', e', nf⟩ := fl.2.2.1.mem hm
      cases e3.symm.trans e'
      exact nf _ d3
    have awayL : a ≠ X.env.locals := by
      intro z
      exact away (List.mem_filterMap.mpr ⟨_, List.mem_cons_self, by rw [frm, z]⟩)
    have awayF : a ∉ X.fs := by
      intro hm
      obtain ⟨e, he, q⟩ := List.mem_filterMap.mp hm
      exact away (List.mem_filterMap.mpr ⟨e, List.mem_cons_of_mem _ he, q⟩)
    have S3 := J3.suite e3 d3 free awayL awayF
    have look : ∀ {x : Str} {c : Value} {p : Pos}, Names X x c → ∀ {Q E : Value → Shared → Prop}, Q c { s1 with heap := h3 } → wpAny (model X.prog X.w) (X.A.mark (some (.ref a))) (eval (.Name x p) X.env) Q E { s1 with heap := h3 } := by
      rintro x c p ⟨hg, nd, hm | ⟨hm, hv, nn⟩⟩ Q E q
      · exact ld_glob (X := X.suite a ((a, o3) :: (X.pn ++ pins))) S3 hg hm q nd
      · exact ld_blt (X := X.suite a ((a, o3) :: (X.pn ++ pins))) S3 hg hm hv q nn nd
    have cls3 : PySem.W.Looks (model X.prog X.w) h3 (typeOf (.ref a)) cls := fun _ _ _ _ k q => wpAny_typeOf_ref (k _ _ e3) (by rw [z3.1]; exact q)
    have go : ∀ {hs' : List ExceptHandler} {l' : List (Value × Option Nat × Suite)}, Clauses X hs' l' → wClauses X.K out D l' cls d t1 G1 →
        wpAny (model X.prog X.w) X.A (handleBy (.ref a) X.env hs') (SP X pins D) X.xe { s1 with heap := h3 } := by
      intro hs' l' hk
      induction hk with
      | nil =>
        intro wish
        refine wpAny_handleBy_nil ?_
        obtain ⟨_, _, _, _, _, T, _, _, he, _, hd, h1, _⟩ := id fl
        have pass : wpAny (model X.prog X.w) X.A (setFlight (.ref a) X.env.frame) (fun _ s4 => wpAny (model X.prog X.w) X.A (throw (.ref a) : Sem Flow) (SP X pins D) X.xe s4) X.xe { s1 with heap := h3 } := by
          rw [frm]
          refine HandSPX.setFlight_upZ fl ?_
          intro h4 sky4 up4
          refine wpAny_throw (tk _ _ ⟨a, B, sI, pins, t1, G1, cls, d, rfl, J, nb, (up.trans up3).trans up4, .inr (.inr ?_), free, os, gens, wish⟩)
          rw [stk]
          exact sky4
        unfold PySem.passOn
        refine wpAny_bind (wpAny_field he hd h1 ?_)
        rw [if_neg (by simp : ¬ (Value.ref T == Value.none) = true)]
        first | exact wpAny_bind pass | exact wpAny_bind (wpAny_pure (wpAny_bind pass))
      | bare nm su more ih =>
        rintro ⟨b, hm, yes, no⟩
        refine wpAny_handleBy_cons (codeAny_handlers_test (look nm (PySem.W.Looks.here (PySem.W.exm_one J3.kIn cls3 hm) ?_))) (fun q => by cases q)
        cases b with
        | false => exact ih (no rfl)
        | true =>
          refine codeAny_handlers_suite (HandSPX.lands_againZ fl ?_)
          intro h4 fl4 up4
          obtain ⟨o4, _, e4, z4, d4⟩ := fl4.there
          have J4 : Inv X pins t1 G1 { s1 with heap := h4 } := J.landed nb fl4.1 ((up.trans up3).trans up4) os gens
          have S4 := J4.suite e4 d4 free awayL awayF
          refine wpAny_mono ((su a o4 cls d (X.pn ++ pins) z4 ⟨_, d4⟩).run [] _ _ G1 _ S4 (yes rfl a free)) ?_ (fun _ _ z => z.elim)
          intro f s6 z
          cases f with
          | next => exact z.elim fun _ z => z.elim fun _ z => ⟨_, _, z.1.unsuite ok, z.2⟩
          | brk => exact z.elim fun _ z => z.elim fun _ z => ⟨_, _, z.1.unsuite ok, z.2⟩
          | cont => exact z.elim fun _ z => z.elim fun _ z => ⟨_, _, z.1.unsuite ok, z.2⟩
          | ret u => exact z.elim fun _ z => z.elim fun _ z => z.elim fun _ z => ⟨_, _, _, z.1.unsuite ok, z.2.1, z.2.2⟩
      | named at_ lo nm su more ih =>
        rintro ⟨b, hm, yes, no⟩
        refine wpAny_handleBy_cons (codeAny_handlers_test (look nm (PySem.W.Looks.here (PySem.W.exm_one J3.kIn cls3 hm) ?_))) (fun q => by cases q)
        cases b with
        | false => exact ih (no rfl)
        | true =>
          refine codeAny_handlers_suite_as (HandSPX.lands_againZ fl ?_)
          intro h4 fl4 up4
          obtain ⟨o4, _, e4, z4, d4⟩ := fl4.there
          have J4 : Inv X pins t1 G1 { s1 with heap := h4 } := J.landed nb fl4.1 ((up.trans up3).trans up4) os gens
          have S4 := J4.suite e4 d4 free awayL awayF
          refine store_ok (X := X.suite a ((a, o4) :: (X.pn ++ pins))) (v := .ref a) S4 nod at_ (.inl lo) rfl ?_ (.inr lo)
          intro s5 S5
          refine wpAny_mono ((su a o4 cls d (X.pn ++ pins) z4 ⟨_, d4⟩).run [] s5 _ G1 _ S5 (yes rfl a free)) ?_ (fun _ _ z => z.elim)
          intro f s6 z
          cases f with
          | next => exact z.elim fun _ z => z.elim fun _ z => gone_ok (z.1.unsuite ok) nod at_ lo fun _ J7 => ⟨_, _, J7, z.2⟩
          | brk => exact z.elim fun _ z => z.elim fun _ z => gone_ok (z.1.unsuite ok) nod at_ lo fun _ J7 => ⟨_, _, J7, z.2⟩
          | cont => exact z.elim fun _ z => z.elim fun _ z => gone_ok (z.1.unsuite ok) nod at_ lo fun _ J7 => ⟨_, _, J7, z.2⟩
          | ret u => exact z.elim fun _ z => z.elim fun _ z => z.elim fun _ z => gone_ok (z.1.unsuite ok) nod at_ lo fun _ J7 => ⟨_, _, _, J7, z.2.1, z.2.2⟩
    exact go hc wish
  case done =>
    intro f s1 z
    cases f with
    | next =>
      obtain ⟨_, _, J, q⟩ := z
      exact wpAny_execs_nil ⟨_, _, J.ofTry ok, q⟩
    | brk =>
      obtain ⟨_, _, J, q⟩ := z
      exact ⟨_, _, J.ofTry ok, q⟩
    | cont =>
      obtain ⟨_, _, J, q⟩ := z
      exact ⟨_, _, J.ofTry ok, q⟩
    | ret u =>
      obtain ⟨_, _, _, J, r, q⟩ := z
      exact ⟨_, _, _, J.ofTry ok, r, q⟩
end
end Dg
namespace Dg
open PySem PySem.Spec PyProof.Rows L2
theorem showA : ∀ r : List Int, (∀ d ∈ r, 0 ≤ d ∧ d < 10 ^ 20) → PyData.showableAll (r.map .int) = true ∧ PyData.hasDictAll (r.map .int) = false ∧ ((PyData.shownAll (r.map .int)).map (·.length)).sum ≤ 21 * r.length ∧ (PyData.shownAll (r.map .int)).length = r.length
  | [], _ => ⟨rfl, rfl, Nat.le_refl _, rfl⟩
  | x :: xs, h => by
    obtain ⟨h1, h2, h3, h4⟩ := showA xs fun d hd => h d (List.mem_cons_of_mem _ hd)
    have hx := h x List.mem_cons_self
    have hn : x.natAbs < 10 ^ 20 := by omega
    have hlog : x.natAbs.log2 < 1920 := by
      by_cases z : x.natAbs = 0
      · rw [z]
        decide
      · rw [Nat.log2_lt z]
        exact Nat.lt_of_lt_of_le hn (Nat.le_of_lt (Nat.lt_of_lt_of_le (show 10 ^ 20 < 2 ^ 100 by decide) (Nat.pow_le_pow_right (by decide) (by decide))))
    have hlen : (PyData.shown (.int x)).length ≤ 21 := by
      rw [PyData.shown]
      show (Str.ofString (toString x)).length ≤ 21
      rw [PySem.ofString_length]
      exact int_text_length_le10 (k := 20) (by decide) hn
    rw [List.map_cons]
    refine ⟨?_, ?_, ?_, ?_⟩
    · rw [PyData.showableAll, PyData.showable, h1, decide_eq_true hlog]
      rfl
    · rw [PyData.hasDictAll, PyData.hasDict, h2]
      rfl
    · rw [PyData.shownAll, List.map_cons, List.sum_cons, List.length_cons]
      omega
    · rw [PyData.shownAll, List.length_cons, List.length_cons, h4]
theorem showT {r : List Int} (hl : r.length ≤ 1000) (h : ∀ d ∈ r, 0 ≤ d ∧ d < 10 ^ 20) : (tupD r).showable = true ∧ (tupD r).hasDict = false ∧ (tupD r).depth ≤ 60 ∧ (tupD r).shown.length ≤ sizeLine := by
  obtain ⟨h1, h2, h3, h4⟩ := showA r h
  refine ⟨?_, ?_, Nat.le_trans (okD_tup 0 r).2 (by decide), ?_⟩
  · unfold tupD
    rw [PyData.showable]
    exact h1
  · unfold tupD
    rw [PyData.hasDict]
    exact h2
  · unfold tupD
    rw [PyData.shown]
    have := tupleText_len_le (PyData.shownAll (r.map .int))
    rw [h4] at this
    have : (tupleText (PyData.shownAll (r.map .int))).length ≤ 24000 := by omega
    exact Nat.le_trans this (by decide)
end Dg
namespace Dg
open PySem PySem.Spec PyProof.Rows L2
theorem exm_other {K : PySem.W.Frag} {A C : Addr} (hC : PySem.W.subIn K (.ref C) (.type "BaseException") = some true) (iC : PySem.W.isClsIn K C = true) (tC : PySem.W.typeIn K (.ref C) = some (.type "type")) (no : PySem.W.subIn K (.ref A) (.ref C) = some false) :
    PySem.W.exmOne K (.ref A) (.ref C) = some false := by
  have e1 : (PySem.W.subIn K (.ref C) (.type "BaseException") == some true) = true := by rw [hC] <;> rfl
  have e2 : ((PySem.W.clsIn K C).isSome && PySem.W.typeIn K (.ref C) == some (.type "type")) = true := by
    rw [show (PySem.W.clsIn K C).isSome = true from iC, tC] <;> rfl
  show (if (PySem.W.subIn K (.ref C) (.type "BaseException") == some true) = true then (if ((PySem.W.clsIn K C).isSome && PySem.W.typeIn K (.ref C) == some (.type "type")) = true then PySem.W.subIn K (.ref A) (.ref C) else none) else none) = some false
  rw [if_pos e1, if_pos e2]
  exact no
end Dg
namespace Dg
open PySem PySem.Spec PyProof.Rows L2
section
variable {X : Cx}
theorem laid_free {pins : List (Addr × Obj)} {σ : L2.St} {H : Hp} {s : Shared} {h' : Heap} {a : Addr} {o : HO} (I : Inv X pins σ H s) (k : ∀ b u, s.heap.get? b = some u → h'.get? b = some u) (nw : s.heap.get? a = none) (hn : H a = none)
    (new : ObjOk X.prog X.w (upd H a o) h' a o) : Inv X pins σ (upd H a o) { s with heap := h', toks := s.toks } := by
  have other : ∀ {b : Addr} {q : HO}, H b = some q → upd H a o b = some q := fun e => by
    rw [upd_ne (ne_of_none e hn)]
    exact e
  refine I.un (H' := upd H a o) ?_ ?_
  · constructor
    · exact fun b u q _ _ _ => k b u q
    · exact fun b u q _ _ _ => ⟨_, k b u q⟩
    · intro b u q n _
      rw [upd_ne (fun z => by rw [z, nw] at q; cases q)]
      exact n
    · exact fun b u q _ => ⟨_, k b u q⟩
    · exact fun _ _ q => other q
    · exact fun _ _ _ q => other q
    · exact fun _ ps q => ⟨#[], by rw [other q]; simp⟩
  · intro b u e
    by_cases z : b = a
    · subst z
      cases upd_same.symm.trans e
      exact new
    · rw [upd_ne z] at e
      exact (I.hok b u e).stay (fun c v _ q => k c v q) (fun _ q => other q) fun _ _ q => other q
def tErr0 (C : Addr) : TE := fun σ H Q => ∀ a, H a = none → Q (.ref a) (upd H a (exo a C none))
theorem pe_err0 {C : Addr} {x : Str} {p pos : Pos} (c : Ec X.K X.mg x C) (hg : Gl X x) (hdb : (x == ("__debug__" : Str)) = false := by decide) : PE X (.Call (.Name x p) [] [] pos) (tErr0 C) := by
  constructor
  intro pins s σ H Q I h
  refine wpAny_Call_Name_kw (ld_glob I hg c.gC ?_ hdb)
  refine PySem.W.callWith_K0 I.kIn c.kC ?_
  show wpAny _ _ (call (.ref C) []) _ _ _
  obtain ⟨bm, N, nm, qn, bs, hdct, sn, sub, ab, col, dd, k0, k1, k2, k3, k5, mN, hC, hN, hni, T⟩ := exc_obj I.kIn c.xC
  refine wpAny_call_exc_subT PySem.F.excBase_ValueError T hC hN hni (fun h' e made => ?_) (by decide)
  have gone : H e = none := I.hok.gone made.new
  obtain ⟨t, he, _, _⟩ := made.there
  exact ⟨.ref e, upd H e (exo e C none), laid_free I made.keeps made.new gone (exo_ok he), rfl, h e gone⟩
def tErr1 (C : Addr) (fld : Str) (ta : TA) : TE := fun σ H Q => ta σ H fun vs H1 => ∃ v, vs = [v] ∧ ∀ a d, H1 a = none → H1 d = none → d ≠ a → Q (.ref a) (upd (upd H1 d (exd d [(fld, v)])) a (exo a C (some d)))
theorem pe_err1 {x fld : Str} {C : Addr} {e : Expr} {ta : TA} {p pos : Pos} (c : Ef X.prog X.w X.K X.mg X.base x fld C) (hr : Room 2 X.A) (hg : Gl X x) (ha : PA X [e] ta) (hdb : (x == ("__debug__" : Str)) = false := by decide)
    (he : starEach [e] X.env = (false, eval e X.env) :: starEach [] X.env := by rfl) (hpl : (backTo pos (starEach [] X.env)).any (·.1) = false := by rfl) : PE X (.Call (.Name x p) [e] [] pos) (tErr1 C fld ta) := by
  obtain ⟨fI, fd, iC, tI, F1, hb⟩ := c.ini
  constructor
  intro pins s σ H Q I h
  obtain ⟨nm, q, N, bs, bm, sn, sub, ab, col, dd, k0, k1, k2, k3, k5, hC, hbm⟩ := c.T.cls
  refine wpAny_Call_Name_kw (ld_glob I hg c.gC ?_ hdb)
  refine PySem.W.callWith_K (h₀ := X.base) I.ok.mod.kin c.T.kC (thn (ha.run pos pins s σ H _ I h) ?_) he hpl
  rintro us ⟨hp, g, dr, tk, os⟩ ⟨_, H1, I1, r1, v, rfl, asks⟩
  refine ⟨I1.kIn, ?_⟩
  show wpAny _ _ (call (.ref C) us) _ _ _
  have far : hp.objs.size ≤ hp.objs.size + 1 := Nat.le_succ _
  have free : H1 (hp.objs.size + 1) = none := I1.hok.fresh far
  have keep : ∀ b o, hp.get? b = some o → ((hp.push (PySem.W.kdv_tup us)).push (PySem.HandSPX.excO C hp.objs.size)).get? b = some o := fun _ _ e => Heap.get?_push_of_some _ (Heap.get?_push_of_some _ e)
  have there : ((hp.push (PySem.W.kdv_tup us)).push (PySem.HandSPX.excO C hp.objs.size)).get? (hp.objs.size + 1) = some (PySem.HandSPX.excO C hp.objs.size) := by heap_get
  have I2 := I1.laid (t' := tk) (o := exo (hp.objs.size + 1) C none) keep far (exo_ok there)
  have rel : Vals [V.ref (hp.objs.size + 1), v] (Value.ref (hp.objs.size + 1) :: us) := .cons rfl r1
  have cnt : us.length = 1 := (Paired.length r1).symm
  have two : (Value.ref (hp.objs.size + 1) :: us).length = (["self", fld] : List Str).length := congrArg (· + 1) cnt
  have promise : spFld C fld [V.ref (hp.objs.size + 1), v] (upd H1 (hp.objs.size + 1) (exo (hp.objs.size + 1) C none)) (fun y G => y = .non ∧ Q (.ref (hp.objs.size + 1)) G) (fun _ _ _ => False) := by
    refine ⟨_, _, rfl, upd_same, fun dx nd ne => ?_⟩
    rw [upd_ne ne] at nd
    have e : upd (upd (upd H1 (hp.objs.size + 1) (exo (hp.objs.size + 1) C none)) dx (exd dx [(fld, v)])) (hp.objs.size + 1) (exo (hp.objs.size + 1) C (some dx)) = upd (upd H1 dx (exd dx [(fld, v)])) (hp.objs.size + 1) (exo (hp.objs.size + 1) C (some dx)) := by
      funext b
      by_cases z : b = hp.objs.size + 1
      · rw [z, upd_same, upd_same]
      · rw [upd_ne z, upd_ne z]
        by_cases z2 : b = dx
        · rw [z2, upd_same, upd_same]
        · rw [upd_ne z2, upd_ne z2, upd_ne z]
    rw [e]
    exact ⟨rfl, asks _ dx free nd ne⟩
  refine wpAny_call (PySem.HandSPX.call_own PySem.F.excBase_ValueError (fun Y => PySem.HandSPX.refsVE_contains Y bm hbm) (I1.kIn _ _ hC) (PySem.W.looks_findIn I1.kIn iC) (fun self => PySem.W.bind_fn I1.kIn self tI) (by rw [cnt]; decide) ?_)
  have run := F1.run _ X.stack _ _ ⟨Value.ref (hp.objs.size + 1) :: us, []⟩ _ _ _ _ ((hr.mono (by decide : 1 + 1 ≤ 2)).make C us []) (I2.env0.make C us []) (hb _ _ I2.kIn (by rw [List.append_nil]; exact two)) (by rw [List.append_nil]; exact rel) promise
  refine codeAny_mono run ?_
  intro r s' z
  cases r with
  | error er => exact z.elim
  | ok fl =>
    cases fl with
    | ret u =>
      obtain ⟨_, G, J, rv, hy, hq⟩ := I2.after (show CE _ _ _ _ _ _ u s' from z)
      subst hy
      exact ⟨rv, .ref _, G, J, rfl, hq⟩
    | next => exact z.elim
    | brk => exact z.elim
    | cont => exact z.elim
def tErrF (K : PySem.W.Frag) (fld : Str) (te : TE) : TE := fun σ H Q => te σ H fun x H1 => ∃ (a C d : Addr) (fs : List (Str × V)) (v : V), x = .ref a ∧ XfC K C ∧ PySem.W.findIn K (.ref C) fld = some none ∧ H1 a = some (exo a C (some d)) ∧ H1 d = some (exd d fs) ∧ fs.lookup fld = some v ∧ Q v H1
theorem pe_errF {e : Expr} {te : TE} {fld : Str} {pos : Pos} (he : PE X e te) (hb : attributeBase e fld X.env (eval e X.env) = eval e X.env := by rfl) : PE X (.Attribute e fld pos) (tErrF X.K fld te) := by
  constructor
  intro pins s σ H Q I h
  refine attr_of hb (thn (he.run pins s σ H _ I h) ?_)
  rintro u s1 ⟨_, H1, I1, rx, a, C, d, fs, v, rfl, T, no, hE, hd, look, q⟩
  obtain rfl : u = Value.ref a := rx
  obtain ⟨t1, eo⟩ := exo_at I1.hok hE
  obtain ⟨mA, ns, rel⟩ := exd_at I1.hok hd
  obtain ⟨od, ho, hl⟩ := lookIn_ns ns
  obtain ⟨u, hu, ru⟩ := RelO.some_of (v := v) (o := mA fld) (by rw [← look]; exact rel fld)
  have J : PySem.W.InstAt s1.heap a _ C (some od) := ⟨eo, rfl, rfl, ho⟩
  exact HandSPX.exc_get I1.kIn J T.ga T.gg T.exC (PySem.W.findObj_own T.hdC no rfl (by rw [hl, hu])) (handed_of ru) ⟨v, H1, I1.tok _, ru, q⟩
def ErrAt (H : Hp) (a C : Addr) : Prop := H a = some (exo a C none) ∨ ∃ d fs, H a = some (exo a C (some d)) ∧ H d = some (exd d fs)
def rIsX (K : PySem.W.Frag) : List V → Hp → VK → Prop := fun xs H Q => ∃ (a C : Addr) (c : V) (cv : Value) (b : Bool), xs = [.ref a, c] ∧ ExcC K C ∧ ErrAt H a C ∧ (∀ u, RelV c u → u = cv) ∧ PySem.W.kitOne K (.ref C) cv = some b ∧ Q (.bl b) H
theorem call_isX : CallR X (.builtin "isinstance") (rIsX X.K) := by
  intro pins s σ H xs us Q I r h
  obtain ⟨a, C, c, cv, b, rfl, T, hE, only, kit, q⟩ := h
  obtain ⟨u1, u2, rfl, r1, r2⟩ := vals2 r
  obtain rfl : u1 = Value.ref a := r1
  have ec := only _ r2
  subst ec
  have clsC : (PySem.W.clsIn X.K C).isSome = true := by
    obtain ⟨cd, hcd, _⟩ := PySem.W.any_some T.hd
    rw [hcd]
    rfl
  have main : ∀ (ox : Obj) (od : Option Obj), PySem.W.InstAt s.heap a ox C od → wpAny (model X.prog X.w) X.A (call (.builtin "isinstance") [.ref a, u2]) (EP X pins σ Q) X.xe s := fun ox od J =>
    PySem.W.kia_one (PySem.W.kitx_exc clsC T.hg T.hk T.hs T.ha T.hn T.ht T.hm) I.kIn J kit (fun z => nomatch z) fun tk => ⟨.bl b, H, I.tok tk, rfl, q⟩
  rcases hE with hE | ⟨d, fs, hE, hd⟩
  · obtain ⟨t1, eo⟩ := exo_at I.hok hE
    exact main _ none ⟨eo, rfl, rfl, trivial⟩
  · obtain ⟨t1, eo⟩ := exo_at I.hok hE
    obtain ⟨mA, ns, rel⟩ := exd_at I.hok hd
    obtain ⟨od, ho, hl⟩ := lookIn_ns ns
    exact main _ (some od) ⟨eo, rfl, rfl, ho⟩
theorem cr_reprA : CallR X (.builtin "repr") (fun xs H Q => (∃ i, xs = [.int i] ∧ i.natAbs.log2 < 1920 ∧ Q (.str (toString i)) H) ∨ ∃ x, xs = [.str x] ∧ (reprText x).length ≤ sizeLine ∧ Q (.str (reprText x)) H) := by
  intro pins s σ H xs us Q I r h
  rcases h with ⟨i, rfl, hz, q⟩ | ⟨x, rfl, hz, q⟩
  · obtain ⟨u, rfl, t, rfl⟩ := vals1 r
    exact PySem.P.repr_of_int hz ⟨.str _, H, I.tok _, ⟨_, rfl⟩, q⟩
  · obtain ⟨u, rfl, t, rfl⟩ := vals1 r
    exact PySem.P.repr_of_str ⟨.str _, H, I.tok _, ⟨_, rfl⟩, q⟩ hz
theorem ErrAt.same {H H' : Hp} {a C : Addr} (h : ErrAt H a C) (e : Same H H') : ErrAt H' a C := by
  rcases h with h | ⟨d, fs, h1, h2⟩
  · exact .inl (e _ _ h)
  · exact .inr ⟨d, fs, e _ _ h1, e _ _ h2⟩
end
structure Kin (K : PySem.W.Frag) (cT : Addr) (cs : List Addr) (C : Addr) (bs : List Bool) : Prop where
  ex : ExcC K C
  row : Paired (fun D b => PySem.W.kitOne K (.ref C) (.ref D) = some b) cs bs
  one : (bs.filter id).length = 1
  kT : PySem.W.kitOne K (.ref C) (.ref cT) = some true
  kV : PySem.W.kitOne K (.ref C) (.type "ValueError") = some true
theorem row11 {F : Addr → Bool → Prop} {c1 c2 c3 c4 c5 c6 c7 c8 c9 c10 c11 : Addr} {bs : List Bool} (h : Paired F [c1, c2, c3, c4, c5, c6, c7, c8, c9, c10, c11] bs) :
    ∃ b1 b2 b3 b4 b5 b6 b7 b8 b9 b10 b11, bs = [b1, b2, b3, b4, b5, b6, b7, b8, b9, b10, b11] ∧ F c1 b1 ∧ F c2 b2 ∧ F c3 b3 ∧ F c4 b4 ∧ F c5 b5 ∧ F c6 b6 ∧ F c7 b7 ∧ F c8 b8 ∧ F c9 b9 ∧ F c10 b10 ∧ F c11 b11 :=
  match bs, h with
  | _, .cons h1 (.cons h2 (.cons h3 (.cons h4 (.cons h5 (.cons h6 (.cons h7 (.cons h8 (.cons h9 (.cons h10 (.cons h11 .nil)))))))))) => ⟨_, _, _, _, _, _, _, _, _, _, _, rfl, h1, h2, h3, h4, h5, h6, h7, h8, h9, h10, h11⟩
def Good (x : Str) : Prop := (reprText x).length ≤ sizeLine ∧ x.cps.all (· < 0x110000) = true
theorem dp_strs {K : PySem.W.Frag} {H : Hp} : ∀ xs : List Str, DpAll K H (xs.map V.str) (xs.map .str)
  | [] => .nil
  | x :: r => .cons (.str x) (dp_strs r)
theorem okD_strs (n : Nat) {xs : List Str} (h : ∀ x ∈ xs, Good x) : ∀ d ∈ xs.map PyData.str, okD n d := fun d hd => by
  obtain ⟨x, hx, rfl⟩ := List.mem_map.mp hd
  exact okD_str (h x hx).2
def ItemAt (H : Hp) (t C : Addr) (fld : Str) (v : V) : Prop := ∃ e d, H t = some (.tup [.ref e, v, v, .bl true]) ∧ H e = some (exo e C (some d)) ∧ H d = some (exd d [(fld, v)])
theorem ItemAt.same {H H' : Hp} {t C : Addr} {fld : Str} {v : V} (h : ItemAt H t C fld v) (s : Same H H') : ItemAt H' t C fld v := by
  obtain ⟨e, d, h1, h2, h3⟩ := h
  exact ⟨e, d, s _ _ h1, s _ _ h2, s _ _ h3⟩
end Dg
namespace Cl
open PySem PySem.Spec PyProof.Rows L2
inductive A where
  | non | bl (b : Bool) | int (i : Int) | str (x : Str)
  | tup (xs : List A) | lst (xs : List A) | dct (kvs : List (A × A)) | obj (C : Str) (fs : List (Str × A))
  | fn (x : Str) | ref (n : Nat) | scr (xs : List A)
  deriving Inhabited
inductive AO where
  | lst (xs : List A) | dct (kvs : List (A × A)) | ins (C : Str) (fs : List (Str × A))
  deriving Inhabited
abbrev AH := List (Option AO)
abbrev Env := List (Option A)
inductive R (β : Type) where
  | ok (b : β) (h : AH) | er (c : Str) (d : Option (Str × A)) (h : AH) | bad
def R.bind {β γ : Type} (r : R β) (f : β → AH → R γ) : R γ := match r with
  | .ok b h => f b h
  | .er c d h => .er c d h
  | .bad => .bad
structure Al where
  l : List Addr
  z : List Addr
def Al.push (α : Al) (p : Addr) : Al := ⟨α.l ++ [p], α.z⟩
def keyA : Key → A
  | .inl i => .int i
  | .inr x => .str x
section
variable (K : PySem.W.Frag) (mg : Str → Option Value) (α : Al) (L : Addr → Prop) (H : Hp)
def TupAt (p : Addr) (vs : List V) : Prop := (Rd H p (.tup vs) ∧ ¬ L p) ∨
  ∃ (o : Obj) (its : Array Value) (n : Nat), K.lookup p = some o ∧ o.cls = .type "tuple" ∧ o.data = .seq its n ∧ its.size ≤ sizeLine ∧ Vals vs its.toList
def ScrAt (p : Addr) (vs : List V) : Prop := (Rd H p (.lst vs) ∧ ¬ L p) ∨
  ∃ (o : Obj) (its : Array Value) (n : Nat), K.lookup p = some o ∧ o.cls = .type "list" ∧ o.dict = none ∧ o.data = .seq its n ∧ its.size ≤ sizeLine ∧ Vals vs its.toList
mutual
inductive RA : V → A → Prop
  | non : RA .non .non
  | bl (b : Bool) : RA (.bl b) (.bl b)
  | int (i : Int) : RA (.int i) (.int i)
  | str (x : Str) : RA (.str x) (.str x)
  | tup {p : Addr} {vs : List V} {xs : List A} : TupAt K L H p vs → RAs vs xs → RA (.ref p) (.tup xs)
  | lst {p : Addr} {vs : List V} {xs : List A} : H p = some (.lst vs) → ¬ L p → RAs vs xs → RA (.ref p) (.lst xs)
  | scr {p : Addr} {vs : List V} {xs : List A} : ScrAt K L H p vs → RAs vs xs → RA (.ref p) (.scr xs)
  | dct {p : Addr} {kvs : List (Key × V)} {xs : List (A × A)} : Rd H p (.dK kvs) → ¬ L p → RKs kvs xs → RA (.ref p) (.dct xs)
  | obj {p c dx : Addr} {C : Str} {fs : List (Str × V)} {xs : List (Str × A)} : H p = some (.ins c dx fs) → ¬ L p → mg C = some (.ref c) → RFs fs xs → RA (.ref p) (.obj C xs)
  | fn {x : Str} {f : Addr} : mg x = some (.ref f) → RA (.ref f) (.fn x)
  | ref {n : Nat} {p : Addr} : α.l[n]? = some p → RA (.ref p) (.ref n)
inductive RAs : List V → List A → Prop
  | nil : RAs [] []
  | cons {v : V} {a : A} {vs : List V} {xs : List A} : RA v a → RAs vs xs → RAs (v :: vs) (a :: xs)
inductive RKs : List (Key × V) → List (A × A) → Prop
  | nil : RKs [] []
  | cons {k : Key} {v : V} {a : A} {vs : List (Key × V)} {xs : List (A × A)} : RA v a → RKs vs xs → RKs ((k, v) :: vs) ((keyA k, a) :: xs)
inductive RFs : List (Str × V) → List (Str × A) → Prop
  | nil : RFs [] []
  | cons {k : Str} {v : V} {a : A} {vs : List (Str × V)} {xs : List (Str × A)} : RA v a → RFs vs xs → RFs ((k, v) :: vs) ((k, a) :: xs)
end
end
section
variable {K : PySem.W.Frag} {mg : Str → Option Value} {α α' : Al} {L L' : Addr → Prop} {H H' : Hp}
structure Kp (α : Al) (L : Addr → Prop) (H : Hp) (α' : Al) (L' : Addr → Prop) (H' : Hp) : Prop where
  pre : ∀ (n : Nat) (p : Addr), α.l[n]? = some p → α'.l[n]? = some p
  tup : ∀ p vs, Rd H p (.tup vs) → ¬ L p → Rd H' p (.tup vs)
  lst : ∀ p vs, H p = some (.lst vs) → ¬ L p → H' p = some (.lst vs)
  scr : ∀ p vs, Rd H p (.lst vs) → ¬ L p → Rd H' p (.lst vs)
  dct : ∀ p vs, Rd H p (.dK vs) → ¬ L p → Rd H' p (.dK vs)
  ins : ∀ p c d vs, H p = some (.ins c d vs) → ¬ L p → H' p = some (.ins c d vs)
  liv : ∀ p o, H p = some o → ¬ L p → ¬ L' p
  all : ∀ p o, H p = some o → ¬ L p → ∃ u, H' p = some u
theorem rd_some {H : Hp} {p : Addr} {u : HO} (h : Rd H p u) : ∃ o, H p = some o := by
  rcases h with h | ⟨o, h⟩
  · exact ⟨_, h⟩
  · exact ⟨_, h⟩
theorem Kp.scrAt (k : Kp α L H α' L' H') {p : Addr} {vs : List V} (h : ScrAt K L H p vs) : ScrAt K L' H' p vs := by
  rcases h with ⟨h, n⟩ | h
  · obtain ⟨o, e⟩ := rd_some h
    exact .inl ⟨k.scr p vs h n, k.liv p o e n⟩
  · exact .inr h
theorem ScrAt.sq {p : Addr} {vs : List V} (h : ScrAt K L H p vs) : SqL K H p vs := by
  rcases h with ⟨h, _⟩ | h
  · exact .inl h
  · exact .inr h
theorem Kp.tupAt (k : Kp α L H α' L' H') {p : Addr} {vs : List V} (h : TupAt K L H p vs) : TupAt K L' H' p vs := by
  rcases h with ⟨h, n⟩ | h
  · obtain ⟨o, e⟩ := rd_some h
    exact .inl ⟨k.tup p vs h n, k.liv p o e n⟩
  · exact .inr h
mutual
theorem RA.step (k : Kp α L H α' L' H') : ∀ {v : V} {a : A}, RA K mg α L H v a → RA K mg α' L' H' v a
  | _, _, .non => .non
  | _, _, .bl b => .bl b
  | _, _, .int i => .int i
  | _, _, .str x => .str x
  | _, _, .tup h r => .tup (k.tupAt h) (r.step k)
  | _, _, .lst h n r => .lst (k.lst _ _ h n) (k.liv _ _ h n) (r.step k)
  | _, _, .scr h r => .scr (k.scrAt h) (r.step k)
  | _, _, .dct h n r => .dct (k.dct _ _ h n) (let ⟨_, e⟩ := rd_some h; k.liv _ _ e n) (r.step k)
  | _, _, .obj h n e r => .obj (k.ins _ _ _ _ h n) (k.liv _ _ h n) e (r.step k)
  | _, _, .fn e => .fn e
  | _, _, .ref e => .ref (k.pre _ _ e)
theorem RAs.step (k : Kp α L H α' L' H') : ∀ {vs : List V} {xs : List A}, RAs K mg α L H vs xs → RAs K mg α' L' H' vs xs
  | _, _, .nil => .nil
  | _, _, .cons r s => .cons (r.step k) (s.step k)
theorem RKs.step (k : Kp α L H α' L' H') : ∀ {vs : List (Key × V)} {xs : List (A × A)}, RKs K mg α L H vs xs → RKs K mg α' L' H' vs xs
  | _, _, .nil => .nil
  | _, _, .cons r s => .cons (r.step k) (s.step k)
theorem RFs.step (k : Kp α L H α' L' H') : ∀ {vs : List (Str × V)} {xs : List (Str × A)}, RFs K mg α L H vs xs → RFs K mg α' L' H' vs xs
  | _, _, .nil => .nil
  | _, _, .cons r s => .cons (r.step k) (s.step k)
end
end
end Cl
namespace Cl
open PySem PySem.Spec PyProof.Rows L2
def Live (α : Al) (h : AH) (p : Addr) : Prop := ∃ (n : Nat) (o : AO), α.l[n]? = some p ∧ h[n]? = some (some o)
def Lv (α : Al) (h : AH) (p : Addr) : Prop := p ∈ α.z ∨ Live α h p
section
variable (K : PySem.W.Frag) (mg : Str → Option Value) (α : Al) (L : Addr → Prop) (H : Hp)
inductive OA (p : Addr) : AO → Prop
  | lst {vs : List V} {xs : List A} : H p = some (.lst vs) → RAs K mg α L H vs xs → OA p (.lst xs)
  | dct {kvs : List (Key × V)} {xs : List (A × A)} : H p = some (.dK kvs) → RKs K mg α L H kvs xs → OA p (.dct xs)
  | ins {c dx : Addr} {C : Str} {fs : List (Str × V)} {xs : List (Str × A)} : H p = some (.ins c dx fs) → mg C = some (.ref c) → RFs K mg α L H fs xs → OA p (.ins C xs)
end
structure Rel (K : PySem.W.Frag) (mg : Str → Option Value) (α : Al) (h : AH) (H : Hp) : Prop where
  len : α.l.length = h.length
  nd : α.l.Nodup
  has : ∀ p ∈ α.l, ∃ o, H p = some o
  zs : ∀ p ∈ α.z, ¬ Live α h p ∧ ∃ o, H p = some o
  at_ : ∀ (n : Nat) (o : AO), h[n]? = some (some o) → ∃ p, α.l[n]? = some p ∧ OA K mg α (Lv α h) H p o
structure Stp (α : Al) (h : AH) (H : Hp) (α' : Al) (h' : AH) (H' : Hp) : Prop where
  pre : ∀ (n : Nat) (p : Addr), α.l[n]? = some p → α'.l[n]? = some p
  zeq : α'.z = α.z
  keep : ∀ p o, H p = some o → ¬ Live α h p → H' p = some o
  liv : ∀ p, Live α' h' p → Live α h p ∨ H p = none
  new : ∀ p, p ∈ α'.l → p ∈ α.l ∨ H p = none
section
variable {K : PySem.W.Frag} {mg : Str → Option Value} {α α' α'' : Al} {h h' h'' : AH} {H H' H'' : Hp} {p : Addr}
theorem nlv {q : Addr} (n : ¬ Lv α h q) : ¬ Live α h q := fun l => n (.inr l)
theorem Stp.refl : Stp α h H α h H := ⟨fun _ _ e => e, rfl, fun _ _ e _ => e, fun _ l => .inl l, fun _ l => .inl l⟩
theorem Stp.nliv (s : Stp α h H α' h' H') {q : Addr} {o : HO} (e : H q = some o) (n : ¬ Live α h q) : ¬ Live α' h' q := fun l => by
  rcases s.liv q l with z | z
  · exact n z
  · rw [e] at z; cases z
theorem Stp.nlv (s : Stp α h H α' h' H') {q : Addr} {o : HO} (e : H q = some o) (n : ¬ Lv α h q) : ¬ Lv α' h' q := fun l => by
  rcases l with z | z
  · exact n (.inl (s.zeq ▸ z))
  · exact s.nliv e (fun y => n (.inr y)) z
theorem Stp.kp (s : Stp α h H α' h' H') : Kp α (Lv α h) H α' (Lv α' h') H' where
  pre := s.pre
  tup := fun q vs r n => by
    rcases r with e | ⟨o, e⟩
    · exact .inl (s.keep _ _ e (Cl.nlv n))
    · exact .inr ⟨o, s.keep _ _ e (Cl.nlv n)⟩
  lst := fun q vs e n => s.keep _ _ e (Cl.nlv n)
  scr := fun q vs r n => by
    rcases r with e | ⟨o, e⟩
    · exact .inl (s.keep _ _ e (Cl.nlv n))
    · exact .inr ⟨o, s.keep _ _ e (Cl.nlv n)⟩
  dct := fun q vs r n => by
    rcases r with e | ⟨o, e⟩
    · exact .inl (s.keep _ _ e (Cl.nlv n))
    · exact .inr ⟨o, s.keep _ _ e (Cl.nlv n)⟩
  ins := fun q c d vs e n => s.keep _ _ e (Cl.nlv n)
  liv := fun q o e n => s.nlv e n
  all := fun q o e n => ⟨o, s.keep _ _ e (Cl.nlv n)⟩
theorem Kp.trans {L L' L'' : Addr → Prop} (a : Kp α L H α' L' H') (b : Kp α' L' H' α'' L'' H'') : Kp α L H α'' L'' H'' where
  pre := fun n q e => b.pre n q (a.pre n q e)
  tup := fun q vs r n => b.tup q vs (a.tup q vs r n) (let ⟨_, e⟩ := rd_some r; a.liv q _ e n)
  lst := fun q vs r n => b.lst q vs (a.lst q vs r n) (a.liv q _ r n)
  scr := fun q vs r n => b.scr q vs (a.scr q vs r n) (let ⟨_, e⟩ := rd_some r; a.liv q _ e n)
  dct := fun q vs r n => b.dct q vs (a.dct q vs r n) (let ⟨_, e⟩ := rd_some r; a.liv q _ e n)
  ins := fun q c d vs r n => b.ins q c d vs (a.ins q c d vs r n) (a.liv q _ r n)
  liv := fun q o r n => by
    obtain ⟨u, e⟩ := a.all q o r n
    exact b.liv q u e (a.liv q o r n)
  all := fun q o r n => by
    obtain ⟨u, e⟩ := a.all q o r n
    exact b.all q u e (a.liv q o r n)
theorem Stp.trans (a : Stp α h H α' h' H') (b : Stp α' h' H' α'' h'' H'') : Stp α h H α'' h'' H'' where
  pre := fun n q e => b.pre n q (a.pre n q e)
  zeq := b.zeq.trans a.zeq
  keep := fun q o e n => b.keep q o (a.keep q o e n) (a.nliv e n)
  liv := fun q l => by
    rcases b.liv q l with z | z
    · exact a.liv q z
    · cases e : H q with
      | none => exact .inr rfl
      | some o =>
        by_cases m : Live α h q
        · exact .inl m
        · rw [a.keep q o e m] at z; cases z
  new := fun q l => by
    rcases b.new q l with z | z
    · exact a.new q z
    · cases e : H q with
      | none => exact .inr rfl
      | some o =>
        by_cases m : Live α h q
        · obtain ⟨n, _, y, _⟩ := m
          exact .inl (List.mem_of_getElem? y)
        · rw [a.keep q o e m] at z; cases z
theorem OA.has_ (o : OA K mg α L H p ao) : ∃ u, H p = some u := by
  cases o with
  | lst e _ => exact ⟨_, e⟩
  | dct e _ => exact ⟨_, e⟩
  | ins e _ _ => exact ⟨_, e⟩
theorem Rel.live_some (r : Rel K mg α h H) {q : Addr} (l : Live α h q) : ∃ u, H q = some u := by
  obtain ⟨n, o, e, _⟩ := l
  exact r.has q (List.mem_of_getElem? e)
theorem Rel.nlive (r : Rel K mg α h H) {q : Addr} (e : H q = none) : ¬ Live α h q := fun l => by
  obtain ⟨u, z⟩ := r.live_some l
  rw [e] at z; cases z
theorem Rel.nlv (r : Rel K mg α h H) {q : Addr} (e : H q = none) : ¬ Lv α h q := fun l => by
  rcases l with z | z
  · obtain ⟨_, u, y⟩ := r.zs q z
    rw [e] at y; cases y
  · exact r.nlive e z
theorem Rel.nmem (r : Rel K mg α h H) {q : Addr} (e : H q = none) : q ∉ α.l := fun l => by
  obtain ⟨u, z⟩ := r.has q l
  rw [e] at z; cases z
theorem Rel.obj (r : Rel K mg α h H) {n : Nat} {o : AO} (e : h[n]? = some (some o)) (ep : α.l[n]? = some p) : OA K mg α (Lv α h) H p o := by
  obtain ⟨q, e1, oa⟩ := r.at_ n o e
  rw [ep] at e1
  cases e1
  exact oa
theorem live_of {n : Nat} {o : AO} (ep : α.l[n]? = some p) (e : h[n]? = some (some o)) : Live α h p := ⟨n, o, ep, e⟩
theorem Rel.uniq (r : Rel K mg α h H) {n m : Nat} (e : α.l[n]? = some p) (e' : α.l[m]? = some p) : n = m := by
  obtain ⟨l1, e1⟩ := List.getElem?_eq_some_iff.mp e
  obtain ⟨l2, e2⟩ := List.getElem?_eq_some_iff.mp e'
  exact (List.getElem_inj (i := n) (j := m) (h₀ := l1) (h₁ := l2) r.nd).mp (e1.trans e2.symm)
theorem OA.step {L L' : Addr → Prop} {o : AO} (k : Kp α L H α' L' H') (same : ∀ u, H p = some u → H' p = some u) (x : OA K mg α L H p o) : OA K mg α' L' H' p o := by
  cases x with
  | lst e r => exact .lst (same _ e) (r.step k)
  | dct e r => exact .dct (same _ e) (r.step k)
  | ins e m r => exact .ins (same _ e) m (r.step k)
theorem Rel.alloc (r : Rel K mg α h H) (n : H p = none) (o : HO) : Rel K mg α h (upd H p o) ∧ Stp α h H α h (upd H p o) ∧ ¬ Lv α h p := by
  have st : Stp α h H α h (upd H p o) := ⟨fun _ _ e => e, rfl, fun q u e _ => by rw [upd_ne (ne_of_none e n)]; exact e, fun _ l => .inl l, fun _ l => .inl l⟩
  refine ⟨⟨r.len, r.nd, fun q hq => ?_, fun q hq => ?_, fun m ao e => ?_⟩, st, r.nlv n⟩
  · obtain ⟨u, z⟩ := r.has q hq
    exact ⟨u, by rw [upd_ne (ne_of_none z n)]; exact z⟩
  · obtain ⟨y, u, z⟩ := r.zs q hq
    exact ⟨y, u, by rw [upd_ne (ne_of_none z n)]; exact z⟩
  · obtain ⟨q, eq, oa⟩ := r.at_ m ao e
    exact ⟨q, eq, oa.step st.kp fun u z => by rw [upd_ne (ne_of_none z n)]; exact z⟩
theorem get_push_lt {β : Type} {l : List β} {x : β} {n : Nat} {y : β} (e : l[n]? = some y) : (l ++ [x])[n]? = some y := by
  obtain ⟨hl, _⟩ := List.getElem?_eq_some_iff.mp e
  rw [List.getElem?_append_left hl]
  exact e
theorem get_push {β : Type} {l : List β} {x : β} {n : Nat} {y : β} (e : (l ++ [x])[n]? = some y) : l[n]? = some y ∨ (n = l.length ∧ y = x) := by
  by_cases hl : n < l.length
  · rw [List.getElem?_append_left hl] at e
    exact .inl e
  · rw [List.getElem?_append_right (Nat.le_of_not_lt hl)] at e
    have : n - l.length = 0 := by
      obtain ⟨z, _⟩ := List.getElem?_eq_some_iff.mp e
      simp at z
      omega
    rw [this] at e
    exact .inr ⟨by omega, (Option.some.inj e).symm⟩
theorem get_len {β : Type} {l : List β} {x : β} : (l ++ [x])[l.length]? = some x := by
  rw [List.getElem?_append_right (Nat.le_refl _), Nat.sub_self]
  rfl
theorem live_push (hl : α.l.length = h.length) {ao : AO} {q : Addr} : Live (α.push p) (h ++ [some ao]) q ↔ Live α h q ∨ q = p := by
  constructor
  · rintro ⟨n, o, e1, e2⟩
    rcases get_push e1 with a | ⟨a, b⟩
    · rcases get_push e2 with c | ⟨c, d⟩
      · exact .inl ⟨n, o, a, c⟩
      · obtain ⟨z, _⟩ := List.getElem?_eq_some_iff.mp a
        omega
    · exact .inr b
  · rintro (⟨n, o, e1, e2⟩ | rfl)
    · exact ⟨n, o, get_push_lt e1, get_push_lt e2⟩
    · exact ⟨α.l.length, ao, get_len, by rw [hl]; exact get_len⟩
theorem Rel.push (r : Rel K mg α h H) (n : H p = none) (o : HO) (ao : AO) (oa : OA K mg (α.push p) (Lv (α.push p) (h ++ [some ao])) (upd H p o) p ao) :
    Rel K mg (α.push p) (h ++ [some ao]) (upd H p o) := by
  have hk : Kp α (Lv α h) H (α.push p) (Lv (α.push p) (h ++ [some ao])) (upd H p o) := (Stp.kp ⟨fun _ _ e => get_push_lt e, rfl, fun q u e _ => by rw [upd_ne (ne_of_none e n)]; exact e, fun q l => by
      rcases (live_push r.len).mp l with z | z
      · exact .inl z
      · exact .inr (z ▸ n), fun q l => by
      rcases List.mem_append.mp l with z | z
      · exact .inl z
      · have : q = p := by simpa using z
        exact .inr (this ▸ n)⟩)
  refine ⟨by simp [Al.push, r.len], List.nodup_append.mpr ⟨r.nd, by simp, fun a ha b hb => ?_⟩, fun q hq => ?_, fun q hq => ?_, fun m u e => ?_⟩
  · have : b = p := by simpa using hb
    rw [this]
    rintro rfl
    exact r.nmem n ha
  · rcases List.mem_append.mp hq with z | z
    · obtain ⟨u, z⟩ := r.has q z
      exact ⟨u, by rw [upd_ne (ne_of_none z n)]; exact z⟩
    · have : q = p := by simpa using z
      exact ⟨o, by rw [this]; exact upd_same⟩
  · obtain ⟨y, u, z⟩ := r.zs q hq
    refine ⟨fun hm => ?_, u, by rw [upd_ne (ne_of_none z n)]; exact z⟩
    rcases (live_push r.len).mp hm with w | w
    · exact y w
    · rw [w, n] at z
      cases z
  · rcases get_push e with z | ⟨z, z'⟩
    · obtain ⟨q, eq, x⟩ := r.at_ m u z
      exact ⟨q, get_push_lt eq, x.step hk fun v y => by rw [upd_ne (ne_of_none y n)]; exact y⟩
    · cases z'
      exact ⟨p, by rw [z, ← r.len]; exact get_len, oa⟩
theorem Rel.push_stp (r : Rel K mg α h H) (n : H p = none) (o : HO) (ao : AO) : Stp α h H (α.push p) (h ++ [some ao]) (upd H p o) :=
  ⟨fun _ _ e => get_push_lt e, rfl, fun q u e _ => by rw [upd_ne (ne_of_none e n)]; exact e, fun q l => by
      rcases (live_push r.len).mp l with z | z
      · exact .inl z
      · exact .inr (z ▸ n), fun q l => by
      rcases List.mem_append.mp l with z | z
      · exact .inl z
      · have : q = p := by simpa using z
        exact .inr (this ▸ n)⟩
theorem live_set {n : Nat} {o ao : AO} (e : h[n]? = some (some o)) {q : Addr} : Live α (h.set n (some ao)) q ↔ Live α h q := by
  constructor
  · rintro ⟨m, u, e1, e2⟩
    by_cases hm : n = m
    · subst hm
      exact ⟨n, o, e1, e⟩
    · rw [List.getElem?_set_ne hm] at e2
      exact ⟨m, u, e1, e2⟩
  · rintro ⟨m, u, e1, e2⟩
    by_cases hm : n = m
    · subst hm
      obtain ⟨hl, _⟩ := List.getElem?_eq_some_iff.mp e
      exact ⟨n, ao, e1, by rw [List.getElem?_set_self hl]⟩
    · exact ⟨m, u, e1, by rw [List.getElem?_set_ne hm]; exact e2⟩
theorem put_stp {n : Nat} {o ao : AO} {u : HO} (ep : α.l[n]? = some p) (e : h[n]? = some (some o)) : Stp α h H α (h.set n (some ao)) (upd H p u) :=
  ⟨fun _ _ e => e, rfl, fun q w eq nl => by
      have : q ≠ p := fun z => nl (z ▸ live_of ep e)
      rw [upd_ne this]
      exact eq, fun q l => .inl ((live_set e).mp l), fun q l => .inl l⟩
theorem Rel.put (r : Rel K mg α h H) {n : Nat} {o ao : AO} {u : HO} (ep : α.l[n]? = some p) (e : h[n]? = some (some o)) (oa : OA K mg α (Lv α (h.set n (some ao))) (upd H p u) p ao) : Rel K mg α (h.set n (some ao)) (upd H p u) := by
  have st : Stp α h H α (h.set n (some ao)) (upd H p u) := put_stp ep e
  refine ⟨by simp [r.len], r.nd, fun q hq => ?_, fun q hq => ?_, fun m v em => ?_⟩
  rotate_left
  · obtain ⟨y, w, z⟩ := r.zs q hq
    have : q ≠ p := fun x => y (x ▸ live_of ep e)
    exact ⟨fun l => y ((live_set e).mp l), w, by rw [upd_ne this]; exact z⟩
  rotate_right
  · by_cases z : q = p
    · exact ⟨u, by rw [z]; exact upd_same⟩
    · rw [upd_ne z]
      exact r.has q hq
  · by_cases hm : n = m
    · subst hm
      obtain ⟨hl, _⟩ := List.getElem?_eq_some_iff.mp e
      rw [List.getElem?_set_self hl] at em
      cases em
      exact ⟨p, ep, oa⟩
    · rw [List.getElem?_set_ne hm] at em
      obtain ⟨q, eq, x⟩ := r.at_ m v em
      refine ⟨q, eq, x.step st.kp fun w z => ?_⟩
      have : q ≠ p := fun y => by
        subst y
        exact hm (r.uniq ep eq)
      rw [upd_ne this]
      exact z
end
end Cl
namespace Cl
open PySem PySem.Spec PyProof.Rows L2
inductive RO (K : PySem.W.Frag) (mg : Str → Option Value) (α : Al) (L : Addr → Prop) (H : Hp) : Option V → Option A → Prop
  | none : RO K mg α L H none none
  | some {v : V} {a : A} : RA K mg α L H v a → RO K mg α L H (some v) (some a)
abbrev SR (K : PySem.W.Frag) (mg : Str → Option Value) (α : Al) (L : Addr → Prop) (H : Hp) : L2.St → Env → Prop := Paired (RO K mg α L H)
def ErrAt (K : PySem.W.Frag) (mg : Str → Option Value) (α : Al) (L : Addr → Prop) (H : Hp) (cv : Value) (dd : Option Addr) (c : Str) : Option (Str × A) → Prop
  | none => (∃ ca, cv = .ref ca ∧ mg c = some (.ref ca)) ∧ dd = none
  | some (f, a) => (∃ ca, cv = .ref ca ∧ mg c = some (.ref ca)) ∧ ∃ da v, dd = some da ∧ H da = some (.xd [(f, v)]) ∧ RA K mg α L H v a
abbrev RT (τ β : Type) := PySem.W.Frag → (Str → Option Value) → Al → (Addr → Prop) → Hp → τ → β → Prop
def rtB : RT Bool Bool := fun _ _ _ _ _ b c => b = c
def rtOI : RT (Option Int) (Option Int) := fun _ _ _ _ _ b c => b = c
abbrev rtA : RT V A := RA
abbrev rtAs : RT (List V) (List A) := RAs
def rtKs : RT (List (V × V)) (List (A × A)) := fun K mg α L H => Paired fun p q => RA K mg α L H p.1 q.1 ∧ RA K mg α L H p.2 q.2
def rtU : RT Unit Unit := fun _ _ _ _ _ _ _ => True
section
variable {τ β : Type} (RB : RT τ β) (K : PySem.W.Frag) (mg : Str → Option Value) (W : WX) (σ : L2.St) (α : Al) (h : AH) (H : Hp)
def Post (r : R β) (Q : τ → Hp → Prop) : Prop := match r with
  | .ok b h' => ∀ α' H' v, Rel K mg α' h' H' → Stp α h H α' h' H' → RB K mg α' (Lv α' h') H' v b → Q v H'
  | .er c d h' => ∀ α' H' cv dd, Rel K mg α' h' H' → Stp α h H α' h' H' → ErrAt K mg α' (Lv α' h') H' cv dd c d → W cv dd σ H'
  | .bad => False
end
def tOf {τ β : Type} (RB : RT τ β) (K : PySem.W.Frag) (mg : Str → Option Value) (W : WX) (m : Env → AH → R β) : L2.St → Hp → (τ → Hp → Prop) → Prop := fun σ H Q =>
  ∃ α h env, Rel K mg α h H ∧ SR K mg α (Lv α h) H σ env ∧ Post RB K mg W σ α h H (m env h) Q
abbrev M (β : Type) := Env → AH → R β
section
variable {τ β τ' γ : Type} {RB : RT τ β} {RC : RT τ' γ} {K : PySem.W.Frag} {mg : Str → Option Value} {W : WX} {σ : L2.St} {α α' : Al} {h h' : AH} {H H' : Hp} {L L' : Addr → Prop}
theorem RO.step (k : Kp α L H α' L' H') {v : Option V} {a : Option A} (x : RO K mg α L H v a) : RO K mg α' L' H' v a := by
  cases x with
  | none => exact .none
  | some r => exact .some (r.step k)
theorem SR.step (k : Kp α L H α' L' H') {σ : L2.St} {env : Env} (x : SR K mg α L H σ env) : SR K mg α' L' H' σ env := Paired.mapP x fun _ _ => RO.step k
theorem Post.mono {r : R β} {Q Q' : τ → Hp → Prop} (p : Post RB K mg W σ α h H r Q) (i : ∀ v H, Q v H → Q' v H) : Post RB K mg W σ α h H r Q' := by
  cases r with
  | ok b h1 => exact fun α' H' v a b c => i _ _ (p α' H' v a b c)
  | er c d h1 => exact p
  | bad => exact p
theorem Post.rebase {r : R β} {Q : τ → Hp → Prop} (s : Stp α h H α' h' H') (p : Post RB K mg W σ α h H r Q) : Post RB K mg W σ α' h' H' r Q := by
  cases r with
  | ok b h1 => exact fun α2 H2 v a b c => p α2 H2 v a (s.trans b) c
  | er c d h1 => exact fun α2 H2 cv dd a b c => p α2 H2 cv dd a (s.trans b) c
  | bad => exact p
theorem post_bind {r : R β} {f : β → AH → R γ} {Q : τ' → Hp → Prop} {G : τ → Hp → Prop} (p : Post RC K mg W σ α h H (r.bind f) Q)
    (k : ∀ b h1 α1 H1 v, Rel K mg α1 h1 H1 → Stp α h H α1 h1 H1 → RB K mg α1 (Lv α1 h1) H1 v b → Post RC K mg W σ α1 h1 H1 (f b h1) Q → G v H1) : Post RB K mg W σ α h H r G := by
  cases r with
  | ok b h1 => exact fun α1 H1 v a s c => k b h1 α1 H1 v a s c (Post.rebase s p)
  | er c d h1 => exact p
  | bad => exact p
theorem post_ok {b : β} {Q : τ → Hp → Prop} {v : τ} (p : Post RB K mg W σ α h H (.ok b h) Q) (r : Rel K mg α h H) (q : RB K mg α (Lv α h) H v b) : Q v H := p α H v r .refl q
theorem post_alloc {b : β} {Q : τ → Hp → Prop} {p : Addr} {o : HO} {v : τ} (q : Post RB K mg W σ α h H (.ok b h) Q) (r : Rel K mg α h H) (n : H p = none) (x : Rel K mg α h (upd H p o) → Stp α h H α h (upd H p o) → ¬ Lv α h p → RB K mg α (Lv α h) (upd H p o) v b) : Q v (upd H p o) := by
  obtain ⟨a, b, c⟩ := r.alloc n o
  exact q α _ v a b (x a b c)
end
section
variable (X : Cx) (W : WX)
def CE (e : Expr) (m : M A) : Prop := PE X e (tOf rtA X.K X.mg W m)
def CT (e : Expr) (m : M Bool) : Prop := PT X e (tOf rtB X.K X.mg W m)
def CW (e : Expr) (m : M Bool) : Prop := PW X e (tOf rtB X.K X.mg W m)
def CAs (es : List Expr) (m : M (List A)) : Prop := PA X es (tOf rtAs X.K X.mg W m)
def CPo (e : Option Expr) (m : M (Option Int)) : Prop := PO X e (tOf rtOI X.K X.mg W m)
end
section
variable {X : Cx} {W : WX}
theorem PE.imp {e : Expr} {t t' : TE} (p : PE X e t) (i : ∀ σ H Q, t' σ H Q → t σ H Q) : PE X e t' := ⟨fun a b c d f I z => p.run a b c d f I (i _ _ _ z)⟩
theorem PT.imp {e : Expr} {t t' : TT} (p : PT X e t) (i : ∀ σ H Q, t' σ H Q → t σ H Q) : PT X e t' := ⟨fun a b c d f I z => p.run a b c d f I (i _ _ _ z)⟩
theorem PW.imp {e : Expr} {t t' : TT} (p : PW X e t) (i : ∀ σ H Q, t' σ H Q → t σ H Q) : PW X e t' := ⟨fun a b c d f g I z => p.run a b c d f g I (i _ _ _ z)⟩
theorem PA.imp {e : List Expr} {t t' : TA} (p : PA X e t) (i : ∀ σ H Q, t' σ H Q → t σ H Q) : PA X e t' := ⟨fun a b c d f g I z => p.run a b c d f g I (i _ _ _ z)⟩
theorem PO.imp {e : Option Expr} {t t' : TO} (p : PO X e t) (i : ∀ σ H Q, t' σ H Q → t σ H Q) : PO X e t' := ⟨fun a b c d f I z => p.run a b c d f I (i _ _ _ z)⟩
theorem PE.or {e : Expr} {t t' : TE} (p : PE X e t) (q : PE X e t') : PE X e (fun σ H Q => t σ H Q ∨ t' σ H Q) := ⟨fun a b c d f I z => z.elim (p.run a b c d f I) (q.run a b c d f I)⟩
theorem OpR.or {f : Value → Value → Sem Value} {r r' : R2} (p : OpR X f r) (q : OpR X f r') : OpR X f (fun x y H Q => r x y H Q ∨ r' x y H Q) := fun a b c d e g h i j I k l z => z.elim (p a b c d e g h i j I k l) (q a b c d e g h i j I k l)
theorem CallR.or {f : Value} {r r' : List V → Hp → VK → Prop} (p : CallR X f r) (q : CallR X f r') : CallR X f (fun x H Q => r x H Q ∨ r' x H Q) := fun a b c d e g h I k z => z.elim (p a b c d e g h I k) (q a b c d e g h I k)
end
abbrev F2 := A → A → AH → R A
def Ab2 (K : PySem.W.Frag) (mg : Str → Option Value) (r : R2) (f : F2) : Prop :=
  ∀ (W : WX) (σ : L2.St) (α : Al) (h : AH) (H : Hp) (x y : V) (a b : A) (Q : VK), Rel K mg α h H → RA K mg α (Lv α h) H x a → RA K mg α (Lv α h) H y b → Post rtA K mg W σ α h H (f a b h) Q → r x y H Q
abbrev F1 := A → AH → R A
def Ab1 (K : PySem.W.Frag) (mg : Str → Option Value) (r : V → Hp → VK → Prop) (f : F1) : Prop :=
  ∀ (W : WX) (σ : L2.St) (α : Al) (h : AH) (H : Hp) (x : V) (a : A) (Q : VK), Rel K mg α h H → RA K mg α (Lv α h) H x a → Post rtA K mg W σ α h H (f a h) Q → r x H Q
abbrev FN := List A → AH → R A
def AbN (K : PySem.W.Frag) (mg : Str → Option Value) (r : List V → Hp → VK → Prop) (f : FN) : Prop :=
  ∀ (W : WX) (σ : L2.St) (α : Al) (h : AH) (H : Hp) (xs : List V) (as : List A) (Q : VK), Rel K mg α h H → RAs K mg α (Lv α h) H xs as → Post rtA K mg W σ α h H (f as h) Q → r xs H Q
def eBin (f : F2) (ma mb : M A) : M A := fun env h => (ma env h).bind fun a h => (mb env h).bind fun b h => f a b h
def eUn (f : F1) (ma : M A) : M A := fun env h => (ma env h).bind fun a h => f a h
def eC (a : A) : M A := fun _ h => .ok a h
def eVar (i : Nat) : M A := fun env h => match env[i]? with
  | some (some a) => .ok a h
  | _ => .bad
def eNil : M (List A) := fun _ h => .ok [] h
def eCons (ma : M A) (mr : M (List A)) : M (List A) := fun env h => (ma env h).bind fun a h => (mr env h).bind fun r h => .ok (a :: r) h
def eCall (f : FN) (ma : M (List A)) : M A := fun env h => (ma env h).bind fun as h => f as h
section
variable {X : Cx} {W : WX}
theorem paired_get {τ β : Type} {F : τ → β → Prop} : ∀ {xs : List τ} {ys : List β} {i : Nat} {y : β}, Paired F xs ys → ys[i]? = some y → ∃ x, xs[i]? = some x ∧ F x y
  | _, _, _, _, .nil, e => by simp at e
  | _, _, 0, _, .cons r _, e => by
    simp at e
    subst e
    exact ⟨_, rfl, r⟩
  | _, _, i + 1, y, .cons _ t, e => by
    obtain ⟨x, h1, h2⟩ := paired_get (i := i) (y := y) t (by simpa using e)
    exact ⟨x, by simpa using h1, h2⟩
theorem ce_of {e : Expr} {t : TE} {m : M A} (p : PE X e t) (i : ∀ σ α h H env Q, Rel X.K X.mg α h H → SR X.K X.mg α (Lv α h) H σ env → Post rtA X.K X.mg W σ α h H (m env h) Q → t σ H Q) : CE X W e m :=
  PE.imp p fun σ H Q ⟨α, h, env, r, s, q⟩ => i σ α h H env Q r s q
theorem ce_var (i : Nat) {e : Expr} (p : PE X e (tVar i)) : CE X W e (eVar i) := ce_of p fun σ α h H env Q r s q => by
  unfold eVar at q
  split at q
  · rename_i a e
    obtain ⟨o, h1, h2⟩ := paired_get s e
    cases h2 with
    | some x => exact ⟨_, h1, post_ok q r x⟩
  · exact q.elim
theorem ce_c {e : Expr} {v : V} {a : A} (p : PE X e (tC v)) (x : ∀ α L H, RA X.K X.mg α L H v a) : CE X W e (eC a) := ce_of p fun σ α h H env Q r s q => post_ok q r (x _ _ _)
theorem ce_int {i j pos} : CE X W (.Constant (.int i) j pos) (eC (.int i)) := ce_c pe_int fun _ _ _ => .int i
theorem ce_bl {i j pos} : CE X W (.Constant (.bool i) j pos) (eC (.bl i)) := ce_c pe_bl fun _ _ _ => .bl i
theorem ce_non {j pos} : CE X W (.Constant .none j pos) (eC .non) := ce_c pe_non fun _ _ _ => .non
theorem ce_str {i j pos} : CE X W (.Constant (.str i) j pos) (eC (.str i)) := ce_c pe_str fun _ _ _ => .str i
def GV (K : PySem.W.Frag) (mg : Str → Option Value) (x : Str) (a : A) : Prop := ∃ v u, mg x = some u ∧ RelV v u ∧ ∀ α L H, RA K mg α L H v a
theorem ce_glob {x : Str} {a : A} {pos : Pos} (g : GV X.K X.mg x a) (hg : Gl X x) (hd : (x == ("__debug__" : Str)) = false := by decide) : CE X W (.Name x pos) (eC a) := by
  obtain ⟨v, u, e, r, q⟩ := g
  exact ce_c (pe_glob hg e r hd) q
theorem cas_nil : CAs X W [] eNil := PA.imp pa_nil fun σ H Q ⟨α, h, env, r, s, q⟩ => post_ok (v := []) q r .nil
theorem cas_cons {e : Expr} {es : List Expr} {ma : M A} {mr : M (List A)} (ha : CE X W e ma) (hr : CAs X W es mr) (hs : starEach (e :: es) X.env = (false, eval e X.env) :: starEach es X.env := by rfl) : CAs X W (e :: es) (eCons ma mr) :=
  PA.imp (pa_cons ha hr hs) fun σ H Q ⟨α, h, env, r, s, q⟩ => ⟨α, h, env, r, s, post_bind q fun a h1 α1 H1 x r1 s1 ra q1 => ⟨α1, h1, env, r1, s.step s1.kp, post_bind q1 fun as h2 α2 H2 xs r2 s2 ras q2 =>
    post_ok q2 r2 (.cons (ra.step s2.kp) ras)⟩⟩
theorem ce_op {op : Operator} {r : R2} {f : F2} {a b : Expr} {ma mb : M A} {pos : Pos} (ho : OpR X (binaryOp op) r) (hf : Ab2 X.K X.mg r f) (ha : CE X W a ma) (hb : CE X W b mb) : CE X W (.BinOp a op b pos) (eBin f ma mb) :=
  ce_of (pe_op ho ha hb) fun σ α h H env Q r s q => ⟨α, h, env, r, s, post_bind q fun a h1 α1 H1 x r1 s1 ra q1 => ⟨α1, h1, env, r1, s.step s1.kp, post_bind q1 fun b h2 α2 H2 y r2 s2 rb q2 =>
    hf W σ α2 h2 H2 x y a b Q r2 (ra.step s2.kp) rb q2⟩⟩
theorem ce_cmp {op : CmpOp} {r : R2} {f : F2} {a b : Expr} {ma mb : M A} {pos : Pos} (ho : OpR X (compareOp op) r) (hf : Ab2 X.K X.mg r f) (ha : CE X W a ma) (hb : CE X W b mb) (hm : behindInMarks op b = false) : CE X W (.Compare a [op] [b] pos) (eBin f ma mb) :=
  ce_of (pe_cmpR ho ha hb hm) fun σ α h H env Q r s q => ⟨α, h, env, r, s, post_bind q fun a h1 α1 H1 x r1 s1 ra q1 => ⟨α1, h1, env, r1, s.step s1.kp, post_bind q1 fun b h2 α2 H2 y r2 s2 rb q2 =>
    hf W σ α2 h2 H2 x y a b Q r2 (ra.step s2.kp) rb q2⟩⟩
theorem ce_un {op : UnaryOp} {r : V → Hp → VK → Prop} {f : F1} {a : Expr} {ma : M A} {pos : Pos} (ho : UnR X (unaryOp op) r) (hf : Ab1 X.K X.mg r f) (ha : CE X W a ma) : CE X W (.UnaryOp op a pos) (eUn f ma) :=
  ce_of (pe_un ho ha) fun σ α h H env Q r s q => ⟨α, h, env, r, s, post_bind q fun a h1 α1 H1 x r1 s1 ra q1 => hf W σ α1 h1 H1 x a Q r1 ra q1⟩
theorem ce_ix {r : R2} {f : F2} {a b : Expr} {ma mb : M A} {t : ∀ {ta tb : TE}, PE X a ta → PE X b tb → PE X e (tOp r ta tb)} (hf : Ab2 X.K X.mg r f) (ha : CE X W a ma) (hb : CE X W b mb) : CE X W e (eBin f ma mb) :=
  ce_of (t ha hb) fun σ α h H env Q r s q => ⟨α, h, env, r, s, post_bind q fun a h1 α1 H1 x r1 s1 ra q1 => ⟨α1, h1, env, r1, s.step s1.kp, post_bind q1 fun b h2 α2 H2 y r2 s2 rb q2 =>
    hf W σ α2 h2 H2 x y a b Q r2 (ra.step s2.kp) rb q2⟩⟩
theorem ce_cb {r : List V → Hp → VK → Prop} {f : FN} {e : Expr} {es : List Expr} {ma : M (List A)} (t : ∀ {ta : TA}, PA X es ta → PE X e (tCB r ta)) (hf : AbN X.K X.mg r f) (ha : CAs X W es ma) : CE X W e (eCall f ma) :=
  ce_of (t ha) fun σ α h H env Q r s q => ⟨α, h, env, r, s, post_bind q fun as h1 α1 H1 xs r1 s1 ra q1 => hf W σ α1 h1 H1 xs as Q r1 ra q1⟩
end
end Cl
namespace Cl
open PySem PySem.Spec PyProof.Rows L2
def lim : Nat := 1000000
theorem lim_line : lim < sizeLine := by decide
theorem lim_le {n : Nat} (h : n ≤ lim) : n ≤ sizeLine := Nat.le_trans h (Nat.le_of_lt lim_line)
theorem lim_lt {n : Nat} (h : n ≤ lim) : n < sizeLine := Nat.lt_of_le_of_lt h lim_line
section
variable {K : PySem.W.Frag} {mg : Str → Option Value} {α : Al} {L : Addr → Prop} {H : Hp} {h : AH}
theorem RAs.pair : ∀ {vs : List V} {xs : List A}, RAs K mg α L H vs xs → Paired (RA K mg α L H) vs xs
  | _, _, .nil => .nil
  | _, _, .cons r s => .cons r s.pair
theorem RAs.of : ∀ {vs : List V} {xs : List A}, Paired (RA K mg α L H) vs xs → RAs K mg α L H vs xs
  | _, _, .nil => .nil
  | _, _, .cons r s => .cons r (RAs.of s)
theorem RAs.length {vs : List V} {xs : List A} (r : RAs K mg α L H vs xs) : vs.length = xs.length := Paired.length r.pair
theorem paired_append {τ β : Type} {F : τ → β → Prop} : ∀ {xs xs' : List τ} {ys ys' : List β}, Paired F xs ys → Paired F xs' ys' → Paired F (xs ++ xs') (ys ++ ys')
  | _, _, _, _, .nil, s => s
  | _, _, _, _, .cons r t, s => .cons r (paired_append t s)
theorem paired_take {τ β : Type} {F : τ → β → Prop} : ∀ {xs : List τ} {ys : List β} (n : Nat), Paired F xs ys → Paired F (xs.take n) (ys.take n)
  | _, _, 0, _ => .nil
  | _, _, _ + 1, .nil => .nil
  | _, _, n + 1, .cons r t => .cons r (paired_take n t)
theorem paired_drop {τ β : Type} {F : τ → β → Prop} : ∀ {xs : List τ} {ys : List β} (n : Nat), Paired F xs ys → Paired F (xs.drop n) (ys.drop n)
  | _, _, 0, r => r
  | _, _, _ + 1, .nil => .nil
  | _, _, n + 1, .cons _ t => paired_drop n t
theorem paired_get' {τ β : Type} {F : τ → β → Prop} : ∀ {xs : List τ} {ys : List β} {i : Nat} {x : τ}, Paired F xs ys → xs[i]? = some x → ∃ y, ys[i]? = some y ∧ F x y
  | _, _, _, _, .nil, e => by simp at e
  | _, _, 0, _, .cons r _, e => by
    simp at e
    subst e
    exact ⟨_, rfl, r⟩
  | _, _, i + 1, x, .cons _ t, e => by
    obtain ⟨y, h1, h2⟩ := paired_get' (i := i) (x := x) t (by simpa using e)
    exact ⟨y, by simpa using h1, h2⟩
theorem paired_set {τ β : Type} {F : τ → β → Prop} {x : τ} {y : β} (r : F x y) : ∀ {xs : List τ} {ys : List β} (i : Nat), Paired F xs ys → Paired F (xs.set i x) (ys.set i y)
  | _, _, _, .nil => .nil
  | _, _, 0, .cons _ t => .cons r t
  | _, _, i + 1, .cons q t => .cons q (paired_set r i t)
theorem RAs.append {vs vs' : List V} {xs xs' : List A} (r : RAs K mg α L H vs xs) (s : RAs K mg α L H vs' xs') : RAs K mg α L H (vs ++ vs') (xs ++ xs') := .of (paired_append r.pair s.pair)
theorem RAs.take {vs : List V} {xs : List A} (r : RAs K mg α L H vs xs) (n : Nat) : RAs K mg α L H (vs.take n) (xs.take n) := .of (paired_take n r.pair)
theorem RAs.drop {vs : List V} {xs : List A} (r : RAs K mg α L H vs xs) (n : Nat) : RAs K mg α L H (vs.drop n) (xs.drop n) := .of (paired_drop n r.pair)
theorem RAs.get {vs : List V} {xs : List A} {i : Nat} {a : A} (r : RAs K mg α L H vs xs) (e : xs[i]? = some a) : ∃ v, vs[i]? = some v ∧ RA K mg α L H v a := paired_get r.pair e
theorem RAs.set {vs : List V} {xs : List A} {v : V} {a : A} (r : RAs K mg α L H vs xs) (i : Nat) (q : RA K mg α L H v a) : RAs K mg α L H (vs.set i v) (xs.set i a) := .of (paired_set q i r.pair)
theorem RAs.rev {vs : List V} {xs : List A} (r : RAs K mg α L H vs xs) : RAs K mg α L H vs.reverse xs.reverse := by
  induction vs generalizing xs with
  | nil => cases r; exact .nil
  | cons v vs ih =>
    cases r with
    | cons q s =>
      rw [List.reverse_cons, List.reverse_cons]
      exact (ih s).append (.cons q .nil)
theorem RAs.at_ {vs : List V} {xs : List A} {i : Int} {a : A} (r : RAs K mg α L H vs xs) (e : atI xs i = some a) : ∃ v, atI vs i = some v ∧ RA K mg α L H v a := by
  unfold atI at *
  rw [r.length]
  cases hx : ixN xs.length i with
  | none => rw [hx] at e; cases e
  | some j =>
    rw [hx] at e
    exact r.get (i := j) e
end
def lstOf (h : AH) : A → Option (List A)
  | .lst xs => some xs
  | .ref n => match h[n]? with
    | some (some (.lst xs)) => some xs
    | _ => none
  | _ => none
def tupOf : A → Option (List A)
  | .tup xs => some xs
  | _ => none
def seqOf (h : AH) : A → Option (List A)
  | .tup xs => some xs
  | .scr xs => some xs
  | a => lstOf h a
def dctOf (h : AH) : A → Option (List (A × A))
  | .dct xs => some xs
  | .ref n => match h[n]? with
    | some (some (.dct xs)) => some xs
    | _ => none
  | _ => none
section
variable {K : PySem.W.Frag} {mg : Str → Option Value} {α : Al} {L : Addr → Prop} {H : Hp} {h : AH}
theorem Rel.lst (r : Rel K mg α h H) {x : V} {a : A} {xs : List A} (ra : RA K mg α (Lv α h) H x a) (e : lstOf h a = some xs) : ∃ p vs, x = .ref p ∧ H p = some (.lst vs) ∧ RAs K mg α (Lv α h) H vs xs := by
  unfold lstOf at e
  split at e
  · cases e
    cases ra with
    | lst h1 h2 h3 => exact ⟨_, _, rfl, h1, h3⟩
  · split at e
    · rename_i n _ xs' e'
      cases e
      cases ra with
      | ref ep =>
        cases r.obj e' ep with
        | lst h1 h2 => exact ⟨_, _, rfl, h1, h2⟩
    · cases e
  · cases e
theorem Rel.seq (r : Rel K mg α h H) {x : V} {a : A} {xs : List A} (ra : RA K mg α (Lv α h) H x a) (e : seqOf h a = some xs) : ∃ p vs, x = .ref p ∧ (SqL K H p vs ∨ SqT K H p vs) ∧ RAs K mg α (Lv α h) H vs xs := by
  unfold seqOf at e
  split at e
  · cases e
    cases ra with
    | tup h1 h2 =>
      refine ⟨_, _, rfl, .inr ?_, h2⟩
      rcases h1 with ⟨h1, _⟩ | h1
      · exact .inl h1
      · exact .inr h1
  · cases e
    cases ra with
    | scr h1 h3 => exact ⟨_, _, rfl, .inl h1.sq, h3⟩
  · obtain ⟨p, vs, e1, e2, e3⟩ := r.lst ra e
    exact ⟨p, vs, e1, .inl (.inl (.inl e2)), e3⟩
theorem TupAt.sq {p : Addr} {vs : List V} (x : TupAt K L H p vs) : SqT K H p vs := by
  rcases x with ⟨h1, _⟩ | h1
  · exact .inl h1
  · exact .inr h1
theorem Rel.dict (r : Rel K mg α h H) {x : V} {a : A} {xs : List (A × A)} (ra : RA K mg α (Lv α h) H x a) (e : dctOf h a = some xs) : ∃ p vs, x = .ref p ∧ Rd H p (.dK vs) ∧ RKs K mg α (Lv α h) H vs xs := by
  unfold dctOf at e
  split at e
  · cases e
    cases ra with
    | dct h1 h2 h3 => exact ⟨_, _, rfl, h1, h3⟩
  · split at e
    · rename_i n _ xs' e'
      cases e
      cases ra with
      | ref ep =>
        cases r.obj e' ep with
        | dct h1 h2 => exact ⟨_, _, rfl, .inl h1, h2⟩
    · cases e
  · cases e
end
def mkL (lv : Bool) (xs : List A) (h : AH) : R A := if lv then .ok (.ref h.length) (h ++ [some (.lst xs)]) else .ok (.lst xs) h
def mkD (lv : Bool) (xs : List (A × A)) (h : AH) : R A := if lv then .ok (.ref h.length) (h ++ [some (.dct xs)]) else .ok (.dct xs) h
section
variable {K : PySem.W.Frag} {mg : Str → Option Value} {W : WX} {σ : L2.St} {α : Al} {h : AH} {H : Hp} {Q : VK}
theorem post_push {p : Addr} {o : HO} {ao : AO} (q : Post rtA K mg W σ α h H (.ok (.ref h.length) (h ++ [some ao])) Q) (r : Rel K mg α h H) (n : H p = none)
    (oa : Stp α h H (α.push p) (h ++ [some ao]) (upd H p o) → OA K mg (α.push p) (Lv (α.push p) (h ++ [some ao])) (upd H p o) p ao) : Q (.ref p) (upd H p o) :=
  q _ _ _ (r.push n o ao (oa (r.push_stp n o ao))) (r.push_stp n o ao) (.ref (by rw [← r.len]; exact get_len))
theorem post_mkL {lv : Bool} {xs : List A} {vs : List V} {p : Addr} (q : Post rtA K mg W σ α h H (mkL lv xs h) Q) (r : Rel K mg α h H) (n : H p = none) (rs : RAs K mg α (Lv α h) H vs xs) : Q (.ref p) (upd H p (.lst vs)) := by
  unfold mkL at q
  cases lv
  · rw [if_neg Bool.false_ne_true] at q
    exact post_alloc q r n fun _ st nl => .lst upd_same nl (rs.step st.kp)
  · rw [if_pos rfl] at q
    exact post_push q r n fun st => .lst upd_same (rs.step st.kp)
theorem post_mkD {lv : Bool} {xs : List (A × A)} {vs : List (Key × V)} {p : Addr} (q : Post rtA K mg W σ α h H (mkD lv xs h) Q) (r : Rel K mg α h H) (n : H p = none) (rs : RKs K mg α (Lv α h) H vs xs) : Q (.ref p) (upd H p (.dK vs)) := by
  unfold mkD at q
  cases lv
  · rw [if_neg Bool.false_ne_true] at q
    exact post_alloc q r n fun _ st nl => .dct (.inl upd_same) nl (rs.step st.kp)
  · rw [if_pos rfl] at q
    exact post_push q r n fun st => .dct upd_same (rs.step st.kp)
end
def vAdd (lv : Bool) : F2 := fun a b h => match a, b with
  | .int i, .int j => .ok (.int (i + j)) h
  | .str i, .str j => if i.length + j.length ≤ lim then .ok (.str (i ++ j)) h else .bad
  | .tup xs, .tup ys => if xs.length + ys.length ≤ lim then .ok (.tup (xs ++ ys)) h else .bad
  | a, b => match lstOf h a, lstOf h b with
    | some xs, some ys => if xs.length + ys.length ≤ lim then mkL lv (xs ++ ys) h else .bad
    | _, _ => .bad
def intF (g : Int → Int → A) : F2 := fun a b h => match a, b with
  | .int i, .int j => .ok (g i j) h
  | _, _ => .bad
def intFC (c : Int → Int → Bool) (g : Int → Int → A) : F2 := fun a b h => match a, b with
  | .int i, .int j => if c i j then .ok (g i j) h else .bad
  | _, _ => .bad
section
variable {K : PySem.W.Frag} {mg : Str → Option Value}
theorem Ab2.imp {r r' : R2} {f : F2} (x : Ab2 K mg r f) (i : ∀ x y H Q, r x y H Q → r' x y H Q) : Ab2 K mg r' f := fun a b c d e f g h j Q r s t u => i _ _ _ _ (x a b c d e f g h j Q r s t u)
theorem ab_int (g : Int → Int → A) (g' : Int → Int → V) (hg : ∀ i j α L H, RA K mg α L H (g' i j) (g i j)) : Ab2 K mg (rI0 g') (intF g) := by
  intro W σ α h H x y a b Q r ra rb q
  unfold intF at q
  split at q
  · cases ra
    cases rb
    exact ⟨_, _, rfl, rfl, post_ok q r (hg _ _ _ _ _)⟩
  · exact q.elim
theorem ab_intC {C : Int → Int → Prop} {c : Int → Int → Bool} (hc : ∀ i j, c i j = true → C i j) (g : Int → Int → A) (g' : Int → Int → V) (hg : ∀ i j α L H, RA K mg α L H (g' i j) (g i j)) : Ab2 K mg (rI C g') (intFC c g) := by
  intro W σ α h H x y a b Q r ra rb q
  unfold intFC at q
  split at q
  · cases ra
    cases rb
    split at q
    · rename_i e
      exact ⟨_, _, rfl, rfl, hc _ _ e, post_ok q r (hg _ _ _ _ _)⟩
    · exact q.elim
  · exact q.elim
theorem ab_add {X : Cx} (lv : Bool) : Ab2 X.K X.mg (fun x y H Q => (rI0 (fun i j => V.int (i + j)) x y H Q ∨ (∃ i j, x = .str i ∧ y = .str j ∧ i.length + j.length ≤ sizeLine ∧ Q (.str (i ++ j)) H)) ∨ rCat x y H Q ∨ rCatA X.K x y H Q) (vAdd lv) := by
  intro W σ α h H x y a b Q r ra rb q
  unfold vAdd at q
  split at q
  · cases ra
    cases rb
    exact .inl (.inl ⟨_, _, rfl, rfl, post_ok q r (.int _)⟩)
  · cases ra
    cases rb
    split at q
    · rename_i e
      exact .inl (.inr ⟨_, _, rfl, rfl, lim_le e, post_ok q r (.str _)⟩)
    · exact q.elim
  · cases ra with
    | tup h1 h2 =>
      cases rb with
      | tup g1 g2 =>
        split at q
        · rename_i e
          refine .inr (.inr ⟨_, _, _, _, rfl, rfl, h1.sq, g1.sq, ?_, fun e => ?_, fun _ e => ?_, fun _ _ p np => ?_⟩)
          · rw [h2.length, g2.length]; exact lim_le e
          · subst e
            cases h2
            exact post_ok q r (.tup g1 g2)
          · subst e
            cases g2
            rw [List.append_nil] at q
            exact post_ok q r (.tup h1 h2)
          · exact post_alloc q r np fun _ st nl => .tup (.inl ⟨.inl upd_same, nl⟩) ((h2.append g2).step st.kp)
        · exact q.elim
  · split at q
    · rename_i e1 e2
      split at q
      · rename_i e
        obtain ⟨p1, vs, rfl, x1, x2⟩ := r.lst ra e1
        obtain ⟨p2, ws, rfl, y1, y2⟩ := r.lst rb e2
        refine .inr (.inl ⟨_, _, _, _, rfl, rfl, x1, y1, ?_, fun p np => ?_⟩)
        · rw [x2.length, y2.length]; exact lim_le e
        · exact post_mkL q r np (x2.append y2)
      · exact q.elim
    · exact q.elim
end
section
variable {X : Cx} {W : WX} {a b : Expr} {ma mb : M A} {pos : Pos}
theorem ce_add (lv : Bool) (ha : CE X W a ma) (hb : CE X W b mb) : CE X W (.BinOp a .Add b pos) (eBin (vAdd lv) ma mb) := ce_op ((op_add.or op_add_str).or (op_cat.or op_catA)) (ab_add lv) ha hb
def vSub : F2 := intF fun i j => .int (i - j)
theorem ce_sub (ha : CE X W a ma) (hb : CE X W b mb) : CE X W (.BinOp a .Sub b pos) (eBin vSub ma mb) := ce_op op_sub (ab_int _ _ fun _ _ _ _ _ => .int _) ha hb
def vMod : F2 := intFC (fun _ j => decide (0 < j)) fun i j => .int (i % j)
theorem ce_mod (ha : CE X W a ma) (hb : CE X W b mb) : CE X W (.BinOp a .Mod b pos) (eBin vMod ma mb) := ce_op op_mod (ab_intC (fun _ _ e => of_decide_eq_true e) _ _ fun _ _ _ _ _ => .int _) ha hb
def vPow : F2 := intFC (fun i j => decide (0 ≤ j ∧ j ≤ 1000000 ∧ i.natAbs < 2 ^ 64)) fun i j => .int (i ^ j.toNat)
theorem ce_pow (ha : CE X W a ma) (hb : CE X W b mb) : CE X W (.BinOp a .Pow b pos) (eBin vPow ma mb) := ce_op op_pow (ab_intC (fun i j e => of_decide_eq_true (p := 0 ≤ j ∧ j ≤ 1000000 ∧ i.natAbs < 2 ^ 64) e) _ _ fun _ _ _ _ _ => .int _) ha hb
end
end Cl
namespace Cl
open PySem PySem.Spec PyProof.Rows L2
abbrev isTup (s : Shared) (l : Addr) (its : Array Value) (n : Nat) (dd : Option Addr) (sl : Array (Option Value)) : Prop :=
  s.heap.get? l = some { data := .seq its n, slots := sl, cls := .type "tuple", dict := dd }
def outside (x : Int) : Bool := decide (x < -(2 ^ 63)) || decide (x ≥ 2 ^ 63)
theorem is_no {b : Bool} (e : b = false) : decide (b = true) = false := by subst e; rfl
theorem is_yes {b : Bool} (e : b = true) : decide (b = true) = true := by subst e; rfl
theorem mul_few {l : Addr} {its : Array Value} {n : Nat} {dd : Option Addr} {sl : Array (Option Value)} {x : Int} {u : Tok} (small : outside x = false) (none_left : (its.isEmpty || x == 1) = false → (decide (x ≤ 0) || its.isEmpty) = true) :
    Meets (Builtin.«tuple.__mul__» ⟨[.ref l, .int x u], []⟩) (fun _ R s => isTup s l its n dd sl ∧
      bif its.isEmpty || x == 1 then R (.ok (.ret (.ref l))) s else R (.ok (.ret (.ref s.heap.objs.size))) { s with heap := s.heap.push { data := .seq #[], cls := .type "tuple" }, toks := s.toks }) := by
  refine .of_wp fun prog w A R ⟨hp, g, d, tk, os⟩ ⟨at_l, h⟩ => ?_
  have below := AutoSeq1.idx_int
  have small' : (decide (x < -(2 ^ 63)) || decide (x ≥ 2 ^ 63)) = false := small
  cases e : (its.isEmpty || x == 1) with
  | true =>
    rw [e] at h
    wp_walk using wpAny_loadPart' at_l
    repeat (first
      | (refine wpAny_ite_false (is_no small') ?_; wp_walk using wpAny_loadPart' at_l)
      | (refine wpAny_ite_true (is_yes e) ?_; wp_walk using wpAny_loadPart' at_l))
    exact ⟨_, rfl, h⟩
  | false =>
    rw [e] at h
    have z := none_left e
    wp_walk using wpAny_loadPart' at_l
    repeat (first
      | (refine wpAny_ite_false (is_no small') ?_; wp_walk using wpAny_loadPart' at_l)
      | (refine wpAny_ite_false (is_no e) ?_; wp_walk using wpAny_loadPart' at_l)
      | (refine wpAny_ite_true (is_yes z) ?_; wp_walk using wpAny_loadPart' at_l))
    exact ⟨_, rfl, h⟩

def rRepT1 (K : PySem.W.Frag) : R2 := fun x y H Q => ∃ l k xs, x = .ref l ∧ y = .int k ∧ SqT K H l xs ∧ (xs = [] ∨ k = 1) ∧ -(2 ^ 63) ≤ k ∧ k < 2 ^ 63 ∧ Q (.ref l) H
def rRepT0 (K : PySem.W.Frag) : R2 := fun x y H Q => ∃ l k xs, x = .ref l ∧ y = .int k ∧ SqT K H l xs ∧ xs ≠ [] ∧ -(2 ^ 63) ≤ k ∧ k ≤ 0 ∧ ∀ p, H p = none → Q (.ref p) (upd H p (.tup []))
section
variable {X : Cx}
theorem op_few : OpR X (binaryOp .Mult) fun x y H Q => rRepT1 X.K x y H Q ∨ rRepT0 X.K x y H Q := by
  intro pins s σ H x y v u Q I rx ry both
  obtain ⟨l, k, xs, rfl, rfl, hT, lo, hi, way⟩ : ∃ l k xs, x = .ref l ∧ y = .int k ∧ SqT X.K H l xs ∧ -(2 ^ 63) ≤ k ∧ k < 2 ^ 63 ∧ (((xs = [] ∨ k = 1) ∧ Q (.ref l) H) ∨ (xs ≠ [] ∧ k ≤ 0 ∧ ∀ p, H p = none → Q (.ref p) (upd H p (.tup [])))) := by
    rcases both with ⟨l, k, xs, ex, ey, hT, hn, lo, hi, q⟩ | ⟨l, k, xs, ex, ey, hT, hn, lo, hi, q⟩
    · exact ⟨l, k, xs, ex, ey, hT, lo, hi, .inl ⟨hn, q⟩⟩
    · exact ⟨l, k, xs, ex, ey, hT, lo, by omega, .inr ⟨hn, hi, q⟩⟩
  cases rx
  obtain ⟨t, rfl⟩ := ry
  obtain ⟨its, r, ⟨⟨_, dd, _, sl⟩, ho, hc, n, hd⟩, _⟩ := I.tuple hT
  simp only at hc hd
  subst hc hd
  have same : its.toArray.isEmpty = xs.isEmpty := by
    rw [List.isEmpty_toArray]
    cases r <;> rfl
  have small : outside k = false := by
    unfold outside
    simp only [Bool.or_eq_false_iff, decide_eq_false_iff_not]
    exact ⟨Int.not_lt.mpr lo, Int.not_le.mpr hi⟩
  have rest : (its.toArray.isEmpty || k == 1) = false → (decide (k ≤ 0) || its.toArray.isEmpty) = true := by
    intro e
    rcases way with ⟨z | z, _⟩ | ⟨_, z, _⟩
    · rw [same, z] at e; cases e
    · rw [z] at e; simp at e
    · rw [decide_eq_true z]; rfl
  have road := mul_few (l := l) (n := n) (dd := dd) (sl := sl) (u := t) small rest
  refine wpAny_binaryOp_repeat_ref (T := "tuple") (by decide) ⟨_, ho, rfl⟩ (typeIs_int · k t) noFill_tuple_mul F.fills_int_mul F.slot_int_rmul repeat_tuple F.slot_int_index.lookup ?_
  refine call_meets F.slot_int_rmul (typeIs_int s k t) F.entry_int_rmul (F.args_int_rmul_2 _ _) (int_rmul_tuple k t l _ n dd sl) ⟨ho, rfl, ⟨_, ho, rfl⟩, ?_⟩
  refine call_meets F.slot_tuple_mul ⟨_, ho, rfl⟩ F.entry_tuple_mul (F.args_tuple_mul_2 _ _) road ⟨ho, ?_⟩
  rcases way with ⟨z, q⟩ | ⟨z1, z2, q⟩
  · have yes : (its.toArray.isEmpty || k == 1) = true := by
      rw [same]
      rcases z with rfl | rfl
      · rfl
      · exact Bool.or_true _
    rw [yes]
    exact ⟨.ref l, H, I, rfl, q⟩
  · have no : (its.toArray.isEmpty || k == 1) = false := by
      rw [same, beq_eq_false_iff_ne.mpr (by omega : k ≠ 1), Bool.or_false]
      cases xs with
      | nil => exact absurd rfl z1
      | cons a b => rfl
    rw [no]
    exact ⟨.ref s.heap.objs.size, _, I.laid (t' := s.toks) (o := .tup []) (fun _ _ q => Heap.get?_push_of_some _ q) (Nat.le_refl _) ⟨by rw [sizeLine_eq]; decide, _, .nil, IsTup.new _ _⟩, rfl, q _ (I.hok.fresh (Nat.le_refl _))⟩
theorem op_repT1 : OpR X (binaryOp .Mult) (rRepT1 X.K) := fun pins s σ H x y v u Q I rx ry h => op_few pins s σ H x y v u Q I rx ry (.inl h)
theorem op_repT0 : OpR X (binaryOp .Mult) (rRepT0 X.K) := fun pins s σ H x y v u Q I rx ry h => op_few pins s σ H x y v u Q I rx ry (.inr h)
end
end Cl
namespace Cl
open PySem PySem.Spec PyProof.Rows L2
def vMul (lv : Bool) : F2 := fun a b h => match a, b with
  | .int i, .int j => if i.natAbs.log2 + j.natAbs.log2 < 900000 then .ok (.int (i * j)) h else .bad
  | .tup xs, .int k => if -1000 ≤ k ∧ k ≤ 1000 ∧ xs.length ≤ 1000 then .ok (.tup (List.replicate k.toNat xs).flatten) h else .bad
  | a, .int k => match lstOf h a with
    | some xs => if -1000000 ≤ k ∧ k ≤ 1000000 ∧ xs.length * k.toNat ≤ lim then mkL lv (List.replicate k.toNat xs).flatten h else .bad
    | none => .bad
  | _, _ => .bad
section
variable {K : PySem.W.Frag} {mg : Str → Option Value} {α : Al} {L : Addr → Prop} {H : Hp} {h : AH}
theorem RAs.rep {vs : List V} {xs : List A} (r : RAs K mg α L H vs xs) : ∀ k : Nat, RAs K mg α L H (List.replicate k vs).flatten (List.replicate k xs).flatten
  | 0 => .nil
  | k + 1 => by
    rw [List.replicate_succ, List.replicate_succ, List.flatten_cons, List.flatten_cons]
    exact r.append (r.rep k)
end
theorem ab_mul {X : Cx} (lv : Bool) : Ab2 X.K X.mg (fun x y H Q => (rI CMulW (fun i j => V.int (i * j)) x y H Q ∨ rRep x y H Q) ∨ rRepT X.K x y H Q ∨ rRepT1 X.K x y H Q ∨ rRepT0 X.K x y H Q) (vMul lv) := by
  intro W σ α h H x y a b Q r ra rb q
  unfold vMul at q
  split at q
  · cases ra
    cases rb
    split at q
    · rename_i e
      exact .inl (.inl ⟨_, _, rfl, rfl, Nat.lt_of_lt_of_le e (by decide), post_ok q r (.int _)⟩)
    · exact q.elim
  · cases rb
    cases ra with
    | tup h1 h2 =>
      rename_i xs k p vs
      split at q
      · rename_i e
        by_cases h0 : vs = [] ∨ k = 1
        · refine .inr (.inr (.inl ⟨_, _, _, rfl, rfl, h1.sq, h0, by omega, by omega, post_ok q r ?_⟩))
          rcases h0 with z | z
          · subst z
            cases h2
            have : (List.replicate k.toNat ([] : List A)).flatten = [] := by simp
            rw [this]
            exact .tup h1 .nil
          · subst z
            have : (List.replicate (1 : Int).toNat xs).flatten = xs := by simp
            rw [this]
            exact .tup h1 h2
        · have n1 : vs ≠ [] := fun z => h0 (.inl z)
          have n2 : k ≠ 1 := fun z => h0 (.inr z)
          by_cases h3 : k ≤ 0
          · refine .inr (.inr (.inr ⟨_, _, _, rfl, rfl, h1.sq, n1, by omega, h3, fun p np => ?_⟩))
            refine post_alloc q r np fun _ st nl => ?_
            have : k.toNat = 0 := by omega
            rw [this]
            exact .tup (.inl ⟨.inl upd_same, nl⟩) .nil
          · refine .inr (.inl ⟨_, _, _, rfl, rfl, h1.sq, n1, by omega, by omega, by rw [h2.length]; omega, fun p np => ?_⟩)
            exact post_alloc q r np fun _ st nl => .tup (.inl ⟨.inl upd_same, nl⟩) ((h2.rep _).step st.kp)
      · exact q.elim
  · cases rb
    split at q
    · rename_i e1
      split at q
      · rename_i e
        obtain ⟨p1, vs, rfl, x1, x2⟩ := r.lst ra e1
        refine .inl (.inr ⟨_, _, _, rfl, rfl, x1, by omega, by omega, ?_, fun p np => ?_⟩)
        · rw [x2.length]; exact lim_le e.2.2
        · exact post_mkL q r np (x2.rep _)
      · exact q.elim
    · exact q.elim
  · exact q.elim
section
variable {X : Cx} {W : WX} {a b : Expr} {ma mb : M A} {pos : Pos}
theorem ce_mul (lv : Bool) (ha : CE X W a ma) (hb : CE X W b mb) : CE X W (.BinOp a .Mult b pos) (eBin (vMul lv) ma mb) := ce_op ((op_mulW.or op_rep).or (op_repT.or (op_repT1.or op_repT0))) (ab_mul lv) ha hb
def vFdiv : F2 := intFC (fun _ j => decide (0 < j ∧ j.natAbs.log2 < 9000)) fun i j => .int (i / j)
theorem ce_fdiv (ha : CE X W a ma) (hb : CE X W b mb) : CE X W (.BinOp a .FloorDiv b pos) (eBin vFdiv ma mb) := ce_op op_fdivW (ab_intC (fun i j e => of_decide_eq_true (p := 0 < j ∧ j.natAbs.log2 < 9000) e) _ _ fun _ _ _ _ _ => .int _) ha hb
def vNeg : F1 := fun a h => match a with
  | .int i => .ok (.int (-i)) h
  | _ => .bad
theorem ce_neg (ha : CE X W a ma) : CE X W (.UnaryOp .USub a pos) (eUn vNeg ma) := ce_un un_neg (fun W σ α h H x a Q r ra q => by
  unfold vNeg at q
  split at q
  · cases ra
    exact ⟨_, rfl, post_ok q r (.int _)⟩
  · exact q.elim) ha
end
mutual
def toD : A → Option PyData
  | .non => some .none
  | .bl b => some (.bool b)
  | .int i => some (.int i)
  | .str x => some (.str x)
  | .tup xs => (toDs xs).map .tuple
  | .lst xs => (toDs xs).map .list
  | _ => none
def toDs : List A → Option (List PyData)
  | [] => some []
  | a :: r => match toD a, toDs r with
    | some d, some ds => some (d :: ds)
    | _, _ => none
end
def toDh (h : AH) : A → Option PyData
  | .ref n => match h[n]? with
    | some (some (.lst xs)) => (toDs xs).map .list
    | _ => none
  | a => toD a
section
variable {K : PySem.W.Frag} {mg : Str → Option Value} {α : Al} {L : Addr → Prop} {H : Hp} {h : AH}
mutual
theorem RA.dp : ∀ {v : V} {a : A} {d : PyData}, RA K mg α L H v a → toD a = some d → Dp K H v d
  | _, _, _, .non, e => by simp only [toD] at e; cases e; exact .non
  | _, _, _, .bl b, e => by simp only [toD] at e; cases e; exact .bl b
  | _, _, _, .int i, e => by simp only [toD] at e; cases e; exact .int i
  | _, _, _, .str x, e => by simp only [toD] at e; cases e; exact .str x
  | _, .tup xs, _, .tup h r, e => by
    simp only [toD] at e
    cases hd : toDs xs with
    | none => rw [hd] at e; cases e
    | some ds =>
      rw [hd] at e
      cases e
      exact .tup h.sq (r.dp hd)
  | _, .lst xs, _, .lst h n r, e => by
    simp only [toD] at e
    cases hd : toDs xs with
    | none => rw [hd] at e; cases e
    | some ds =>
      rw [hd] at e
      cases e
      exact .lst (.inl (.inl h)) (r.dp hd)
  | _, _, _, .scr h r, e => by simp only [toD] at e; cases e
  | _, _, _, .dct h n r, e => by simp only [toD] at e; cases e
  | _, _, _, .obj h n m r, e => by simp only [toD] at e; cases e
  | _, _, _, .fn m, e => by simp only [toD] at e; cases e
  | _, _, _, .ref m, e => by simp only [toD] at e; cases e
theorem RAs.dp : ∀ {vs : List V} {xs : List A} {ds : List PyData}, RAs K mg α L H vs xs → toDs xs = some ds → DpAll K H vs ds
  | _, _, _, .nil, e => by simp only [toDs] at e; cases e; exact .nil
  | _, a :: r, _, .cons x s, e => by
    simp only [toDs] at e
    cases h1 : toD a with
    | none => rw [h1] at e; cases e
    | some d =>
      cases h2 : toDs r with
      | none => rw [h1, h2] at e; cases e
      | some ds =>
        rw [h1, h2] at e
        cases e
        exact .cons (x.dp h1) (s.dp h2)
end
theorem Rel.dph (r : Rel K mg α h H) {v : V} {a : A} {d : PyData} (ra : RA K mg α (Lv α h) H v a) (e : toDh h a = some d) : Dp K H v d := by
  unfold toDh at e
  split at e
  · split at e
    · rename_i n _ xs e'
      cases hd : toDs xs with
      | none => rw [hd] at e; cases e
      | some ds =>
        rw [hd] at e
        cases e
        cases ra with
        | ref ep =>
          cases r.obj e' ep with
          | lst h1 h2 => exact .lst (.inl (.inl h1)) (h2.dp hd)
    · cases e
  · exact ra.dp e
end
def vEq (neg : Bool) : F2 := fun a b h => match toDh h a, toDh h b with
  | some d, some e => if SeqAt.shaped d && SeqAt.shaped e then .ok (.bl (if neg then !PyData.eqv d e else PyData.eqv d e)) h else .bad
  | _, _ => .bad
theorem ab_eq {X : Cx} : Ab2 X.K X.mg (rEqD X.K) (vEq false) := by
  intro W σ α h H x y a b Q r ra rb q
  unfold vEq at q
  split at q
  · rename_i d e h1 h2
    split at q
    · rename_i s
      rw [Bool.and_eq_true] at s
      exact ⟨d, e, r.dph ra h1, r.dph rb h2, s.1, s.2, post_ok q r (.bl _)⟩
    · exact q.elim
  · exact q.elim
theorem ab_ne {X : Cx} : Ab2 X.K X.mg (rNeD X.K) (vEq true) := by
  intro W σ α h H x y a b Q r ra rb q
  unfold vEq at q
  split at q
  · rename_i d e h1 h2
    split at q
    · rename_i s
      rw [Bool.and_eq_true] at s
      exact ⟨d, e, r.dph ra h1, r.dph rb h2, s.1, s.2, post_ok q r (.bl _)⟩
    · exact q.elim
  · exact q.elim
def isNon : A → Bool
  | .non => true
  | _ => false
def vIs (neg : Bool) : F2 := fun a b h => match b with
  | .non => .ok (.bl (if neg then !isNon a else isNon a)) h
  | _ => .bad
theorem RA.isNon {K : PySem.W.Frag} {mg : Str → Option Value} {α : Al} {L : Addr → Prop} {H : Hp} {v : V} {a : A} (r : RA K mg α L H v a) : decide (v = .non) = isNon a := by
  cases r <;> rfl
section
variable {X : Cx} {W : WX} {a b : Expr} {ma mb : M A} {pos : Pos}
theorem ab_is : Ab2 X.K X.mg (fun x y H Q => y = .non ∧ Q (.bl (decide (x = .non))) H) (vIs false) := by
  intro W σ α h H x y a b Q r ra rb q
  unfold vIs at q
  split at q
  · cases rb
    exact ⟨rfl, post_ok q r (by rw [ra.isNon]; exact .bl _)⟩
  · exact q.elim
theorem ab_isnt : Ab2 X.K X.mg (fun x y H Q => y = .non ∧ Q (.bl (!decide (x = .non))) H) (vIs true) := by
  intro W σ α h H x y a b Q r ra rb q
  unfold vIs at q
  split at q
  · cases rb
    exact ⟨rfl, post_ok q r (by rw [ra.isNon]; exact .bl _)⟩
  · exact q.elim
def cInt (c : Int → Int → Bool) : F2 := intF fun i j => .bl (c i j)
end
end Cl
namespace Cl
open PySem PySem.Spec PyProof.Rows L2
def flatA : A → Bool
  | .non => true
  | .bl _ => true
  | .int _ => true
  | .str _ => true
  | _ => false
def eqFA : A → A → Bool
  | .non, .non => true
  | .bl a, .bl b => a == b
  | .bl a, .int b => (if a then 1 else 0) == b
  | .int a, .bl b => a == (if b then 1 else 0)
  | .int a, .int b => a == b
  | .str a, .str b => a == b
  | _, _ => false
def inA (x : A) (xs : List A) : Bool := xs.any fun y => eqFA y x
def isKey : A → Bool
  | .int _ => true
  | .str _ => true
  | _ => false
def keq : A → A → Bool
  | .int i, .int j => decide (i = j)
  | .str i, .str j => decide (i = j)
  | _, _ => false
def kvGet (kvs : List (A × A)) (k : A) : Option A := (kvs.find? fun kv => keq kv.1 k).map (·.2)
def kvPut (kvs : List (A × A)) (k v : A) : List (A × A) :=
  if (kvs.any fun kv => keq kv.1 k) = true then kvs.map (fun kv => if keq kv.1 k then (kv.1, v) else kv) else kvs ++ [(k, v)]
def flatV' : V → Bool := flatV
section
variable {K : PySem.W.Frag} {mg : Str → Option Value} {α : Al} {L : Addr → Prop} {H : Hp} {h : AH}
theorem RA.flat {v : V} {a : A} (r : RA K mg α L H v a) (f : flatA a = true) : flatV v = true := by
  cases r <;> first | rfl | exact absurd f Bool.false_ne_true
theorem RAs.flat : ∀ {vs : List V} {xs : List A}, RAs K mg α L H vs xs → xs.all flatA = true → vs.all flatV = true
  | _, _, .nil, _ => rfl
  | _, _, .cons r s, f => by
    rw [List.all_cons, Bool.and_eq_true] at f ⊢
    exact ⟨r.flat f.1, s.flat f.2⟩
theorem RA.eqF {v w : V} {a b : A} (r : RA K mg α L H v a) (s : RA K mg α L H w b) (f : flatA a = true) (g : flatA b = true) : eqV v w = eqFA a b := by
  cases r <;> first | exact absurd f Bool.false_ne_true | (cases s <;> first | exact absurd g Bool.false_ne_true | rfl)
theorem RAs.inF {v : V} {a : A} (r : RA K mg α L H v a) (f : flatA a = true) : ∀ {vs : List V} {xs : List A}, RAs K mg α L H vs xs → xs.all flatA = true → inV v vs = inA a xs
  | _, _, .nil, _ => rfl
  | _, _, .cons q s, g => by
    rw [List.all_cons, Bool.and_eq_true] at g
    show ((eqV _ v) || inV v _) = ((eqFA _ a) || inA a _)
    rw [q.eqF r g.1 f, RAs.inF r f s g.2]
theorem keyA_key (k : Key) : isKey (keyA k) = true := by cases k <;> rfl
theorem kV_of {v : V} {b : A} (r : RA K mg α L H v b) (f : isKey b = true) : ∃ k : Key, v = kV k ∧ b = keyA k := by
  cases r <;> first | exact absurd f Bool.false_ne_true | skip
  · exact ⟨.inl _, rfl, rfl⟩
  · exact ⟨.inr _, rfl, rfl⟩
theorem keq_key (k l : Key) : keq (keyA k) (keyA l) = decide (k = l) := by
  cases k <;> cases l <;> simp [keq, keyA]
theorem RKs.get {k : Key} : ∀ {vs : List (Key × V)} {xs : List (A × A)}, RKs K mg α L H vs xs → RO K mg α L H (valV vs k) (kvGet xs (keyA k))
  | _, _, .nil => .none
  | _, _, .cons (k := k') (v := v) (a := a) (vs := vs) (xs := xs) r s => by
    by_cases e : k' = k
    · have h1 : valV ((k', v) :: vs) k = some v := valV_pos e
      have h2 : kvGet ((keyA k', a) :: xs) (keyA k) = some a := by simp [kvGet, keq_key, e]
      rw [h1, h2]
      exact .some r
    · have h1 : valV ((k', v) :: vs) k = valV vs k := valV_neg e
      have h2 : kvGet ((keyA k', a) :: xs) (keyA k) = kvGet xs (keyA k) := by simp [kvGet, keq_key, e]
      rw [h1, h2]
      exact RKs.get s
theorem RKs.length : ∀ {vs : List (Key × V)} {xs : List (A × A)}, RKs K mg α L H vs xs → vs.length = xs.length
  | _, _, .nil => rfl
  | _, _, .cons _ s => congrArg (· + 1) s.length
theorem RKs.anyk {k : Key} : ∀ {vs : List (Key × V)} {xs : List (A × A)}, RKs K mg α L H vs xs → (vs.any fun kv => decide (kv.1 = k)) = (xs.any fun kv => keq kv.1 (keyA k))
  | _, _, .nil => rfl
  | _, _, .cons _ s => by
    rw [List.any_cons, List.any_cons, s.anyk, keq_key]
theorem RKs.mapk {k : Key} {v : V} {a : A} (r : RA K mg α L H v a) : ∀ {vs : List (Key × V)} {xs : List (A × A)}, RKs K mg α L H vs xs →
    RKs K mg α L H (vs.map fun kv => if kv.1 = k then (kv.1, v) else kv) (xs.map fun kv => if keq kv.1 (keyA k) then (kv.1, a) else kv)
  | _, _, .nil => .nil
  | _, _, .cons (k := k') q s => by
    rw [List.map_cons, List.map_cons]
    by_cases e : k' = k
    · rw [if_pos e, if_pos (by rw [keq_key]; exact decide_eq_true e)]
      exact .cons r (s.mapk r)
    · rw [if_neg e, if_neg (by rw [keq_key]; simpa using e)]
      exact .cons q (s.mapk r)
theorem RKs.append : ∀ {vs vs' : List (Key × V)} {xs xs' : List (A × A)}, RKs K mg α L H vs xs → RKs K mg α L H vs' xs' → RKs K mg α L H (vs ++ vs') (xs ++ xs')
  | _, _, _, _, .nil, s => s
  | _, _, _, _, .cons r t, s => .cons r (t.append s)
theorem RKs.put {k : Key} {v : V} {a : A} {vs : List (Key × V)} {xs : List (A × A)} (s : RKs K mg α L H vs xs) (r : RA K mg α L H v a) : RKs K mg α L H (putK vs k v) (kvPut xs (keyA k) a) := by
  unfold putK kvPut
  rw [s.anyk]
  by_cases e : (xs.any fun kv => keq kv.1 (keyA k)) = true
  · rw [if_pos e, if_pos e]
    exact s.mapk r
  · rw [if_neg e, if_neg e]
    exact s.append (.cons r .nil)
end
def signOf (a : A) : Option Nat := match a with
  | .str x => match x.cps.toList with
    | [c] => some c
    | _ => none
  | _ => none
def vIn (neg : Bool) : F2 := fun a b h => match b with
  | .str z => match signOf a with
    | some c => .ok (.bl (neg ^^ decide (c ∈ z.cps.toList))) h
    | none => .bad
  | b => match dctOf h b with
    | some kvs => if isKey a then .ok (.bl (neg ^^ (kvGet kvs a).isSome)) h else .bad
    | none => match seqOf h b with
      | some xs => if flatA a && xs.all flatA then .ok (.bl (neg ^^ inA a xs)) h else
        match toDh h a, toDh h b with
        | some d, some (.list ds) => if SeqAt.shaped d && SeqAt.shaped (.list ds) then .ok (.bl (neg ^^ ds.any fun z => PyData.eqv z d)) h else .bad
        | _, _ => .bad
      | none => .bad
section
variable {X : Cx} {W : WX} {a b c : Expr} {ma mb mc : M A} {pos : Pos}
theorem signOf_str {a : A} {c : Nat} (e : signOf a = some c) : a = .str ⟨#[c]⟩ := by
  unfold signOf at e
  split at e
  · rename_i x
    split at e
    · rename_i c' e'
      cases e
      obtain ⟨arr⟩ := x
      have : arr = #[c] := by
        apply Array.ext'
        simpa using e'
      rw [this]
    · cases e
  · cases e
def rInV (K : PySem.W.Frag) (neg : Bool) : R2 := fun x y H Q => (rIn K neg x y H Q ∨ (∃ (c : Nat) (z : Str), x = .str ⟨#[c]⟩ ∧ y = .str z ∧ Q (.bl (neg ^^ decide (c ∈ z.cps.toList))) H)) ∨
  ∃ d ds, Dp K H x d ∧ Dp K H y (.list ds) ∧ SeqAt.shaped d = true ∧ SeqAt.shaped (.list ds) = true ∧ Q (.bl (neg ^^ ds.any fun z => PyData.eqv z d)) H
def rInDV (neg : Bool) : R2 := fun y x H Q => ∃ a o, x = .ref a ∧ DGet H a y o ∧ Q (.bl (neg ^^ o.isSome)) H
theorem ab_in (neg : Bool) : Ab2 X.K X.mg (fun x y H Q => rInV X.K neg x y H Q ∨ rInDV neg x y H Q) (vIn neg) := by
  intro W σ α h H x y a b Q r ra rb q
  unfold vIn at q
  split at q
  · cases rb
    split at q
    · rename_i c e
      have := signOf_str e
      subst this
      cases ra
      exact .inl (.inl (.inr ⟨_, _, rfl, rfl, post_ok q r (.bl _)⟩))
    · exact q.elim
  · split at q
    · rename_i kvs e
      split at q
      · rename_i ik
        obtain ⟨p, vs, rfl, x1, x2⟩ := r.dict rb e
        obtain ⟨k, rfl, rfl⟩ := kV_of ra ik
        refine .inr ⟨p, valV vs k, rfl, .inl ⟨vs, k, x1, rfl, rfl⟩, ?_⟩
        have g := x2.get (k := k)
        have : (valV vs k).isSome = (kvGet kvs (keyA k)).isSome := by
          generalize valV vs k = o1 at g
          generalize kvGet kvs (keyA k) = o2 at g
          cases g <;> rfl
        rw [this]
        exact post_ok q r (.bl _)
      · exact q.elim
    · split at q
      · rename_i xs e
        split at q
        · rename_i f
          rw [Bool.and_eq_true] at f
          obtain ⟨p, vs, rfl, x1, x2⟩ := r.seq rb e
          refine .inl (.inl (.inl ⟨p, vs, rfl, x1, ra.flat f.1, x2.flat f.2, ?_⟩))
          rw [RAs.inF ra f.1 x2 f.2]
          refine post_ok q r ?_
          cases neg
          · rw [if_neg Bool.false_ne_true, Bool.false_xor]; exact .bl _
          · rw [if_pos rfl, Bool.true_xor]; exact .bl _
        · split at q
          · rename_i d ds e1 e2
            split at q
            · rename_i s
              rw [Bool.and_eq_true] at s
              exact .inl (.inr ⟨d, ds, r.dph ra e1, r.dph rb e2, s.1, s.2, post_ok q r (.bl _)⟩)
            · exact q.elim
          · exact q.elim
      · exact q.elim
theorem opr_imp {f : Value → Value → Sem Value} {r r' : R2} (h : OpR X f r') (i : ∀ x y H Q, r x y H Q → r' x y H Q) : OpR X f r := fun p s σ H x y v u Q I a b q => h p s σ H x y v u Q I a b (i _ _ _ _ q)
theorem op_inV (hu : X.A.units + 65 < cLine) : OpR X (compareOp .In) (rInV X.K false) := by
  refine OpR.or (OpR.or op_in_seq (opr_imp op_in_sign ?_)) (opr_imp (op_inD hu) ?_)
  · rintro x y H Q ⟨c, z, h1, h2, q⟩
    exact ⟨c, z, h1, h2, by simpa using q⟩
  · rintro x y H Q ⟨d, ds, h1, h2, h3, h4, q⟩
    exact ⟨d, ds, h1, h2, h3, h4, by simpa using q⟩
theorem op_notInV (hu : X.A.units + 65 < cLine) : OpR X (compareOp .NotIn) (rInV X.K true) := by
  refine OpR.or (OpR.or op_notIn_seq (opr_imp op_notIn_sign ?_)) (opr_imp (op_notInD hu) ?_)
  · rintro x y H Q ⟨c, z, h1, h2, q⟩
    exact ⟨c, z, h1, h2, by simpa using q⟩
  · rintro x y H Q ⟨d, ds, h1, h2, h3, h4, q⟩
    exact ⟨d, ds, h1, h2, h3, h4, by simpa using q⟩
def mBool (m : M A) : M Bool := fun env h => (m env h).bind fun a h => match a with
  | .bl b => .ok b h
  | _ => .bad
theorem bin_read {r : R2} {f : F2} (hf : Ab2 X.K X.mg r f) {σ : L2.St} {α : Al} {h : AH} {H : Hp} {env : Env} {Q : VK} (r0 : Rel X.K X.mg α h H) (s : SR X.K X.mg α (Lv α h) H σ env) (q : Post rtA X.K X.mg W σ α h H (eBin f ma mb env h) Q) :
    tOf rtA X.K X.mg W ma σ H fun x H1 => tOf rtA X.K X.mg W mb σ H1 fun y H2 => r x y H2 Q :=
  ⟨α, h, env, r0, s, post_bind q fun a h1 α1 H1 x r1 s1 ra q1 => ⟨α1, h1, env, r1, s.step s1.kp, post_bind q1 fun b h2 α2 H2 y r2 s2 rb q2 =>
    hf W σ α2 h2 H2 x y a b Q r2 (ra.step s2.kp) rb q2⟩⟩
theorem post_bool {σ : L2.St} {α : Al} {h : AH} {H : Hp} {r : R A} {Q : Bool → Hp → Prop} (q : Post rtB X.K X.mg W σ α h H (r.bind fun a h => match a with
  | .bl b => .ok b h
  | _ => .bad) Q) : Post rtA X.K X.mg W σ α h H r fun x H' => ∃ k, x = .bl k ∧ Q k H' :=
  post_bind q fun a h1 α1 H1 x r1 s1 ra q1 => by
    split at q1
    · cases ra
      exact ⟨_, rfl, post_ok q1 r1 rfl⟩
    · exact q1.elim
theorem ct_of {e : Expr} {t : TT} {m : M Bool} (p : PT X e t) (i : ∀ σ α h H env Q, Rel X.K X.mg α h H → SR X.K X.mg α (Lv α h) H σ env → Post rtB X.K X.mg W σ α h H (m env h) Q → t σ H Q) : CT X W e m :=
  PT.imp p fun σ H Q ⟨α, h, env, r, s, q⟩ => i σ α h H env Q r s q
theorem ct_cmp {op : CmpOp} {r : R2} {f : F2} (ho : OpR X (compareOp op) r) (hf : Ab2 X.K X.mg r f) (ha : CE X W a ma) (hb : CE X W b mb) (hm : behindInMarks op b = false) : CT X W (.Compare a [op] [b] pos) (mBool (eBin f ma mb)) :=
  ct_of (pt_cmpR ho ha hb hm) fun σ α h H env Q r s q => bin_read hf r s (post_bool q)
theorem op_dinV (hu : X.A.units + 1 < cLine) : OpR X (compareOp .In) (rInDV false) := by
  intro pins s σ H x y v u Q I rx ry h
  obtain ⟨p, o, rfl, g, q⟩ := h
  cases ry
  exact d_in hu I g rx fun s' I' => ⟨.bl o.isSome, H, I', rfl, by simpa using q⟩
theorem op_dnotinV (hu : X.A.units + 1 < cLine) : OpR X (compareOp .NotIn) (rInDV true) := by
  intro pins s σ H x y v u Q I rx ry h
  obtain ⟨p, o, rfl, g, q⟩ := h
  cases ry
  exact d_notIn hu I g rx fun s' I' => ⟨.bl (!o.isSome), H, I', rfl, by simpa using q⟩
theorem op_in (hu : X.A.units + 65 < cLine) : OpR X (compareOp .In) (fun x y H Q => rInV X.K false x y H Q ∨ rInDV false x y H Q) := (op_inV hu).or (op_dinV (by omega))
theorem op_notin (hu : X.A.units + 65 < cLine) : OpR X (compareOp .NotIn) (fun x y H Q => rInV X.K true x y H Q ∨ rInDV true x y H Q) := (op_notInV hu).or (op_dnotinV (by omega))
def vIx : F2 := fun a b h => match a, b with
  | .str z, .int i => match atI z.cps.toList i with
    | some c => if z.length ≤ lim then .ok (.str ⟨#[c]⟩) h else .bad
    | none => .bad
  | a, b => match dctOf h a with
    | some kvs => if isKey b then (match kvGet kvs b with
      | some v => .ok v h
      | none => .bad) else .bad
    | none => match seqOf h a, b with
      | some xs, .int i => match atI xs i with
        | some v => .ok v h
        | none => .bad
      | _, _ => .bad
def rIxDV : R2 := fun x y H Q => ∃ a v, x = .ref a ∧ DGet H a y (some v) ∧ Q v H
theorem ix_dict (hu : X.A.units + 1 < cLine) : IxR X rIxDV := by
  intro value slice pins s σ H x y v u Q I rx ry h hs
  obtain ⟨p, w, rfl, g, q⟩ := h
  obtain rfl : v = Value.ref p := rx
  exact tail_any (dict_typeIs I g) PySem.F.slot_dict_getitem.lookup (d_getItem hu I g ry fun w' s' I' rw' => ⟨w, H, I', rw', q⟩) hs
theorem ab_ix : Ab2 X.K X.mg (fun x y H Q => rIx X.K x y H Q ∨ rIxDV x y H Q) vIx := by
  intro W σ α h H x y a b Q r ra rb q
  unfold vIx at q
  split at q
  · cases ra
    cases rb
    split at q
    · rename_i c e
      split at q
      · rename_i l
        exact .inl (.inr (.inr ⟨_, _, _, rfl, rfl, lim_le l, e, post_ok q r (.str _)⟩))
      · exact q.elim
    · exact q.elim
  · split at q
    · rename_i kvs e
      split at q
      · rename_i ik
        split at q
        · rename_i v ev
          obtain ⟨p, vs, rfl, x1, x2⟩ := r.dict ra e
          obtain ⟨k, rfl, rfl⟩ := kV_of rb ik
          have g := x2.get (k := k)
          rw [ev] at g
          generalize hv : valV vs k = o1 at g
          cases g with
          | some rv => exact .inr ⟨p, _, rfl, .inl ⟨vs, k, x1, rfl, hv.symm⟩, post_ok q r rv⟩
        · exact q.elim
      · exact q.elim
    · split at q
      · rename_i xs i e _
        split at q
        · rename_i v ev
          obtain ⟨p, vs, rfl, x1, x2⟩ := r.seq ra e
          cases rb
          obtain ⟨w, e1, e2⟩ := x2.at_ ev
          rcases x1 with x1 | x1
          · exact .inl (.inl ⟨_, _, _, _, rfl, rfl, x1, e1, post_ok q r e2⟩)
          · exact .inl (.inr (.inl ⟨_, _, _, _, rfl, rfl, x1, e1, post_ok q r e2⟩))
        · exact q.elim
      · exact q.elim
theorem ce_ixr (hu : X.A.units + 1 < cLine) (ha : CE X W a ma) (hb : CE X W b mb) (hs : PlainIx b) : CE X W (.Subscript a b pos) (eBin vIx ma mb) :=
  ce_of (pe_ix (ix_seq.or (ix_dict hu)) ha hb hs) fun σ α h H env Q r s q => bin_read ab_ix r s q
def mAnd (ma mb : M Bool) : M Bool := fun env h => (ma env h).bind fun b h => if b then mb env h else .ok false h
def mOr (ma mb : M Bool) : M Bool := fun env h => (ma env h).bind fun b h => if b then .ok true h else mb env h
def mNot (ma : M Bool) : M Bool := fun env h => (ma env h).bind fun b h => .ok (!b) h
theorem cw_of {e : Expr} {t : TT} {m : M Bool} (p : PW X e t) (i : ∀ σ α h H env Q, Rel X.K X.mg α h H → SR X.K X.mg α (Lv α h) H σ env → Post rtB X.K X.mg W σ α h H (m env h) Q → t σ H Q) : CW X W e m :=
  PW.imp p fun σ H Q ⟨α, h, env, r, s, q⟩ => i σ α h H env Q r s q
theorem CW.pt {e : Expr} {m : M Bool} (h : CW X W e m) : CT X W e m := PW.pt h
variable {ta tb : M Bool} {rest : List Expr}
theorem cw_and1 (ha : CT X W a ta) : CW X W (.BoolOp .And [a] pos) ta := pw_and1 ha
theorem cw_or1 (ha : CT X W a ta) : CW X W (.BoolOp .Or [a] pos) ta := pw_or1 ha
theorem cw_and (ha : CT X W a ta) (hb : CW X W (.BoolOp .And (b :: rest) pos) tb) : CW X W (.BoolOp .And (a :: b :: rest) pos) (mAnd ta tb) :=
  cw_of (pw_and ha hb) fun σ α h H env Q r s q => ⟨α, h, env, r, s, post_bind q fun c h1 α1 H1 x r1 s1 e q1 => by
    cases e
    cases c
    · exact post_ok q1 r1 rfl
    · exact ⟨α1, h1, env, r1, s.step s1.kp, q1⟩⟩
theorem cw_or (ha : CT X W a ta) (hb : CW X W (.BoolOp .Or (b :: rest) pos) tb) : CW X W (.BoolOp .Or (a :: b :: rest) pos) (mOr ta tb) :=
  cw_of (pw_or ha hb) fun σ α h H env Q r s q => ⟨α, h, env, r, s, post_bind q fun c h1 α1 H1 x r1 s1 e q1 => by
    cases e
    cases c
    · exact ⟨α1, h1, env, r1, s.step s1.kp, q1⟩
    · exact post_ok q1 r1 rfl⟩
theorem ct_not (ha : CT X W a ta) : CT X W (.UnaryOp .Not a pos) (mNot ta) :=
  ct_of (pt_not ha) fun σ α h H env Q r s q => ⟨α, h, env, r, s, post_bind q fun c h1 α1 H1 x r1 s1 e q1 => by
    cases e
    exact post_ok q1 r1 rfl⟩
def truA (h : AH) : A → Option Bool
  | .non => some false
  | .bl b => some b
  | .int i => some (i != 0)
  | .str y => if y.length ≤ lim then some ((y.length : Int) != 0) else none
  | a => match seqOf h a with
    | some xs => some (!xs.isEmpty)
    | none => match a with
      | .ref n => match h[n]? with
        | some (some (.dct xs)) => some (!xs.isEmpty)
        | _ => none
      | _ => none
def mTru (m : M A) : M Bool := fun env h => (m env h).bind fun a h => match truA h a with
  | some b => .ok b h
  | none => .bad
theorem RAs.emp {K : PySem.W.Frag} {mg : Str → Option Value} {α : Al} {L : Addr → Prop} {H : Hp} {vs : List V} {xs : List A} (r : RAs K mg α L H vs xs) : vs.isEmpty = xs.isEmpty := by cases r <;> rfl
theorem RKs.emp {K : PySem.W.Frag} {mg : Str → Option Value} {α : Al} {L : Addr → Prop} {H : Hp} {vs : List (Key × V)} {xs : List (A × A)} (r : RKs K mg α L H vs xs) : vs.isEmpty = xs.isEmpty := by cases r <;> rfl
theorem Rel.tru {K : PySem.W.Frag} {mg : Str → Option Value} {α : Al} {h : AH} {H : Hp} (r : Rel K mg α h H) {v : V} {a : A} {b : Bool} (ra : RA K mg α (Lv α h) H v a) (e : truA h a = some b) : TruV K v H b := by
  unfold truA at e
  split at e
  · cases ra; cases e; rfl
  · cases ra; cases e; rfl
  · cases ra; cases e; rfl
  · split at e
    · rename_i l
      cases ra; cases e; exact ⟨lim_le l, rfl⟩
    · cases e
  · split at e
    · rename_i xs e1
      obtain ⟨p, vs, rfl, x1, x2⟩ := r.seq ra e1
      cases e
      rw [← x2.emp]
      rcases x1 with x1 | x1
      · exact .inl ⟨vs, x1, rfl⟩
      · exact .inr (.inl ⟨vs, x1, rfl⟩)
    · split at e
      · split at e
        · rename_i n _ xs e2
          cases e
          cases ra with
          | ref ep =>
            cases r.obj e2 ep with
            | dct h1 h2 => exact .inr (.inr ⟨_, h1, by rw [h2.emp]⟩)
        · cases e
      · cases e
theorem ct_tru (ha : CE X W a ma) (he : ∀ whole, isTrue a X.env whole = (do let v ← whole; standAt a.pos; holding [v] (truthy v)) := by intro _; rfl) : CT X W a (mTru ma) :=
  ct_of (pt_truth ha he) fun σ α h H env Q r s q => ⟨α, h, env, r, s, post_bind q fun a h1 α1 H1 x r1 s1 ra q1 => by
    split at q1
    · rename_i k e
      exact ⟨k, r1.tru ra e, post_ok q1 r1 rfl⟩
    · exact q1.elim⟩
def eIf (c : M Bool) (ma mb : M A) : M A := fun env h => (c env h).bind fun b h => if b then ma env h else mb env h
theorem ce_if {mc : M Bool} (hc : CT X W c mc) (ha : CE X W a ma) (hb : CE X W b mb) : CE X W (.IfExp c a b pos) (eIf mc ma mb) :=
  ce_of (pe_ifExp hc ha hb) fun σ α h H env Q r s q => ⟨α, h, env, r, s, post_bind q fun c h1 α1 H1 x r1 s1 e q1 => by
    cases e
    cases c
    · exact ⟨α1, h1, env, r1, s.step s1.kp, q1⟩
    · exact ⟨α1, h1, env, r1, s.step s1.kp, q1⟩⟩
def eAnd (ma mb : M A) : M A := fun env h => (ma env h).bind fun a h => match truA h a with
  | some b => if b then mb env h else .ok a h
  | none => .bad
def eOr (ma mb : M A) : M A := fun env h => (ma env h).bind fun a h => match truA h a with
  | some b => if b then .ok a h else mb env h
  | none => .bad
def eNot (ma : M A) : M A := fun env h => (ma env h).bind fun a h => match truA h a with
  | some b => .ok (.bl (!b)) h
  | none => .bad
theorem ce_one {op} (ha : CE X W a ma) : CE X W (.BoolOp op [a] pos) ma := pe_one ha
theorem ce_and (ha : CE X W a ma) (hb : CE X W (.BoolOp .And (b :: rest) pos) mb) : CE X W (.BoolOp .And (a :: b :: rest) pos) (eAnd ma mb) :=
  ce_of (pe_andT ha hb) fun σ α h H env Q r s q => ⟨α, h, env, r, s, post_bind q fun c h1 α1 H1 x r1 s1 ra q1 => by
    split at q1
    · rename_i b e
      refine ⟨b, r1.tru ra e, ?_⟩
      cases b
      · exact post_ok q1 r1 ra
      · exact ⟨α1, h1, env, r1, s.step s1.kp, q1⟩
    · exact q1.elim⟩
theorem ce_or (ha : CE X W a ma) (hb : CE X W (.BoolOp .Or (b :: rest) pos) mb) : CE X W (.BoolOp .Or (a :: b :: rest) pos) (eOr ma mb) :=
  ce_of (pe_orT ha hb) fun σ α h H env Q r s q => ⟨α, h, env, r, s, post_bind q fun c h1 α1 H1 x r1 s1 ra q1 => by
    split at q1
    · rename_i b e
      refine ⟨b, r1.tru ra e, ?_⟩
      cases b
      · exact ⟨α1, h1, env, r1, s.step s1.kp, q1⟩
      · exact post_ok q1 r1 ra
    · exact q1.elim⟩
theorem ce_not (ha : CE X W a ma) : CE X W (.UnaryOp .Not a pos) (eNot ma) :=
  ce_of (pe_notT ha) fun σ α h H env Q r s q => ⟨α, h, env, r, s, post_bind q fun c h1 α1 H1 x r1 s1 ra q1 => by
    split at q1
    · rename_i b e
      exact ⟨b, r1.tru ra e, post_ok q1 r1 (.bl _)⟩
    · exact q1.elim⟩
def eChain (f g : F2) (ma mb mc : M A) : M A := fun env h => (ma env h).bind fun a h => (mb env h).bind fun b h => (f a b h).bind fun z h => match z with
  | .bl k => if k then (mc env h).bind fun c h => g b c h else .ok (.bl false) h
  | _ => .bad
theorem chain_read {r r' : R2} {f g : F2} (hf : Ab2 X.K X.mg r f) (hg : Ab2 X.K X.mg r' g) {σ : L2.St} {α : Al} {h : AH} {H : Hp} {env : Env} {Q : VK} (r0 : Rel X.K X.mg α h H) (s : SR X.K X.mg α (Lv α h) H σ env) (q : Post rtA X.K X.mg W σ α h H (eChain f g ma mb mc env h) Q) :
    tChain r r' (tOf rtA X.K X.mg W ma) (tOf rtA X.K X.mg W mb) (tOf rtA X.K X.mg W mc) σ H Q :=
  ⟨α, h, env, r0, s, post_bind q fun a h1 α1 H1 x r1 s1 ra q1 => ⟨α1, h1, env, r1, s.step s1.kp, post_bind q1 fun b h2 α2 H2 y r2 s2 rb q2 =>
    hf W σ α2 h2 H2 x y a b _ r2 (ra.step s2.kp) rb (post_bind q2 fun z h3 α3 H3 vz r3 s3 rz q3 => by
      split at q3
      · rename_i k
        cases rz
        refine ⟨_, rfl, ?_⟩
        cases k
        · exact post_ok q3 r3 (.bl _)
        · exact ⟨α3, h3, env, r3, ((s.step s1.kp).step s2.kp).step s3.kp, post_bind q3 fun c h4 α4 H4 w r4 s4 rc q4 => hg W σ α4 h4 H4 y w b c Q r4 ((rb.step s3.kp).step s4.kp) rc q4⟩
      · exact q3.elim)⟩⟩
theorem ce_chain {op op' : CmpOp} {r r' : R2} {f g : F2} (ho : OpR X (compareOp op) r) (ho' : OpR X (compareOp op') r') (hf : Ab2 X.K X.mg r f) (hg : Ab2 X.K X.mg r' g) (ha : CE X W a ma) (hb : CE X W b mb) (hc : CE X W c mc)
    (hm : lastMarks [op, op'] [b, c] = false := by with_unfolding_all rfl) : CE X W (.Compare a [op, op'] [b, c] pos) (eChain f g ma mb mc) :=
  ce_of (pe_chain ho ho' ha hb hc hm) fun σ α h H env Q r s q => chain_read hf hg r s q
theorem ct_chain {op op' : CmpOp} {r r' : R2} {f g : F2} (ho : OpR X (compareOp op) r) (ho' : OpR X (compareOp op') r') (hf : Ab2 X.K X.mg r f) (hg : Ab2 X.K X.mg r' g) (ha : CE X W a ma) (hb : CE X W b mb) (hc : CE X W c mc)
    (hm : lastMarks [op, op'] [b, c] = false := by with_unfolding_all rfl) : CT X W (.Compare a [op, op'] [b, c] pos) (mBool (eChain f g ma mb mc)) :=
  ct_of (pt_chain ho ho' ha hb hc hm) fun σ α h H env Q r s q => chain_read hf hg r s (post_bool q)
end
end Cl
namespace Cl
open PySem PySem.Spec PyProof.Rows L2
section
variable {X : Cx} {W : WX} {a b c e : Expr} {es : List Expr} {ma mb mc : M A} {ms : M (List A)} {pos : Pos}
def eTup (ms : M (List A)) : M A := fun env h => (ms env h).bind fun as h => if as.length ≤ lim then .ok (.tup as) h else .bad
def eLst (lv : Bool) (ms : M (List A)) : M A := fun env h => (ms env h).bind fun as h => if as.length ≤ lim then mkL lv as h else .bad
theorem ce_tup {x1} (hs : CAs X W es ms) : CE X W (.Tuple es x1 pos) (eTup ms) :=
  ce_of (pe_tup hs) fun σ α h H env Q r s q => ⟨α, h, env, r, s, post_bind q fun as h1 α1 H1 xs r1 s1 ra q1 => by
    split at q1
    · rename_i l
      exact ⟨by rw [ra.length]; exact lim_le l, fun p np => post_alloc q1 r1 np fun _ st nl => .tup (.inl ⟨.inl upd_same, nl⟩) (ra.step st.kp)⟩
    · exact q1.elim⟩
theorem ce_lst (lv : Bool) (hs : CAs X W es ms) : CE X W (.List es pos) (eLst lv ms) :=
  ce_of (pe_lst hs) fun σ α h H env Q r s q => ⟨α, h, env, r, s, post_bind q fun as h1 α1 H1 xs r1 s1 ra q1 => by
    split at q1
    · rename_i l
      exact ⟨by rw [ra.length]; exact lim_le l, fun p np => post_mkL q1 r1 np ra⟩
    · exact q1.elim⟩
def eDict0 (lv : Bool) : M A := fun _ h => mkD lv [] h
theorem ce_dict0 (lv : Bool) (p : PE X e tDNewK) : CE X W e (eDict0 lv) :=
  ce_of p fun σ α h H env Q r s q => fun p np => post_mkD q r np .nil
def ePart (ma : M A) : M (Option Int) := fun env h => (ma env h).bind fun a h => match a with
  | .int i => .ok (some i) h
  | _ => .bad
def eNoPart : M (Option Int) := fun _ h => .ok none h
theorem cpo_none : CPo X W none eNoPart := PO.imp po_none fun σ H Q ⟨α, h, env, r, s, q⟩ => post_ok q r rfl
theorem cpo_some (ha : CE X W a ma) : CPo X W (some a) (ePart ma) := PO.imp (po_some ha) fun σ H Q ⟨α, h, env, r, s, q⟩ => ⟨α, h, env, r, s, post_bind q fun a h1 α1 H1 x r1 s1 ra q1 => by
  split at q1
  · cases ra
    exact ⟨_, rfl, post_ok q1 r1 rfl⟩
  · exact q1.elim⟩
def cutA (xs : List A) (lo hi : Option Int) : List A := (xs.drop (HT.sIx xs.length 0 lo)).take (HT.sIx xs.length xs.length hi - HT.sIx xs.length 0 lo)
def vSl (lv : Bool) (a : A) (lo hi : Option Int) (h : AH) : R A := match a with
  | .str z => if z.length ≤ lim then .ok (.str (cutS z lo hi)) h else .bad
  | .tup xs => .ok (.tup (cutA xs lo hi)) h
  | .scr xs => mkL lv (cutA xs lo hi) h
  | a => match lstOf h a with
    | some xs => mkL lv (cutA xs lo hi) h
    | none => .bad
def eSl (lv : Bool) (ma : M A) (ml mh : M (Option Int)) : M A := fun env h => (ma env h).bind fun a h => (ml env h).bind fun l h => (mh env h).bind fun u h => vSl lv a l u h
theorem SlR.or {r r' : V → Option Int → Option Int → Hp → VK → Prop} (p : SlR X r) (q : SlR X r') : SlR X (fun x l u H Q => r x l u H Q ∨ r' x l u H Q) := by
  intro pins s σ H x v vl vu lo hi sl Q I rx hs pl pu z
  rcases z with z | z
  · exact p pins s σ H x v vl vu lo hi sl Q I rx hs pl pu z
  · exact q pins s σ H x v vl vu lo hi sl Q I rx hs pl pu z
theorem RAs.cut {K : PySem.W.Frag} {mg : Str → Option Value} {α : Al} {L : Addr → Prop} {H : Hp} {vs : List V} {xs : List A} (r : RAs K mg α L H vs xs) (lo hi : Option Int) : RAs K mg α L H (cutV vs lo hi) (cutA xs lo hi) := by
  unfold cutV cutA
  rw [r.length]
  exact (r.drop _).take _
theorem ce_sl (lv : Bool) {lo hi : Option Expr} {p2 : Pos} {ml mh : M (Option Int)} (ha : CE X W a ma) (hl : CPo X W lo ml) (hh : CPo X W hi mh) : CE X W (.Subscript a (.Slice lo hi none p2) pos) (eSl lv ma ml mh) :=
  ce_of (pe_slice (SlR.or sl_str (SlR.or sl_list sl_tupA)) ha hl hh) fun σ α h H env Q r s q => ⟨α, h, env, r, s, post_bind q fun a h1 α1 H1 x r1 s1 ra q1 => ⟨α1, h1, env, r1, s.step s1.kp, post_bind q1 fun l h2 α2 H2 l' r2 s2 el q2 =>
    ⟨α2, h2, env, r2, (s.step s1.kp).step s2.kp, post_bind q2 fun u h3 α3 H3 u' r3 s3 eu q3 => by
      cases el
      cases eu
      have rb := (ra.step s2.kp).step s3.kp
      clear ra
      unfold vSl at q3
      split at q3
      · cases rb
        split at q3
        · rename_i l
          exact .inl ⟨_, rfl, lim_le l, post_ok q3 r3 (.str _)⟩
        · exact q3.elim
      · cases rb with
        | tup h1 h2 =>
          rename_i xs p vs
          refine .inr (.inr ⟨_, _, rfl, h1.sq, fun z => ?_, fun _ p np => ?_⟩)
          · have e : cutA xs l u = xs := by
              unfold cutA
              rw [← h2.length, z.1, z.2, List.drop_zero, Nat.sub_zero, h2.length, List.take_length]
            rw [e] at q3
            exact post_ok q3 r3 (.tup h1 h2)
          · exact post_alloc q3 r3 np fun _ st nl => .tup (.inl ⟨.inl upd_same, nl⟩) ((h2.cut _ _).step st.kp)
      · cases rb with
        | scr h1 h3 => exact .inr (.inl ⟨_, _, rfl, h1.sq, fun p np => post_mkL q3 r3 np (h3.cut _ _)⟩)
      · split at q3
        · rename_i xs e
          obtain ⟨p, vs, rfl, x1, x2⟩ := r3.lst rb e
          exact .inr (.inl ⟨_, _, rfl, .inl (.inl x1), fun p np => post_mkL q3 r3 np (x2.cut _ _)⟩)
        · exact q3.elim⟩⟩⟩
def vLen : FN := fun as h => match as with
  | [.str y] => if y.length ≤ lim then .ok (.int y.length) h else .bad
  | [a] => match seqOf h a with
    | some xs => .ok (.int xs.length) h
    | none => .bad
  | _ => .bad
theorem RAs.one {K : PySem.W.Frag} {mg : Str → Option Value} {α : Al} {L : Addr → Prop} {H : Hp} {vs : List V} {a : A} (r : RAs K mg α L H vs [a]) : ∃ v, vs = [v] ∧ RA K mg α L H v a := by
  cases r with
  | cons r s => cases s; exact ⟨_, rfl, r⟩
theorem RAs.two {K : PySem.W.Frag} {mg : Str → Option Value} {α : Al} {L : Addr → Prop} {H : Hp} {vs : List V} {a b : A} (r : RAs K mg α L H vs [a, b]) : ∃ v w, vs = [v, w] ∧ RA K mg α L H v a ∧ RA K mg α L H w b := by
  cases r with
  | cons r s =>
    obtain ⟨w, rfl, q⟩ := s.one
    exact ⟨_, _, rfl, r, q⟩
theorem an_len : AbN X.K X.mg (fun xs H Q => ∃ x n, xs = [x] ∧ LenV X.K x H n ∧ Q (.int n) H) vLen := by
  intro W σ α h H xs as Q r ra q
  unfold vLen at q
  split at q
  · obtain ⟨v, rfl, x⟩ := ra.one
    cases x
    split at q
    · rename_i l
      exact ⟨_, _, rfl, ⟨lim_le l, rfl⟩, post_ok q r (.int _)⟩
    · exact q.elim
  · obtain ⟨v, rfl, x⟩ := ra.one
    split at q
    · rename_i e
      obtain ⟨p, vs, rfl, x1, x2⟩ := r.seq x e
      refine ⟨_, vs.length, rfl, ?_, ?_⟩
      · rcases x1 with x1 | x1
        · exact .inl ⟨_, x1, rfl⟩
        · exact .inr ⟨_, x1, rfl⟩
      · rw [x2.length]
        exact post_ok q r (.int _)
    · exact q.elim
  · exact q.elim
def vAbs : FN := fun as h => match as with
  | [.int i] => .ok (.int (if i < 0 then -i else i)) h
  | _ => .bad
theorem an_abs : AbN X.K X.mg (fun xs H Q => ∃ i, xs = [.int i] ∧ Q (.int (if i < 0 then -i else i)) H) vAbs := by
  intro W σ α h H xs as Q r ra q
  unfold vAbs at q
  split at q
  · obtain ⟨v, rfl, x⟩ := ra.one
    cases x
    exact ⟨_, rfl, post_ok q r (.int _)⟩
  · exact q.elim
def vMax2 : FN := fun as h => match as with
  | [.int i, .int j] => .ok (.int (if j > i then j else i)) h
  | _ => .bad
theorem an_max2 : AbN X.K X.mg (fun xs H Q => ∃ i j, xs = [.int i, .int j] ∧ Q (.int (if j > i then j else i)) H) vMax2 := by
  intro W σ α h H xs as Q r ra q
  unfold vMax2 at q
  split at q
  · obtain ⟨v, w, rfl, x, y⟩ := ra.two
    cases x
    cases y
    exact ⟨_, _, rfl, post_ok q r (.int _)⟩
  · exact q.elim
def vMin2 : FN := fun as h => match as with
  | [.int i, .int j] => .ok (.int (if j < i then j else i)) h
  | _ => .bad
theorem an_min2 : AbN X.K X.mg (fun xs H Q => ∃ i j, xs = [.int i, .int j] ∧ Q (.int (if j < i then j else i)) H) vMin2 := by
  intro W σ α h H xs as Q r ra q
  unfold vMin2 at q
  split at q
  · obtain ⟨v, w, rfl, x, y⟩ := ra.two
    cases x
    cases y
    exact ⟨_, _, rfl, post_ok q r (.int _)⟩
  · exact q.elim
def vInt : FN := fun as h => match as with
  | [.int i] => .ok (.int i) h
  | [.bl k] => .ok (.int (if k then 1 else 0)) h
  | [.str a] => match intText? a with
    | some n => if a.length ≤ 640 then .ok (.int n) h else .bad
    | none => .bad
  | _ => .bad
theorem an_int : AbN X.K X.mg (fun xs H Q => ((∃ i, xs = [.int i] ∧ Q (.int i) H) ∨ ∃ k, xs = [.bl k] ∧ Q (.int (if k then 1 else 0)) H) ∨ (∃ a n, xs = [.str a] ∧ PySem.intText? a = some n ∧ a.length ≤ 640 ∧ Q (.int n) H)) vInt := by
  intro W σ α h H xs as Q r ra q
  unfold vInt at q
  split at q
  · obtain ⟨v, rfl, x⟩ := ra.one
    cases x
    exact .inl (.inl ⟨_, rfl, post_ok q r (.int _)⟩)
  · obtain ⟨v, rfl, x⟩ := ra.one
    cases x
    exact .inl (.inr ⟨_, rfl, post_ok q r (.int _)⟩)
  · obtain ⟨v, rfl, x⟩ := ra.one
    cases x
    split at q
    · rename_i n e
      split at q
      · rename_i l
        exact .inr ⟨_, _, rfl, e, l, post_ok q r (.int _)⟩
      · exact q.elim
    · exact q.elim
  · exact q.elim
def vStr : FN := fun as h => match as with
  | [.int i] => if i.natAbs.log2 < 1920 then .ok (.str (toString i)) h else .bad
  | [.str a] => .ok (.str a) h
  | _ => .bad
theorem an_str : AbN X.K X.mg (fun xs H Q => (∃ i, xs = [.int i] ∧ i.natAbs.log2 < 1920 ∧ Q (.str (toString i)) H) ∨ (∃ a, xs = [.str a] ∧ Q (.str a) H)) vStr := by
  intro W σ α h H xs as Q r ra q
  unfold vStr at q
  split at q
  · obtain ⟨v, rfl, x⟩ := ra.one
    cases x
    split at q
    · rename_i l
      exact .inl ⟨_, rfl, l, post_ok q r (.str _)⟩
    · exact q.elim
  · obtain ⟨v, rfl, x⟩ := ra.one
    cases x
    exact .inr ⟨_, rfl, post_ok q r (.str _)⟩
  · exact q.elim
def vList (lv : Bool) : FN := fun as h => match as with
  | [a] => match seqOf h a with
    | some xs => mkL lv xs h
    | none => match dctOf h a with
      | some kvs => mkL lv (kvs.map (·.1)) h
      | none => .bad
  | _ => .bad
theorem RKs.keys {K : PySem.W.Frag} {mg : Str → Option Value} {α : Al} {L : Addr → Prop} {H : Hp} : ∀ {vs : List (Key × V)} {xs : List (A × A)}, RKs K mg α L H vs xs → RAs K mg α L H (vs.map fun kv => kV kv.1) (xs.map (·.1))
  | _, _, .nil => .nil
  | _, _, .cons (k := k) r s => .cons (by cases k; exact .int _; exact .str _) s.keys
theorem RKs.vals {K : PySem.W.Frag} {mg : Str → Option Value} {α : Al} {L : Addr → Prop} {H : Hp} : ∀ {vs : List (Key × V)} {xs : List (A × A)}, RKs K mg α L H vs xs → RAs K mg α L H (vs.map (·.2)) (xs.map (·.2))
  | _, _, .nil => .nil
  | _, _, .cons r s => .cons r s.vals
theorem an_list (lv : Bool) : AbN X.K X.mg (fun xs H Q => (∃ p ys, xs = [.ref p] ∧ (SqL X.K H p ys ∨ SqT X.K H p ys) ∧ ∀ l, H l = none → Q (.ref l) (upd H l (.lst ys))) ∨
    (∃ (a : Addr) (kvs : List (Key × V)), xs = [.ref a] ∧ Rd H a (.dK kvs) ∧ ∀ p, H p = none → Q (.ref p) (upd H p (.lst (kvs.map fun kv => kV kv.1))))) (vList lv) := by
  intro W σ α h H xs as Q r ra q
  unfold vList at q
  split at q
  · obtain ⟨v, rfl, x⟩ := ra.one
    split at q
    · rename_i e
      obtain ⟨p, vs, rfl, x1, x2⟩ := r.seq x e
      exact .inl ⟨_, _, rfl, x1, fun l nl => post_mkL q r nl x2⟩
    · split at q
      · rename_i e
        obtain ⟨p, vs, rfl, x1, x2⟩ := r.dict x e
        exact .inr ⟨_, _, rfl, x1, fun l nl => post_mkL q r nl x2.keys⟩
      · exact q.elim
  · exact q.elim
def vTuple : FN := fun as h => match as with
  | [a] => match seqOf h a with
    | some xs => .ok (.tup xs) h
    | none => .bad
  | _ => .bad
theorem an_tuple : AbN X.K X.mg (fun xs H Q => ∃ p ys, xs = [.ref p] ∧ ((SqL X.K H p ys ∧ ∀ l, H l = none → Q (.ref l) (upd H l (.tup ys))) ∨ (SqT X.K H p ys ∧ Q (.ref p) H))) vTuple := by
  intro W σ α h H xs as Q r ra q
  unfold vTuple at q
  split at q
  · obtain ⟨v, rfl, x⟩ := ra.one
    split at q
    · rename_i a ys e
      unfold seqOf at e
      split at e
      · cases e
        cases x with
        | tup h1 h2 => exact ⟨_, _, rfl, .inr ⟨h1.sq, post_ok q r (.tup h1 h2)⟩⟩
      · cases e
        cases x with
        | scr h1 h3 => exact ⟨_, _, rfl, .inl ⟨h1.sq, fun l nl => post_alloc q r nl fun _ st z => .tup (.inl ⟨.inl upd_same, z⟩) (h3.step st.kp)⟩⟩
      · obtain ⟨p, vs, rfl, x1, x2⟩ := r.lst x e
        exact ⟨_, _, rfl, .inl ⟨.inl (.inl x1), fun l nl => post_alloc q r nl fun _ st z => .tup (.inl ⟨.inl upd_same, z⟩) (x2.step st.kp)⟩⟩
    · exact q.elim
  · exact q.elim
def vDict (lv : Bool) : FN := fun as h => match as with
  | [a] => match dctOf h a with
    | some kvs => mkD lv kvs h
    | none => .bad
  | _ => .bad
theorem an_dict (lv : Bool) : AbN X.K X.mg (fun xs H Q => ∃ (a : Addr) (kvs : List (Key × V)), xs = [.ref a] ∧ Rd H a (.dK kvs) ∧ ∀ p, H p = none → Q (.ref p) (upd H p (.dK kvs))) (vDict lv) := by
  intro W σ α h H xs as Q r ra q
  unfold vDict at q
  split at q
  · obtain ⟨v, rfl, x⟩ := ra.one
    split at q
    · rename_i e
      obtain ⟨p, vs, rfl, x1, x2⟩ := r.dict x e
      exact ⟨_, _, rfl, x1, fun l nl => post_mkD q r nl x2⟩
    · exact q.elim
  · exact q.elim
def intsOf : List A → Option (List Int)
  | [] => some []
  | .int i :: r => (intsOf r).map (i :: ·)
  | _ => none
def boolsOf : List A → Option (List Bool)
  | [] => some []
  | .bl i :: r => (boolsOf r).map (i :: ·)
  | _ => none
def strsOf : List A → Option (List Str)
  | [] => some []
  | .str i :: r => (strsOf r).map (i :: ·)
  | _ => none
section
variable {K : PySem.W.Frag} {mg : Str → Option Value} {α : Al} {L : Addr → Prop} {H : Hp}
theorem RAs.ints : ∀ {vs : List V} {xs : List A} {ns : List Int}, RAs K mg α L H vs xs → intsOf xs = some ns → vs = ns.map V.int
  | _, [], _, .nil, e => by cases e; rfl
  | _, a :: r, ns, .cons x s, e => by
    cases x with
    | int i =>
      have e' : (intsOf r).map (i :: ·) = some ns := e
      cases hr : intsOf r with
      | none => rw [hr] at e'; cases e'
      | some ms =>
        rw [hr] at e'
        cases e'
        rw [s.ints hr]
        rfl
    | _ => cases e
theorem RAs.bools : ∀ {vs : List V} {xs : List A} {ns : List Bool}, RAs K mg α L H vs xs → boolsOf xs = some ns → vs = ns.map V.bl
  | _, [], _, .nil, e => by cases e; rfl
  | _, a :: r, ns, .cons x s, e => by
    cases x with
    | bl i =>
      have e' : (boolsOf r).map (i :: ·) = some ns := e
      cases hr : boolsOf r with
      | none => rw [hr] at e'; cases e'
      | some ms =>
        rw [hr] at e'
        cases e'
        rw [s.bools hr]
        rfl
    | _ => cases e
theorem RAs.strs : ∀ {vs : List V} {xs : List A} {ns : List Str}, RAs K mg α L H vs xs → strsOf xs = some ns → vs = ns.map V.str
  | _, [], _, .nil, e => by cases e; rfl
  | _, a :: r, ns, .cons x s, e => by
    cases x with
    | str i =>
      have e' : (strsOf r).map (i :: ·) = some ns := e
      cases hr : strsOf r with
      | none => rw [hr] at e'; cases e'
      | some ms =>
        rw [hr] at e'
        cases e'
        rw [s.strs hr]
        rfl
    | _ => cases e
theorem RAs.of_strs (α : Al) (L : Addr → Prop) (H : Hp) : ∀ ys : List Str, RAs K mg α L H (ys.map V.str) (ys.map A.str)
  | [] => .nil
  | y :: r => .cons (.str y) (RAs.of_strs α L H r)
theorem RAs.of_ints (α : Al) (L : Addr → Prop) (H : Hp) : ∀ ys : List Int, RAs K mg α L H (ys.map V.int) (ys.map A.int)
  | [] => .nil
  | y :: r => .cons (.int y) (RAs.of_ints α L H r)
end
def vAll : FN := fun as h => match as with
  | [a] => match (lstOf h a).bind boolsOf with
    | some bs => .ok (.bl (bs.all id)) h
    | none => .bad
  | _ => .bad
def vAny : FN := fun as h => match as with
  | [a] => match (lstOf h a).bind boolsOf with
    | some bs => .ok (.bl (bs.any id)) h
    | none => .bad
  | _ => .bad
def vSum : FN := fun as h => match as with
  | [a] => match (lstOf h a).bind intsOf with
    | some bs => .ok (.int bs.sum) h
    | none => .bad
  | _ => .bad
theorem bindO {β γ : Type} {o : Option β} {f : β → Option γ} {c : γ} (e : o.bind f = some c) : ∃ b, o = some b ∧ f b = some c := by
  cases o with
  | none => cases e
  | some b => exact ⟨b, rfl, e⟩
theorem an_all : AbN X.K X.mg (rAll X.K) vAll := by
  intro W σ α h H xs as Q r ra q
  unfold vAll at q
  split at q
  · obtain ⟨v, rfl, x⟩ := ra.one
    split at q
    · rename_i e
      obtain ⟨ys, e1, e2⟩ := bindO e
      obtain ⟨p, vs, rfl, x1, x2⟩ := r.lst x e1
      have := x2.bools e2
      subst this
      exact ⟨_, _, rfl, .inl (.inl x1), post_ok q r (.bl _)⟩
    · exact q.elim
  · exact q.elim
theorem an_any : AbN X.K X.mg (rAny X.K) vAny := by
  intro W σ α h H xs as Q r ra q
  unfold vAny at q
  split at q
  · obtain ⟨v, rfl, x⟩ := ra.one
    split at q
    · rename_i e
      obtain ⟨ys, e1, e2⟩ := bindO e
      obtain ⟨p, vs, rfl, x1, x2⟩ := r.lst x e1
      have := x2.bools e2
      subst this
      exact ⟨_, _, rfl, .inl (.inl x1), post_ok q r (.bl _)⟩
    · exact q.elim
  · exact q.elim
theorem an_sum : AbN X.K X.mg (rSum X.K) vSum := by
  intro W σ α h H xs as Q r ra q
  unfold vSum at q
  split at q
  · obtain ⟨v, rfl, x⟩ := ra.one
    split at q
    · rename_i e
      obtain ⟨ys, e1, e2⟩ := bindO e
      obtain ⟨p, vs, rfl, x1, x2⟩ := r.lst x e1
      have := x2.ints e2
      subst this
      exact ⟨_, _, rfl, .inl (.inl x1), post_ok q r (.int _)⟩
    · exact q.elim
  · exact q.elim
end
end Cl
namespace Cl
open PySem PySem.Spec PyProof.Rows L2
inductive SR1 where
  | nx (env : Env) (h : AH) | rt (a : A) (h : AH) | bk (env : Env) (h : AH) | ct (env : Env) (h : AH) | er (c : Str) (d : Option (Str × A)) (env : Env) (h : AH) | bad
abbrev MS := Env → AH → SR1
section
variable (K : PySem.W.Frag) (mg : Str → Option Value) (W : WX) (α : Al) (h : AH) (H : Hp)
def PoS (env' : Env) (h' : AH) (Q : L2.St → Hp → Prop) : Prop := ∀ α' H' σ', Rel K mg α' h' H' → Stp α h H α' h' H' → SR K mg α' (Lv α' h') H' σ' env' → Q σ' H'
def PostS (r : SR1) (D : Ends) : Prop := match r with
  | .nx env' h' => PoS K mg α h H env' h' D.nx
  | .bk env' h' => PoS K mg α h H env' h' D.bk
  | .ct env' h' => PoS K mg α h H env' h' D.ct
  | .rt a h' => ∀ α' H' v, Rel K mg α' h' H' → Stp α h H α' h' H' → RA K mg α' (Lv α' h') H' v a → D.rt v H'
  | .er c d env' h' => ∀ α' H' σ' cv dd, Rel K mg α' h' H' → Stp α h H α' h' H' → SR K mg α' (Lv α' h') H' σ' env' → ErrAt K mg α' (Lv α' h') H' cv dd c d → W cv dd σ' H'
  | .bad => False
end
def tSt (K : PySem.W.Frag) (mg : Str → Option Value) (W : WX) (m : MS) : TS := fun D σ H => ∃ α h env, Rel K mg α h H ∧ SR K mg α (Lv α h) H σ env ∧ PostS K mg W α h H (m env h) D
def CS (X : Cx) (W : WX) (st : Stmt) (m : MS) : Prop := PS X st (tSt X.K X.mg W m)
def CSs (X : Cx) (W : WX) (st : List Stmt) (m : MS) : Prop := PSs X st (tSt X.K X.mg W m)
def sNext : MS := fun env h => .nx env h
def sSeq (a b : MS) : MS := fun env h => match a env h with
  | .nx env' h' => b env' h'
  | r => r
def R.st {β : Type} (r : R β) (env : Env) (f : β → AH → SR1) : SR1 := match r with
  | .ok b h => f b h
  | .er c d h => .er c d env h
  | .bad => .bad
def sExpr (ma : M A) : MS := fun env h => (ma env h).st env fun _ h => .nx env h
def sRet (ma : M A) : MS := fun env h => (ma env h).st env fun a h => .rt a h
def sRetN : MS := fun _ h => .rt .non h
def sIf (c : M Bool) (a b : MS) : MS := fun env h => (c env h).st env fun k h => if k then a env h else b env h
inductive Tg where
  | name (i : Nat) | tup (ts : List Tg)
mutual
def Tg.put (t : Tg) (a : A) (env : Env) : Option Env := match t with
  | .name i => if i < env.length then some (env.set i (some a)) else none
  | .tup ts => match a with
    | .tup xs => Tg.puts ts xs env
    | _ => none
def Tg.puts (ts : List Tg) (xs : List A) (env : Env) : Option Env := match ts, xs with
  | [], [] => some env
  | t :: ts, a :: xs => match t.put a env with
    | some env' => Tg.puts ts xs env'
    | none => none
  | _, _ => none
end
mutual
def Tg.g (K : PySem.W.Frag) : Tg → TG
  | .name i => gName i
  | .tup ts => gTup K ts.length (Tg.gs K ts)
def Tg.gs (K : PySem.W.Frag) : List Tg → TGs
  | [] => gNil
  | t :: ts => gCons (t.g K) (Tg.gs K ts)
end
mutual
def Tg.slots : Tg → List Nat
  | .name i => [i]
  | .tup ts => Tg.slotss ts
def Tg.slotss : List Tg → List Nat
  | [] => []
  | t :: ts => t.slots ++ Tg.slotss ts
end
def sAsg (t : Tg) (ma : M A) : MS := fun env h => (ma env h).st env fun a h => match t.put a env with
  | some env' => .nx env' h
  | none => .bad
section
variable {X : Cx} {W : WX} {K : PySem.W.Frag} {mg : Str → Option Value} {α α' : Al} {h h' : AH} {H H' : Hp}
theorem PoS.rebase {env' : Env} {h2 : AH} {Q : L2.St → Hp → Prop} (s : Stp α h H α' h' H') (p : PoS K mg α h H env' h2 Q) : PoS K mg α' h' H' env' h2 Q := fun a b c d e f => p a b c d (s.trans e) f
theorem PostS.rebase {r : SR1} {D : Ends} (s : Stp α h H α' h' H') (p : PostS K mg W α h H r D) : PostS K mg W α' h' H' r D := by
  cases r with
  | nx e h1 => exact PoS.rebase s p
  | bk e h1 => exact PoS.rebase s p
  | ct e h1 => exact PoS.rebase s p
  | rt a h1 => exact fun α2 H2 v a b c => p α2 H2 v a (s.trans b) c
  | er c d e h1 => exact fun α2 H2 σ' cv dd a b c f => p α2 H2 σ' cv dd a (s.trans b) c f
  | bad => exact p
theorem posts_nx {env : Env} {D : Ends} {σ : L2.St} (p : PostS K mg W α h H (.nx env h) D) (r : Rel K mg α h H) (s : SR K mg α (Lv α h) H σ env) : D.nx σ H := p α H σ r .refl s
theorem st_bind {τ β : Type} {RB : RT τ β} {r : R β} {env : Env} {σ : L2.St} {f : β → AH → SR1} {D : Ends} {G : τ → Hp → Prop} (sr : SR K mg α (Lv α h) H σ env) (p : PostS K mg W α h H (r.st env f) D)
    (k : ∀ b h1 α1 H1 v, Rel K mg α1 h1 H1 → Stp α h H α1 h1 H1 → RB K mg α1 (Lv α1 h1) H1 v b → PostS K mg W α1 h1 H1 (f b h1) D → G v H1) : Post RB K mg W σ α h H r G := by
  cases r with
  | ok b h1 => exact fun α1 H1 v a s c => k b h1 α1 H1 v a s c (PostS.rebase s p)
  | er c d h1 => exact fun α1 H1 cv dd a s e => p α1 H1 σ cv dd a s (sr.step s.kp) e
  | bad => exact p
theorem PS.imp {st : Stmt} {t t' : TS} (p : PS X st t) (i : ∀ D σ H, t' D σ H → t D σ H) : PS X st t' := ⟨fun a b c d f I z => p.run a b c d f I (i _ _ _ z)⟩
theorem PSs.imp {st : List Stmt} {t t' : TS} (p : PSs X st t) (i : ∀ D σ H, t' D σ H → t D σ H) : PSs X st t' := ⟨fun a b c d f I z => p.run a b c d f I (i _ _ _ z)⟩
theorem cs_of {st : Stmt} {t : TS} {m : MS} (p : PS X st t) (i : ∀ D σ α h H env, Rel X.K X.mg α h H → SR X.K X.mg α (Lv α h) H σ env → PostS X.K X.mg W α h H (m env h) D → t D σ H) : CS X W st m :=
  PS.imp p fun D σ H ⟨α, h, env, r, s, q⟩ => i D σ α h H env r s q
theorem css_nil : CSs X W [] sNext := PSs.imp pss_nil fun D σ H ⟨α, h, env, r, s, q⟩ => posts_nx q r s
theorem css_one {st : Stmt} {m : MS} (p : CS X W st m) : CSs X W [st] m := pss_one p
theorem css_cons {st : Stmt} {rest : List Stmt} {a b : MS} (p : CS X W st a) (q : CSs X W rest b) : CSs X W (st :: rest) (sSeq a b) :=
  PSs.imp (pss_cons p q) fun D σ H ⟨α, h, env, r, s, x⟩ => ⟨α, h, env, r, s, by
    unfold sSeq at x
    cases e : a env h with
    | nx e1 h1 =>
      rw [e] at x
      exact fun α' H' σ' r' s' sr' => ⟨α', h1, e1, r', sr', PostS.rebase s' x⟩
    | bk e1 h1 => rw [e] at x; exact x
    | ct e1 h1 => rw [e] at x; exact x
    | rt a1 h1 => rw [e] at x; exact x
    | er c d e1 h1 => rw [e] at x; exact x
    | bad => rw [e] at x; exact x⟩
theorem cs_pass {pos} : CS X W (.Pass pos) sNext := cs_of ps_pass fun D σ α h H env r s q => posts_nx q r s
def sBreak : MS := fun env h => .bk env h
def sCont : MS := fun env h => .ct env h
theorem cs_break {pos} : CS X W (.Break pos) sBreak := cs_of ps_break fun D σ α h H env r s q => q α H σ r .refl s
theorem cs_cont {pos} : CS X W (.Continue pos) sCont := cs_of ps_continue fun D σ α h H env r s q => q α H σ r .refl s
variable {e c : Expr} {ma : M A} {mc : M Bool} {pos : Pos}
theorem cs_expr (he : CE X W e ma) (hs : swapsWith e none pos.line X.env = pure false := by rfl) : CS X W (.Expr e pos) (sExpr ma) :=
  cs_of (ps_expr he hs) fun D σ α h H env r s q => ⟨α, h, env, r, s, st_bind s q fun b h1 α1 H1 v r1 s1 ra q1 => posts_nx q1 r1 (s.step s1.kp)⟩
theorem cs_ret (he : CE X W e ma) : CS X W (.Return (some e) pos) (sRet ma) :=
  cs_of (ps_ret he) fun D σ α h H env r s q => ⟨α, h, env, r, s, st_bind s q fun b h1 α1 H1 v r1 s1 ra q1 => q1 α1 H1 v r1 .refl ra⟩
theorem cs_retN : CS X W (.Return none pos) sRetN := cs_of ps_retN fun D σ α h H env r s q => q α H .non r .refl .non
theorem cs_if {a b : List Stmt} {m1 m2 : MS} (hc : CT X W c mc) (ha : CSs X W a m1) (hb : CSs X W b m2) : CS X W (.If c a b pos) (sIf mc m1 m2) :=
  cs_of (ps_if hc ha hb) fun D σ α h H env r s q => ⟨α, h, env, r, s, st_bind s q fun b h1 α1 H1 v r1 s1 e q1 => by
    cases e
    cases b
    · exact ⟨α1, h1, env, r1, s.step s1.kp, q1⟩
    · exact ⟨α1, h1, env, r1, s.step s1.kp, q1⟩⟩
def Agree (ts : List Nat) (σ σ' : L2.St) : Prop := σ.length = σ'.length ∧ ∀ i, i ∉ ts → σ[i]? = σ'[i]?
theorem SR.set {σ : L2.St} {env : Env} {L : Addr → Prop} {v : V} {a : A} (s : SR K mg α L H σ env) (i : Nat) (r : RA K mg α L H v a) : SR K mg α L H (σ.set i (some v)) (env.set i (some a)) := paired_set (.some r) i s
mutual
theorem Tg.ok {L : Addr → Prop} : ∀ (t : Tg) {a : A} {v : V} {σ : L2.St} {env env' : Env} {Q : L2.St → Hp → Prop}, RA K mg α L H v a → SR K mg α L H σ env → t.put a env = some env' →
    (∀ σ', SR K mg α L H σ' env' → Agree t.slots σ σ' → Q σ' H) → t.g K v σ H Q
  | .name i, a, v, σ, env, env', Q, ra, s, e, q => by
    unfold Tg.put at e
    split at e
    · cases e
      unfold Tg.g
      refine q _ (s.set i ra) ⟨by simp, fun j hj => ?_⟩
      have : i ≠ j := fun z => hj (by unfold Tg.slots; simp [z])
      rw [List.getElem?_set_ne this]
    · cases e
  | .tup ts, a, v, σ, env, env', Q, ra, s, e, q => by
    unfold Tg.put at e
    split at e
    · cases ra with
      | tup h1 h2 =>
        unfold Tg.g
        have hl : ∀ (ts : List Tg) (xs : List A) (env env' : Env), Tg.puts ts xs env = some env' → ts.length = xs.length := by
          intro ts
          induction ts with
          | nil =>
            intro xs env env' e
            cases xs with
            | nil => rfl
            | cons a b => unfold Tg.puts at e; cases e
          | cons t ts ih =>
            intro xs env env' e
            cases xs with
            | nil => unfold Tg.puts at e; cases e
            | cons a b =>
              unfold Tg.puts at e
              split at e
              · rw [List.length_cons, List.length_cons, ih _ _ _ e]
              · cases e
        refine ⟨_, _, rfl, h1.sq, ?_, Tg.oks ts h2 s e fun σ' s' ag => q σ' s' (by unfold Tg.slots; exact ag)⟩
        rw [h2.length]
        exact (hl _ _ _ _ e).symm
    · cases e
theorem Tg.oks {L : Addr → Prop} : ∀ (ts : List Tg) {xs : List A} {vs : List V} {σ : L2.St} {env env' : Env} {Q : L2.St → Hp → Prop}, RAs K mg α L H vs xs → SR K mg α L H σ env → Tg.puts ts xs env = some env' →
    (∀ σ', SR K mg α L H σ' env' → Agree (Tg.slotss ts) σ σ' → Q σ' H) → Tg.gs K ts vs σ H Q
  | [], xs, vs, σ, env, env', Q, ra, s, e, q => by
    cases xs with
    | nil =>
      unfold Tg.puts at e
      cases e
      cases ra
      unfold Tg.gs
      exact ⟨rfl, q σ s ⟨rfl, fun _ _ => rfl⟩⟩
    | cons a b => unfold Tg.puts at e; cases e
  | t :: ts, xs, vs, σ, env, env', Q, ra, s, e, q => by
    cases xs with
    | nil => unfold Tg.puts at e; cases e
    | cons a b =>
      unfold Tg.puts at e
      split at e
      · rename_i env1 e1
        cases ra with
        | cons r rs =>
          unfold Tg.gs
          refine ⟨_, _, rfl, Tg.ok t r s e1 fun σ1 s1 ag => Tg.oks ts rs s1 e fun σ2 s2 ag2 => q σ2 s2 ⟨ag.1.trans ag2.1, fun i hi => ?_⟩⟩
          unfold Tg.slotss at hi
          rw [List.mem_append] at hi
          exact (ag.2 i fun z => hi (.inl z)).trans (ag2.2 i fun z => hi (.inr z))
      · cases e
end
theorem cs_asg {tg : Expr} {t : Tg} (he : CE X W e ma) (hg : PG X tg (t.g X.K)) (hs : swapsWithSole [tg] e pos.line X.env = pure false := by rfl) (hw : swappedStores [tg] e X.env = pure none := by rfl)
    (h1 : (assignEach [tg] X.env).map (·.2) = [assign tg X.env] := by rfl) : CS X W (.Assign [tg] e pos) (sAsg t ma) :=
  cs_of (ps_asg he hg hs hw h1) fun D σ α h H env r s q => ⟨α, h, env, r, s, st_bind s q fun b h1 α1 H1 v r1 s1 ra q1 => by
    split at q1
    · rename_i env' e
      exact Tg.ok t ra (s.step s1.kp) e fun σ' s' _ => posts_nx q1 r1 s'
    · exact q1.elim⟩
theorem cs_set (i : Nat) {x : Str} {pos' : Pos} (hN : X.N.Nodup) (hi : X.N[i]? = some x) (hx : Loc X.env.scope x) (he : CE X W e ma) (hs : swapsWith e (some (.Name x pos')) pos.line X.env = pure false := by rfl) (hf : X.fn x = true ∨ X.env.scope.names.lookup x = some .local := by first | exact .inl rfl | exact .inr rfl | assumption) :
    CS X W (.Assign [.Name x pos'] e pos) (sAsg (.name i) ma) :=
  cs_of (ps_set hN hi hx he hs hf) fun D σ α h H env r s q => ⟨α, h, env, r, s, st_bind s q fun b h1 α1 H1 v r1 s1 ra q1 => by
    split at q1
    · rename_i env' e
      have := Tg.ok (K := X.K) (.name i) ra (s.step s1.kp) e (Q := D.nx) fun σ' s' _ => posts_nx q1 r1 s'
      unfold Tg.g at this
      exact this
    · exact q1.elim⟩
end
end Cl
namespace Cl
open PySem PySem.Spec PyProof.Rows L2
def insOf (h : AH) : A → Option (Str × List (Str × A))
  | .obj C fs => some (C, fs)
  | .ref n => match h[n]? with
    | some (some (.ins C fs)) => some (C, fs)
    | _ => none
  | _ => none
def putA (f : Str) (v : A) : List (Str × A) → List (Str × A)
  | [] => [(f, v)]
  | (g, x) :: r => if g = f then (g, v) :: r else (g, x) :: putA f v r
section
variable {K : PySem.W.Frag} {mg : Str → Option Value} {α : Al} {L : Addr → Prop} {H : Hp} {h : AH}
theorem RFs.look {f : Str} : ∀ {vs : List (Str × V)} {xs : List (Str × A)}, RFs K mg α L H vs xs → RO K mg α L H (vs.lookup f) (xs.lookup f)
  | _, _, .nil => .none
  | _, _, .cons (k := k) (v := v) (a := a) (vs := vs) (xs := xs) r s => by
    rw [List.lookup_cons, List.lookup_cons]
    cases f == k
    · exact s.look
    · exact .some r
theorem RFs.put {f : Str} {v : V} {a : A} (r : RA K mg α L H v a) : ∀ {vs : List (Str × V)} {xs : List (Str × A)}, RFs K mg α L H vs xs → RFs K mg α L H (putF f v vs) (putA f a xs)
  | _, _, .nil => .cons r .nil
  | _, _, .cons (k := k) (v := w) (a := b) (vs := vs) (xs := xs) q s => by
    show RFs K mg α L H (if k = f then (k, v) :: vs else (k, w) :: putF f v vs) (if k = f then (k, a) :: xs else (k, b) :: putA f a xs)
    by_cases e : k = f
    · rw [if_pos e, if_pos e]
      exact .cons r s
    · rw [if_neg e, if_neg e]
      exact .cons q (s.put r)
theorem RFs.length : ∀ {vs : List (Str × V)} {xs : List (Str × A)}, RFs K mg α L H vs xs → vs.length = xs.length
  | _, _, .nil => rfl
  | _, _, .cons _ s => congrArg (· + 1) s.length
theorem Rel.put' (r : Rel K mg α h H) {p : Addr} {n : Nat} {o : AO} (ep : α.l[n]? = some p) (e : h[n]? = some (some o)) (u : HO) (ao : AO) (oa : Stp α h H α (h.set n (some ao)) (upd H p u) → OA K mg α (Lv α (h.set n (some ao))) (upd H p u) p ao) :
    Rel K mg α (h.set n (some ao)) (upd H p u) ∧ Stp α h H α (h.set n (some ao)) (upd H p u) := ⟨r.put ep e (oa (put_stp ep e)), put_stp ep e⟩
theorem Rel.ins (r : Rel K mg α h H) {x : V} {a : A} {C : Str} {xs : List (Str × A)} (ra : RA K mg α (Lv α h) H x a) (e : insOf h a = some (C, xs)) : ∃ p c dx vs, x = .ref p ∧ H p = some (.ins c dx vs) ∧ mg C = some (.ref c) ∧ RFs K mg α (Lv α h) H vs xs := by
  unfold insOf at e
  split at e
  · cases e
    cases ra with
    | obj h1 h2 h3 h4 => exact ⟨_, _, _, _, rfl, h1, h3, h4⟩
  · split at e
    · rename_i n _ C' xs' e'
      cases e
      cases ra with
      | ref ep =>
        cases r.obj e' ep with
        | ins h1 h2 h3 => exact ⟨_, _, _, _, rfl, h1, h2, h3⟩
    · cases e
  · cases e
end
def FldOk (K : PySem.W.Frag) (mg : Str → Option Value) (f : Str) (cl : List Str) : Prop := ∀ C ∈ cl, ∀ c, mg C = some (.ref c) → Cls K c ∧ NoAttr K c f
def eFld (cl : List Str) (f : Str) (ma : M A) : M A := fun env h => (ma env h).bind fun a h => match insOf h a with
  | some (C, fs) => if C ∈ cl then (match fs.lookup f with
    | some v => .ok v h
    | none => .bad) else .bad
  | none => .bad
section
variable {X : Cx} {W : WX} {a o e : Expr} {es : List Expr} {ma mo : M A} {ms : M (List A)} {pos apos pos' p : Pos}
theorem ce_fld {f : Str} {cl : List Str} (F : FldOk X.K X.mg f cl) (ha : CE X W a ma) (hb : attributeBase a f X.env (eval a X.env) = eval a X.env) : CE X W (.Attribute a f pos) (eFld cl f ma) :=
  ce_of (pe_fld ha hb) fun σ α h H env Q r s q => ⟨α, h, env, r, s, post_bind q fun a h1 α1 H1 x r1 s1 ra q1 => by
    split at q1
    · rename_i C fs e
      split at q1
      · rename_i hc
        split at q1
        · rename_i v ev
          obtain ⟨p, c, dx, vs, rfl, x1, x2, x3⟩ := r1.ins ra e
          obtain ⟨k1, k2⟩ := F C hc c x2
          have g := x3.look (f := f)
          rw [ev] at g
          generalize hv : vs.lookup f = o1 at g
          cases g with
          | some rv => exact ⟨p, c, dx, vs, _, rfl, x1, k1, k2, hv, post_ok q1 r1 rv⟩
        · exact q1.elim
      · exact q1.elim
    · exact q1.elim⟩
def sFldA (cl : List Str) (f : Str) (mo ma : M A) : MS := fun env h => (ma env h).st env fun v h => (mo env h).st env fun o h => match o with
  | .ref n => match h[n]? with
    | some (some (.ins C fs)) => if C ∈ cl ∧ fs.length < 1000 then .nx env (h.set n (some (.ins C (putA f v fs)))) else .bad
    | _ => .bad
  | _ => .bad
theorem cs_fld {f : Str} {cl : List Str} (F : FldOk X.K X.mg f cl) (ho : CE X W o mo) (ha : CE X W a ma) (hs : swapsWith a (some (.Attribute o f pos')) pos.line X.env = pure false) : CS X W (.Assign [.Attribute o f pos'] a pos) (sFldA cl f mo ma) :=
  cs_of (ps_fld ho ha hs) fun D σ α h H env r s q => ⟨α, h, env, r, s, st_bind s q fun v h1 α1 H1 x r1 s1 rv q1 => ⟨α1, h1, env, r1, s.step s1.kp, st_bind (s.step s1.kp) q1 fun b h2 α2 H2 y r2 s2 rb q2 => by
    split at q2
    · rename_i n
      split at q2
      · rename_i C fs e
        split at q2
        · rename_i hc
          cases rb with
          | ref ep =>
            have oa := r2.obj e ep
            cases oa with
            | ins g1 g2 g3 =>
              obtain ⟨k1, k2⟩ := F C hc.1 _ g2
              refine ⟨_, _, _, _, rfl, g1, k1, k2, by rw [g3.length]; exact hc.2, ?_⟩
              obtain ⟨r3, st⟩ := r2.put' ep e _ (.ins C (putA f v fs)) fun st => .ins upd_same g2 ((g3.step st.kp).put ((rv.step s2.kp).step st.kp))
              exact q2 α2 _ σ r3 st (((s.step s1.kp).step s2.kp).step st.kp)
        · exact q2.elim
      · exact q2.elim
    · exact q2.elim⟩⟩
end
def arity (n : Nat) (f : FN) : FN := fun as h => if as.length = n then f as h else .bad
def spC (K : PySem.W.Frag) (mg : Str → Option Value) (n : Nat) (f : FN) : Sp := fun vs H Q E => ∃ α h as, Rel K mg α h H ∧ RAs K mg α (Lv α h) H vs as ∧ Post rtA K mg (fun cv dd _ H' => E cv dd H') [] α h H (arity n f as h) Q
theorem spC_len {K : PySem.W.Frag} {mg : Str → Option Value} {n : Nat} {f : FN} {vs : List V} {H : Hp} {Q : VK} {E : XK} (x : spC K mg n f vs H Q E) : vs.length = n := by
  obtain ⟨α, h, as, r, ra, q⟩ := x
  unfold arity at q
  split at q
  · rename_i e
    rw [ra.length, e]
  · exact q.elim
theorem post_w {τ β : Type} {RB : RT τ β} {K : PySem.W.Frag} {mg : Str → Option Value} {W W' : WX} {σ σ' : L2.St} {α : Al} {h : AH} {H : Hp} {r : R β} {Q : τ → Hp → Prop} (p : Post RB K mg W σ α h H r Q) (i : ∀ cv dd H, W cv dd σ H → W' cv dd σ' H) : Post RB K mg W' σ' α h H r Q := by
  cases r with
  | ok b h1 => exact p
  | er c d h1 => exact fun α1 H1 cv dd a b e => i _ _ _ (p α1 H1 cv dd a b e)
  | bad => exact p
section
variable {X : Cx} {W : WX} {a o e : Expr} {es : List Expr} {ma mo : M A} {ms : M (List A)} {pos apos p : Pos} {k : Nat} {x C m : Str} {ps : List Str} {n : Nat} {f : FN}
abbrev CalC (X : Cx) (k : Nat) (x : Str) (ps : List Str) (f : FN) : Prop := Dg.Cal X.prog X.w X.K X.mg X.base (L2.CX X.prog X.w) k x ps (spC X.K X.mg ps.length f)
theorem ce_call (c : CalC X k x ps f) (tk : Takes X W) (hr : Room k X.A) (hg : Gl X x) (hs : CAs X W (e :: es) ms)
    (hdb : (x == ("__debug__" : Str)) = false := by decide) (he : starEach (e :: es) X.env = (false, eval e X.env) :: starEach es X.env := by rfl) (hpl : (backTo pos (starEach es X.env)).any (·.1) = false := by rfl) :
    CE X W (.Call (.Name x p) (e :: es) [] pos) (eCall (arity ps.length f) ms) :=
  ce_of (Dg.pe_calS (E := WE W) c hr hg (fun σ => passAt tk σ) hs hdb he hpl) fun σ α h H env Q r s q => ⟨α, h, env, r, s, post_bind q fun as h1 α1 H1 vs r1 s1 ra q1 => ⟨α1, h1, as, r1, ra, post_w q1 fun _ _ _ z => z⟩⟩
theorem pe_callS0 {CX : CXT} {fa : Addr} {fd : FuncData} {sp : Sp} {E : L2.St → XK} (F : FnOk X.prog X.w X.K X.mg X.base CX k fa fd ps sp) (hr : Room k X.A) (hg : Gl X x) (hm : X.mg x = some (.ref fa)) (hk : PySem.W.keepIn X.K (.ref fa) = true) (hb : Binds X.K fd ps []) (hx : ∀ σ, PassesAt CX X σ (E σ))
    (hdb : (x == ("__debug__" : Str)) = false := by decide) : PE X (.Call (.Name x p) [] [] pos) (tCallS sp E tNil) := by
  refine ⟨fun pins s σ H Q I h => ?_⟩
  refine wpAny_Call_Name_kw (ld_glob I hg hm ?_ hdb)
  exact PySem.W.callWith_K0 I.kIn hk (run_fnS (us := []) F hr hb (hx σ) I .nil h)
theorem ce_call0 (c : CalC X k x ps f) (tk : Takes X W) (hr : Room k X.A) (hg : Gl X x) (hdb : (x == ("__debug__" : Str)) = false := by decide) : CE X W (.Call (.Name x p) [] [] pos) (eCall (arity ps.length f) eNil) := by
  obtain ⟨fa, fd, F, hm, hk, hb⟩ := c.ex
  exact ce_of (pe_callS0 (E := WE W) F hr hg hm hk hb (fun σ => passAt tk σ) hdb) fun σ α h H env Q r s q => ⟨α, h, [], r, .nil, post_w q fun _ _ _ z => z⟩
structure MetC (P : Program) (w : World) (K : PySem.W.Frag) (mg : Str → Option Value) (base : Heap) (k : Nat) (C m : Str) (ps : List Str) (f : FN) : Prop where
  ex : ∃ (c fa : Addr) (fd : FuncData), mg C = some (.ref c) ∧ Cls K c ∧ Meth K c m fa ∧ FnOk P w K mg base (L2.CX P w) k fa fd ps (spC K mg ps.length f) ∧ Binds K fd ps []
abbrev MetX (X : Cx) (k : Nat) (C m : Str) (ps : List Str) (f : FN) : Prop := MetC X.prog X.w X.K X.mg X.base k C m ps f
def tMethW (C : Addr) (m : Str) (sp : Sp) (E : L2.St → XK) (ta : TE) (t : TA) : TE := fun σ H Q => ta σ H fun x H1 => ∃ a dx fs, x = .ref a ∧ H1 a = some (.ins C dx fs) ∧ fs.lookup m = none ∧ t σ H1 fun vs H2 => sp (x :: vs) H2 Q (E σ)
theorem pe_methW {CX : CXT} {c fa : Addr} {fd : FuncData} {sp : Sp} {E : L2.St → XK} {ta : TE} {t : TA} {pl : Sem Bool} (he : PE X o ta) (hc : Cls X.K c) (hm : Meth X.K c m fa) (F : FnOk X.prog X.w X.K X.mg X.base CX k fa fd ps sp) (hr : Room k X.A) (hb : Binds X.K fd ps []) (hx : ∀ σ, PassesAt CX X σ (E σ)) (ha : PA X (e :: es) t)
    (hst : starEach (e :: es) X.env = (false, eval e X.env) :: starEach es X.env := by rfl) (hpl : (backTo pos (starEach es X.env)).any (·.1) = false := by rfl)
    (ht : eval (.Call (.Attribute o m apos) (e :: es) [] pos) X.env = (do
      let ov ← eval o X.env
      standAt apos.atName
      let (f, first) ← holding [ov] (getMethod ov m pl)
      callWith pos f first (backTo pos (starEach (e :: es) X.env)) (backToKw pos (keywordEach [] X.env))) := by rfl) :
    PE X (.Call (.Attribute o m apos) (e :: es) [] pos) (tMethW c m sp E ta t) := by
  refine ⟨fun pins s σ H Q I h => ?_⟩
  refine PySem.W.methodCall_KW (pl := pl) (thn (he.run pins s σ H _ I h) fun u s1 ⟨x, H1, I1, rx, a, dx, fs, ex, ea, l, q⟩ => ?_) ht
  subst ex
  obtain rfl : u = Value.ref a := rx
  refine getmeth_ok I1 ea hc hm l ?_
  refine PySem.W.callWith_K (first := [.ref a]) (h₀ := X.base) I.ok.mod.kin hm.kp (thn (ha.run pos pins s1 σ H1 _ I1 q) fun us s2 ⟨vs, H2, I2, r, q2⟩ => ⟨I2.kIn, ?_⟩) hst hpl
  exact run_fnS (us := .ref a :: us) (vs := .ref a :: vs) F hr hb (hx σ) I2 (.cons rfl r) q2
theorem pe_methW0 {CX : CXT} {c fa : Addr} {fd : FuncData} {sp : Sp} {E : L2.St → XK} {ta : TE} {pl : Sem Bool} (he : PE X o ta) (hc : Cls X.K c) (hm : Meth X.K c m fa) (F : FnOk X.prog X.w X.K X.mg X.base CX k fa fd ps sp) (hr : Room k X.A) (hb : Binds X.K fd ps []) (hx : ∀ σ, PassesAt CX X σ (E σ))
    (ht : eval (.Call (.Attribute o m apos) [] [] pos) X.env = (do
      let ov ← eval o X.env
      standAt apos.atName
      let (f, first) ← holding [ov] (getMethod ov m pl)
      callWith pos f first (backTo pos (starEach [] X.env)) (backToKw pos (keywordEach [] X.env))) := by rfl) :
    PE X (.Call (.Attribute o m apos) [] [] pos) (tMethW c m sp E ta tNil) := by
  refine ⟨fun pins s σ H Q I h => ?_⟩
  refine PySem.W.methodCall_KW (pl := pl) (thn (he.run pins s σ H _ I h) fun u s1 ⟨x, H1, I1, rx, a, dx, fs, ex, ea, l, q⟩ => ?_) ht
  subst ex
  obtain rfl : u = Value.ref a := rx
  refine getmeth_ok I1 ea hc hm l ?_
  exact PySem.W.callWith_K0 (first := [.ref a]) I1.kIn hm.kp (run_fnS (us := [.ref a]) (vs := [.ref a]) F hr hb (hx σ) I1 (.cons rfl .nil) q)
def eMeth (C m : Str) (f : FN) (mo : M A) (ms : M (List A)) : M A := fun env h => (mo env h).bind fun a h => match insOf h a with
  | some (C', fs) => if C' = C ∧ (fs.lookup m).isNone then (ms env h).bind fun as h => f (a :: as) h else .bad
  | none => .bad
theorem ro_none {K : PySem.W.Frag} {mg : Str → Option Value} {α : Al} {L : Addr → Prop} {H : Hp} {a : Option V} {b : Option A} (r : RO K mg α L H a b) (e : b.isNone = true) : a = none := by
  cases r with
  | none => rfl
  | some _ => cases e
theorem ce_meth {pl : Sem Bool} (c : MetX X k C m ps f) (tk : Takes X W) (hr : Room k X.A) (ho : CE X W o mo) (hs : CAs X W (e :: es) ms)
    (hst : starEach (e :: es) X.env = (false, eval e X.env) :: starEach es X.env := by rfl) (hpl : (backTo pos (starEach es X.env)).any (·.1) = false := by rfl)
    (ht : eval (.Call (.Attribute o m apos) (e :: es) [] pos) X.env = (do
      let ov ← eval o X.env
      standAt apos.atName
      let (f, first) ← holding [ov] (getMethod ov m pl)
      callWith pos f first (backTo pos (starEach (e :: es) X.env)) (backToKw pos (keywordEach [] X.env))) := by rfl) :
    CE X W (.Call (.Attribute o m apos) (e :: es) [] pos) (eMeth C m (arity ps.length f) mo ms) := by
  obtain ⟨cc, fa, fd, h1, h2, h3, F, hb⟩ := c.ex
  refine ce_of (pe_methW (E := WE W) (pl := pl) ho h2 h3 F hr hb (fun σ => passAt tk σ) hs hst hpl ht) fun σ α h H env Q r s q => ⟨α, h, env, r, s, post_bind q fun a h1 α1 H1 x r1 s1 ra q1 => ?_⟩
  split at q1
  · rename_i C' fs e
    split at q1
    · rename_i hc
      obtain ⟨rfl, hl⟩ := hc
      obtain ⟨p, c', dx, vs, rfl, x1, x2, x3⟩ := r1.ins ra e
      have ec : c' = cc := by
        rw [h1] at x2
        injection (Option.some.inj x2) with z
        exact z.symm
      subst ec
      refine ⟨p, dx, vs, rfl, x1, ro_none x3.look hl, α1, _, env, r1, s.step s1.kp, post_bind q1 fun as hh2 α2 H2 xs r2 s2 ras q2 => ⟨α2, hh2, a :: as, r2, .cons (ra.step s2.kp) ras, post_w q2 fun _ _ _ z => z⟩⟩
    · exact q1.elim
  · exact q1.elim
theorem ce_meth0 {pl : Sem Bool} (c : MetX X k C m ps f) (tk : Takes X W) (hr : Room k X.A) (ho : CE X W o mo)
    (ht : eval (.Call (.Attribute o m apos) [] [] pos) X.env = (do
      let ov ← eval o X.env
      standAt apos.atName
      let (f, first) ← holding [ov] (getMethod ov m pl)
      callWith pos f first (backTo pos (starEach [] X.env)) (backToKw pos (keywordEach [] X.env))) := by rfl) :
    CE X W (.Call (.Attribute o m apos) [] [] pos) (eMeth C m (arity ps.length f) mo eNil) := by
  obtain ⟨cc, fa, fd, h1, h2, h3, F, hb⟩ := c.ex
  refine ce_of (pe_methW0 (E := WE W) (pl := pl) ho h2 h3 F hr hb (fun σ => passAt tk σ) ht) fun σ α h H env Q r s q => ⟨α, h, env, r, s, post_bind q fun a h1 α1 H1 x r1 s1 ra q1 => ?_⟩
  split at q1
  · rename_i C' fs e
    split at q1
    · rename_i hc
      obtain ⟨rfl, hl⟩ := hc
      obtain ⟨p, c', dx, vs, rfl, x1, x2, x3⟩ := r1.ins ra e
      have ec : c' = cc := by
        rw [h1] at x2
        injection (Option.some.inj x2) with z
        exact z.symm
      subst ec
      exact ⟨p, dx, vs, rfl, x1, ro_none x3.look hl, α1, _, [a], r1, .cons ra .nil, post_w q1 fun _ _ _ z => z⟩
    · exact q1.elim
  · exact q1.elim
end
end Cl
namespace Cl
open PySem PySem.Spec PyProof.Rows L2
def bodyR (r : SR1) : R A := match r with
  | .nx _ h => .ok .non h
  | .rt a h => .ok a h
  | .er c d _ h => .er c d h
  | _ => .bad
def envOf (n : Nat) (as : List A) : Env := as.map some ++ List.replicate (n - as.length) none
def fnOf (n : Nat) (m : MS) : FN := fun as h => bodyR (m (envOf n as) h)
section
variable {K : PySem.W.Frag} {mg : Str → Option Value} {α : Al} {L : Addr → Prop} {H : Hp}
theorem sr_args : ∀ {vs : List V} {as : List A}, RAs K mg α L H vs as → SR K mg α L H (vs.map some) (as.map some)
  | _, _, .nil => .nil
  | _, _, .cons r s => .cons (.some r) (sr_args s)
theorem sr_none : ∀ n : Nat, SR K mg α L H (List.replicate n none) (List.replicate n none)
  | 0 => .nil
  | n + 1 => .cons .none (sr_none n)
theorem sr_start {N : List Str} {vs : List V} {as : List A} (r : RAs K mg α L H vs as) : SR K mg α L H (L2.start N vs) (envOf N.length as) := by
  unfold L2.start envOf
  rw [r.length]
  exact paired_append (sr_args r) (sr_none _)
end
section
variable {P : Program} {w : World} {K : PySem.W.Frag} {mg : Str → Option Value} {base : Heap}
theorem fn_ok {x qual : Str} {st : Stmt} {f : Addr} {fd : FuncData} {N ps : List Str} {k : Nat} {m : MS} (F : Fun K x qual st f fd) (S : FnScope N ps (defScope st))
    (hb : ∀ (cdv : Value) (A : Around) (outer : List PySem.Env) (s : Shared) (H : Hp) (E : XK), Room k (A.deeper (envOfC qual (defScope st) s.heap.objs.size f cdv)) →
      CSs (cxOf (L2.CX P w) P w K mg base N qual (defScope st) f cdv A outer s H E) (fun cv dd _ H' => E cv dd H') (defBody st) m) :
    FnOk P w K mg base (L2.CX P w) (k + 1) f fd ps (spC K mg ps.length (fnOf N.length m)) :=
  F.okX S (fun vs H Q E h => spC_len h) fun cdv A outer s H vs Q E hr h => ⟨_, hb cdv A outer s H E hr, by
    obtain ⟨α, h, as, r, ra, q⟩ := h
    unfold arity at q
    split at q
    · refine ⟨α, h, envOf N.length as, r, sr_start ra, ?_⟩
      unfold fnOf at q
      cases e : m (envOf N.length as) h with
      | nx e1 h1 => rw [e] at q; exact fun α' H' σ' a b c => q α' H' .non a b .non
      | rt a1 h1 => rw [e] at q; exact q
      | er c d e1 h1 => rw [e] at q; exact fun α' H' σ' cv dd a b c z => q α' H' cv dd a b z
      | bk e1 h1 => rw [e] at q; exact q.elim
      | ct e1 h1 => rw [e] at q; exact q.elim
      | bad => rw [e] at q; exact q.elim
    · exact q.elim⟩
end
structure MakC (P : Program) (w : World) (K : PySem.W.Frag) (mg : Str → Option Value) (base : Heap) (k : Nat) (C : Str) (ps : List Str) (f : FN) : Prop where
  ex : ∃ (c fa : Addr) (fd : FuncData), mg C = some (.ref c) ∧ Mk K c fa ∧ FnOk P w K mg base (L2.CX P w) k fa fd ps (spC K mg ps.length f) ∧ Binds K fd ps []
abbrev MakX (X : Cx) (k : Nat) (C : Str) (ps : List Str) (f : FN) : Prop := MakC X.prog X.w X.K X.mg X.base k C ps f
section
variable {X : Cx} {W : WX} {e : Expr} {es : List Expr} {ms : M (List A)} {pos p : Pos} {k : Nat} {x C : Str} {ps : List Str} {f : FN}
theorem run_makeS {CX : CXT} {c fa : Addr} {fd : FuncData} {sp : Sp} {E : L2.St → XK} {pins : List (Addr × Obj)} {σ : L2.St} {H : Hp} {s : Shared} {Q : VK} {us : List Value} {vs : List V} (M : Mk X.K c fa) (F : FnOk X.prog X.w X.K X.mg X.base CX k fa fd ps sp) (hr : Room (k + 1) X.A) (hb : Binds X.K fd ps [])
    (hx : PassesAt CX X σ (E σ)) (I : Inv X pins σ H s) (r : Vals vs us)
    (h : ∀ x dx, H x = none → H dx = none → dx ≠ x → sp (.ref x :: vs) (upd (upd H dx (.own x)) x (.ins c dx [])) (fun v H2 => v = .non ∧ Q (.ref x) H2) (E σ)) :
    wpAny (model X.prog X.w) X.A (call (.ref c) us) (EP X pins σ Q) X.xe s := by
  let n := s.heap.objs.size
  have young : ∀ b, n ≤ b → H b = none := fun b z => I.hok.fresh z
  have want := h (n + 1) n (young _ (Nat.le_add_right n 1)) (young _ (Nat.le_refl n)) (Nat.ne_of_lt (Nat.lt_add_one n))
  have J := Inv.made (C := c) I
  have args : Vals (V.ref (n + 1) :: vs) (Value.ref (n + 1) :: us) := .cons rfl r
  have many : (Value.ref (n + 1) :: us).length = ps.length := args.length.symm.trans (F.len _ _ _ _ want)
  have bound := hb { s with heap := _ } (Value.ref (n + 1) :: us) J.kIn (by rw [List.append_nil]; exact many)
  rw [List.append_nil] at bound
  have body := F.run _ X.stack _ _ ⟨Value.ref (n + 1) :: us, []⟩ _ _ _ (E σ) (hr.make c us []) (J.env0.make c us []) bound args want
  refine wpAny_call (make_map (f := fa) I.kIn M.makes M.init (beq_iff_eq.mp M.fn) (codeAny_mono body fun r s2 z => ?_))
  match r, z with
  | .error e, z => exact hx pins _ _ e s2 J z
  | .ok (.ret u), z =>
    obtain ⟨v, H2, J2, ru, rfl, q⟩ := J.after z
    exact ⟨ru, V.ref (n + 1), H2, J2, rfl, q⟩
  | .ok .next, z => exact z.elim
  | .ok .brk, z => exact z.elim
  | .ok .cont, z => exact z.elim
def tMakeW (c : Addr) (sp : Sp) (E : L2.St → XK) (t : TA) : TE := fun σ H Q => t σ H fun vs H1 => ∀ x dx, H1 x = none → H1 dx = none → dx ≠ x →
  sp (.ref x :: vs) (upd (upd H1 dx (.own x)) x (.ins c dx [])) (fun v H2 => v = .non ∧ Q (.ref x) H2) (E σ)
theorem pe_makeW {CX : CXT} {c fa : Addr} {fd : FuncData} {sp : Sp} {E : L2.St → XK} {t : TA} (M : Mk X.K c fa) (F : FnOk X.prog X.w X.K X.mg X.base CX k fa fd ps sp) (hr : Room (k + 1) X.A) (hg : Gl X x) (hm : X.mg x = some (.ref c)) (hb : Binds X.K fd ps []) (hx : ∀ σ, PassesAt CX X σ (E σ))
    (ha : PA X (e :: es) t) (hdb : (x == ("__debug__" : Str)) = false := by decide) (he : starEach (e :: es) X.env = (false, eval e X.env) :: starEach es X.env := by rfl) (hpl : (backTo pos (starEach es X.env)).any (·.1) = false := by rfl) :
    PE X (.Call (.Name x p) (e :: es) [] pos) (tMakeW c sp E t) := by
  refine ⟨fun pins s σ H Q I h => ?_⟩
  refine wpAny_Call_Name_kw (ld_glob I hg hm ?_ hdb)
  refine PySem.W.callWith_K (h₀ := X.base) I.ok.mod.kin M.kp (thn (ha.run pos pins s σ H _ I h) fun us s1 ⟨vs, H1, I1, r, q⟩ => ⟨I1.kIn, ?_⟩) he hpl
  exact run_makeS M F hr hb (hx σ) I1 r q
theorem pe_makeW0 {CX : CXT} {c fa : Addr} {fd : FuncData} {sp : Sp} {E : L2.St → XK} (M : Mk X.K c fa) (F : FnOk X.prog X.w X.K X.mg X.base CX k fa fd ps sp) (hr : Room (k + 1) X.A) (hg : Gl X x) (hm : X.mg x = some (.ref c)) (hb : Binds X.K fd ps []) (hx : ∀ σ, PassesAt CX X σ (E σ))
    (hdb : (x == ("__debug__" : Str)) = false := by decide) : PE X (.Call (.Name x p) [] [] pos) (tMakeW c sp E tNil) := by
  refine ⟨fun pins s σ H Q I h => ?_⟩
  refine wpAny_Call_Name_kw (ld_glob I hg hm ?_ hdb)
  exact PySem.W.callWith_K0 I.kIn M.kp (run_makeS (us := []) M F hr hb (hx σ) I .nil h)
def mkI (C : Str) (f : FN) (as : List A) (h : AH) : R A := (f (.ref h.length :: as) (h ++ [some (.ins C [])])).bind fun v h2 => if isNon v then .ok (.ref h.length) h2 else .bad
def eMake (C : Str) (f : FN) (ms : M (List A)) : M A := fun env h => (ms env h).bind fun as h1 => mkI C f as h1
theorem make_read {n : Nat} {c : Addr} {σ : L2.St} {α : Al} {h : AH} {H : Hp} {as : List A} {vs : List V} {Q : VK} (hm : X.mg C = some (.ref c)) (r : Rel X.K X.mg α h H) (ra : RAs X.K X.mg α (Lv α h) H vs as) (q : Post rtA X.K X.mg W σ α h H (mkI C (arity n f) as h) Q) :
    ∀ x dx, H x = none → H dx = none → dx ≠ x → spC X.K X.mg n f (.ref x :: vs) (upd (upd H dx (.own x)) x (.ins c dx [])) (fun v H2 => v = .non ∧ Q (.ref x) H2) (WE W σ) := by
  intro x dx nx nd ne
  obtain ⟨r1, s1, _⟩ := r.alloc nd (.own x)
  have nx1 : (upd H dx (.own x)) x = none := by rw [upd_ne (Ne.symm ne)]; exact nx
  have st := r1.push_stp nx1 (.ins c dx []) (.ins C [])
  have r2 := r1.push nx1 (.ins c dx []) (.ins C []) (.ins upd_same hm .nil)
  have st2 := s1.trans st
  have px : (α.push x).l[h.length]? = some x := by rw [← r.len]; exact get_len
  refine ⟨α.push x, h ++ [some (.ins C [])], .ref h.length :: as, r2, .cons (.ref px) (ra.step st2.kp), ?_⟩
  unfold mkI at q
  refine post_w (W := W) (σ := σ) (post_bind (Post.rebase st2 q) fun b h1 α1 H1 v r3 s3 rb q3 => ?_) fun _ _ _ z => z
  split at q3
  · rename_i hn
    have hv : decide (v = .non) = true := by rw [rb.isNon]; exact hn
    exact ⟨of_decide_eq_true hv, post_ok q3 r3 (.ref (s3.pre _ _ px))⟩
  · exact q3.elim
theorem ce_make (c : MakX X k x ps f) (tk : Takes X W) (hr : Room (k + 1) X.A) (hg : Gl X x) (hs : CAs X W (e :: es) ms)
    (hdb : (x == ("__debug__" : Str)) = false := by decide) (he : starEach (e :: es) X.env = (false, eval e X.env) :: starEach es X.env := by rfl) (hpl : (backTo pos (starEach es X.env)).any (·.1) = false := by rfl) :
    CE X W (.Call (.Name x p) (e :: es) [] pos) (eMake x (arity ps.length f) ms) := by
  obtain ⟨cc, fa, fd, h1, h2, F, hb⟩ := c.ex
  exact ce_of (pe_makeW (E := WE W) h2 F hr hg h1 hb (fun σ => passAt tk σ) hs hdb he hpl) fun σ α h H env Q r s q => ⟨α, h, env, r, s, post_bind q fun as hh α1 H1 vs r1 s1 ra q1 => make_read h1 r1 ra q1⟩
theorem ce_make0 (c : MakX X k x ps f) (tk : Takes X W) (hr : Room (k + 1) X.A) (hg : Gl X x) (hdb : (x == ("__debug__" : Str)) = false := by decide) : CE X W (.Call (.Name x p) [] [] pos) (eMake x (arity ps.length f) eNil) := by
  obtain ⟨cc, fa, fd, h1, h2, F, hb⟩ := c.ex
  exact ce_of (pe_makeW0 (E := WE W) h2 F hr hg h1 hb (fun σ => passAt tk σ) hdb) fun σ α h H env Q r s q => make_read h1 r .nil q
end
def Wlk (K : PySem.W.Frag) (mg : Str → Option Value) (J : It) (xs : List A) (α : Al) (h : AH) (H : Hp) : Prop :=
  ∀ α' h' H', Rel K mg α' h' H' → Kp α (Lv α h) H α' (Lv α' h') H' → (∀ p o u, H p = some (.frz o u) → ¬ Live α h p → H' p = some (.frz o u)) → ∀ i, (∀ a, xs[i]? = some a → J.go i H' ∧ ∀ x H2, J.yld i H' x H2 → Rel K mg α' h' H2 ∧ Stp α' h' H' α' h' H2 ∧ RA K mg α' (Lv α' h') H2 x a) ∧ (xs.length ≤ i → J.stop i H')
def PostI (K : PySem.W.Frag) (mg : Str → Option Value) (W : WX) (σ : L2.St) (α : Al) (h : AH) (H : Hp) (r : R (List A)) (Rr : It → Hp → Prop) : Prop := match r with
  | .ok xs h1 => ∀ α1 H1 J, Rel K mg α1 h1 H1 → Stp α h H α1 h1 H1 → Wlk K mg J xs α1 h1 H1 → Rr J H1
  | .er c d h' => ∀ α' H' cv dd, Rel K mg α' h' H' → Stp α h H α' h' H' → ErrAt K mg α' (Lv α' h') H' cv dd c d → W cv dd σ H'
  | .bad => False
def tIt (K : PySem.W.Frag) (mg : Str → Option Value) (W : WX) (m : M (List A)) : TI := fun σ H Rr => ∃ α h env, Rel K mg α h H ∧ SR K mg α (Lv α h) H σ env ∧ PostI K mg W σ α h H (m env h) Rr
def CI (X : Cx) (W : WX) (tg iter : Expr) (m : M (List A)) : Prop := PI X tg iter (tIt X.K X.mg W m)
def forL (t : Tg) (b : MS) : List A → MS
  | [], env, h => .nx env h
  | x :: r, env, h => match t.put x env with
    | none => .bad
    | some env1 => match b env1 h with
      | .nx e h' => forL t b r e h'
      | .ct e h' => forL t b r e h'
      | .bk e h' => .nx e h'
      | z => z
def sFor (t : Tg) (m : M (List A)) (b : MS) : MS := fun env h => (m env h).st env fun xs h => forL t b xs env h
section
variable {X : Cx} {W : WX} {tg iter : Expr} {body : List Stmt} {mi : M (List A)} {mb : MS} {t : Tg} {pos : Pos}
theorem sti_bind {K : PySem.W.Frag} {mg : Str → Option Value} {α : Al} {h : AH} {H : Hp} {r : R (List A)} {env : Env} {σ : L2.St} {f : List A → AH → SR1} {D : Ends} {G : It → Hp → Prop} (sr : SR K mg α (Lv α h) H σ env) (p : PostS K mg W α h H (r.st env f) D)
    (k : ∀ xs h1 α1 H1 J, Rel K mg α1 h1 H1 → Stp α h H α1 h1 H1 → Wlk K mg J xs α1 h1 H1 → PostS K mg W α1 h1 H1 (f xs h1) D → G J H1) : PostI K mg W σ α h H r G := by
  cases r with
  | ok b h1 => exact fun α1 H1 v a s c => k b h1 α1 H1 v a s c (PostS.rebase s p)
  | er c d h1 => exact fun α1 H1 cv dd a s e => p α1 H1 σ cv dd a s (sr.step s.kp) e
  | bad => exact p
theorem drop_get {β : Type} {xs : List β} {i : Nat} {a : β} (e : xs[i]? = some a) : xs.drop i = a :: xs.drop (i + 1) := by
  obtain ⟨hl, rfl⟩ := List.getElem?_eq_some_iff.mp e
  exact List.drop_eq_getElem_cons hl
theorem cs_for (hp : PassesOwn (model X.prog X.w) X.A X.env X.xe) (hc : X.calm = true) (hi : CI X W tg iter mi) (hg : PG X tg (t.g X.K)) (hb : CSs X W body mb)
    (hs : ∀ x, foldedSetIterable iter X.env x = pure x := by intro _; rfl) : CS X W (.For tg iter body [] pos) (sFor t mi mb) :=
  cs_of (ps_for hp hc hi hg hb hs) fun D σ α h H env r s q => ⟨α, h, env, r, s, sti_bind s q fun xs h1 α1 H1 J r1 s1 wl q1 => by
    refine ⟨fun i m σ' H' => ∃ α' h' env', Rel X.K X.mg α' h' H' ∧ Stp α1 h1 H1 α' h' H' ∧ SR X.K X.mg α' (Lv α' h') H' σ' env' ∧ m = xs.length - i ∧ PostS X.K X.mg W α' h' H' (forL t mb (xs.drop i) env' h') D,
      ⟨_, α1, h1, env, r1, .refl, s.step s1.kp, rfl, q1⟩, ?_⟩
    rintro i m σ2 H2 ⟨α2, h2, env2, r2, s2, sr2, rfl, q2⟩
    obtain ⟨w1, w2⟩ := wl α2 h2 H2 r2 s2.kp (fun p o u e n => s2.keep p _ e n) i
    cases hx : xs[i]? with
    | none =>
      have hl := List.getElem?_eq_none_iff.mp hx
      rw [List.drop_eq_nil_of_le hl] at q2
      exact .inl ⟨w2 hl, posts_nx q2 r2 sr2⟩
    | some a =>
      obtain ⟨hl, _⟩ := List.getElem?_eq_some_iff.mp hx
      obtain ⟨g1, g2⟩ := w1 a hx
      rw [drop_get hx] at q2
      refine .inr ⟨g1, fun σ' H' => ∃ α' h' env', Rel X.K X.mg α' h' H' ∧ Stp α1 h1 H1 α' h' H' ∧ SR X.K X.mg α' (Lv α' h') H' σ' env' ∧ PostS X.K X.mg W α' h' H' (forL t mb (xs.drop (i + 1)) env' h') D, ?_, ?_⟩
      · rintro σ' H' ⟨α', h', env', z1, z2, z3, z4⟩
        exact ⟨_, by omega, α', h', env', z1, z2, z3, rfl, z4⟩
      · intro x H3 hy
        obtain ⟨r3, s3, ra⟩ := g2 x H3 hy
        unfold forL at q2
        split at q2
        · exact q2.elim
        · rename_i env3 e3
          refine Tg.ok t ra (sr2.step s3.kp) e3 fun σ3 sr3 _ => ⟨α2, h2, env3, r3, sr3, ?_⟩
          have q3 := PostS.rebase s3 q2
          cases e : mb env3 h2 with
          | nx e4 h4 =>
            rw [e] at q3
            exact fun α4 H4 σ4 r4 s4 sr4 => ⟨α4, h4, e4, r4, (s2.trans s3).trans s4, sr4, PostS.rebase s4 q3⟩
          | ct e4 h4 =>
            rw [e] at q3
            exact fun α4 H4 σ4 r4 s4 sr4 => ⟨α4, h4, e4, r4, (s2.trans s3).trans s4, sr4, PostS.rebase s4 q3⟩
          | bk e4 h4 => rw [e] at q3; exact q3
          | rt a4 h4 => rw [e] at q3; exact q3
          | er c4 d4 e4 h4 => rw [e] at q3; exact q3
          | bad => rw [e] at q3; exact q3.elim⟩
def whl (c : M Bool) (b : MS) : Nat → MS
  | 0, _, _ => .bad
  | n + 1, env, h => (c env h).st env fun k h1 => if k then (match b env h1 with
    | .nx e h' => whl c b n e h'
    | .ct e h' => whl c b n e h'
    | .bk e h' => .nx e h'
    | z => z) else .nx env h1
def whileFuel : Nat := 1000000000
def sWhile (c : M Bool) (b : MS) : MS := whl c b whileFuel
theorem cs_while {c : Expr} {mc : M Bool} (hp : PassesOwn (model X.prog X.w) X.A X.env X.xe) (hc : CT X W c mc) (hb : CSs X W body mb) : CS X W (.While c body [] pos) (sWhile mc mb) :=
  cs_of (ps_while hp hc hb) fun D σ α h H env r s q => by
    refine ⟨fun m σ' H' => ∃ α' h' env', Rel X.K X.mg α' h' H' ∧ SR X.K X.mg α' (Lv α' h') H' σ' env' ∧ PostS X.K X.mg W α' h' H' (whl mc mb m env' h') D, ⟨whileFuel, α, h, env, r, s, q⟩, ?_⟩
    rintro m σ2 H2 ⟨α2, h2, env2, r2, sr2, q2⟩
    cases m with
    | zero => exact q2.elim
    | succ n =>
      unfold whl at q2
      refine ⟨α2, h2, env2, r2, sr2, st_bind sr2 q2 fun b h3 α3 H3 v r3 s3 e q3 => ?_⟩
      cases e
      have sr3 := sr2.step s3.kp
      cases b
      · rw [if_neg Bool.false_ne_true] at q3 ⊢
        exact posts_nx q3 r3 sr3
      · rw [if_pos rfl] at q3 ⊢
        refine ⟨fun σ' H' => ∃ α' h' env', Rel X.K X.mg α' h' H' ∧ SR X.K X.mg α' (Lv α' h') H' σ' env' ∧ PostS X.K X.mg W α' h' H' (whl mc mb n env' h') D, ?_, ?_⟩
        · rintro σ' H' ⟨α', h', env', z1, z2, z3⟩
          exact ⟨n, Nat.lt_succ_self n, α', h', env', z1, z2, z3⟩
        · refine ⟨α3, h3, env2, r3, sr3, ?_⟩
          cases e : mb env2 h3 with
          | nx e4 h4 =>
            rw [e] at q3
            exact fun α4 H4 σ4 r4 s4 sr4 => ⟨α4, h4, e4, r4, sr4, PostS.rebase s4 q3⟩
          | ct e4 h4 =>
            rw [e] at q3
            exact fun α4 H4 σ4 r4 s4 sr4 => ⟨α4, h4, e4, r4, sr4, PostS.rebase s4 q3⟩
          | bk e4 h4 => rw [e] at q3; exact q3
          | rt a4 h4 => rw [e] at q3; exact q3
          | er c4 d4 e4 h4 => rw [e] at q3; exact q3
          | bad => rw [e] at q3; exact q3.elim
end
end Cl
namespace Cl
open PySem PySem.Spec PyProof.Rows L2
section
variable {X : Cx} {W : WX} {tg l : Expr} {es : List Expr} {ml : M A} {ms : M (List A)} {pos : Pos}
def iSq (K : PySem.W.Frag) (tl : TE) : TI := fun σ H R => tl σ H fun x H1 => (∃ a, x = .ref a ∧ (((∃ xs, SqL K H1 a xs) ∧ R (Itl K a) H1) ∨ ((∃ xs, SqT K H1 a xs) ∧ R (Itt K a) H1))) ∨ ∃ z, x = .str z ∧ R (Its z) H1
theorem pi_sq {tl : TE} (hl : PE X l tl) : PI X tg l (iSq X.K tl) := by
  constructor
  intro pins s σ H R I h
  refine thn (hl.run pins s σ H _ I h) fun v s1 y => ?_
  obtain ⟨_, H1, I1, rv, ⟨a, rfl, q⟩ | ⟨z, rfl, q⟩⟩ := y
  · obtain rfl : v = .ref a := rv
    exact Dg.seq_begins I1 q
  · obtain ⟨t, rfl⟩ := rv
    cases ha : z.cps.all (· < 128)
    · exact wpAny_pyIter_wide ha (pi_one (tk := s1.toks) I1 _ (turn_str _ z t "str_iterator" (.inr rfl)) ⟨_, Heap.get?_push_size _ rfl, rfl, rfl⟩ q)
    · exact wpAny_pyIter_ascii ha (pi_one (tk := s1.toks) I1 _ (turn_str _ z t "str_ascii_iterator" (.inl rfl)) ⟨_, Heap.get?_push_size _ rfl, rfl, rfl⟩ q)
def frzSeq : A → Option (List A)
  | .tup xs => some xs
  | .lst xs => some xs
  | .scr xs => some xs
  | _ => none
def signs (x : Str) : List A := x.cps.toList.map fun c => .str ⟨#[c]⟩
def itemsA : A → Option (List A)
  | .str x => some (signs x)
  | a => frzSeq a
def itSeq (ml : M A) : M (List A) := fun env h => (ml env h).bind fun a h => match itemsA a with
  | some xs => .ok xs h
  | none => .bad
theorem ci_of {iter : Expr} {t : TI} {m : M (List A)} (p : PI X tg iter t) (i : ∀ σ α h H env R, Rel X.K X.mg α h H → SR X.K X.mg α (Lv α h) H σ env → PostI X.K X.mg W σ α h H (m env h) R → t σ H R) : CI X W tg iter m :=
  ⟨fun a b c d f I ⟨α, h, env, r, s, q⟩ => p.run a b c d f I (i _ _ _ _ _ _ r s q)⟩
theorem PostI.rebase {K : PySem.W.Frag} {mg : Str → Option Value} {σ : L2.St} {α α' : Al} {h h' : AH} {H H' : Hp} {r : R (List A)} {Q : It → Hp → Prop} (s : Stp α h H α' h' H') (p : PostI K mg W σ α h H r Q) : PostI K mg W σ α' h' H' r Q := by
  cases r with
  | ok b h1 => exact fun α2 H2 v a b c => p α2 H2 v a (s.trans b) c
  | er c d h1 => exact fun α2 H2 cv dd a b c => p α2 H2 cv dd a (s.trans b) c
  | bad => exact p
theorem posti_bind {τ β : Type} {RB : RT τ β} {K : PySem.W.Frag} {mg : Str → Option Value} {σ : L2.St} {α : Al} {h : AH} {H : Hp} {r : R β} {f : β → AH → R (List A)} {Q : It → Hp → Prop} {G : τ → Hp → Prop} (p : PostI K mg W σ α h H (r.bind f) Q)
    (k : ∀ b h1 α1 H1 v, Rel K mg α1 h1 H1 → Stp α h H α1 h1 H1 → RB K mg α1 (Lv α1 h1) H1 v b → PostI K mg W σ α1 h1 H1 (f b h1) Q → G v H1) : Post RB K mg W σ α h H r G := by
  cases r with
  | ok b h1 => exact fun α1 H1 v a s c => k b h1 α1 H1 v a s c (PostI.rebase s p)
  | er c d h1 => exact p
  | bad => exact p
theorem posti_ok {K : PySem.W.Frag} {mg : Str → Option Value} {σ : L2.St} {α : Al} {h : AH} {H : Hp} {xs : List A} {Q : It → Hp → Prop} {J : It} (p : PostI K mg W σ α h H (.ok xs h) Q) (r : Rel K mg α h H) (w : Wlk K mg J xs α h H) : Q J H := p α H J r .refl w
theorem wlk_l {K : PySem.W.Frag} {mg : Str → Option Value} {α : Al} {h : AH} {H : Hp} {a : Addr} {vs : List V} {xs : List A} (k : ∀ α' h' H', Kp α (Lv α h) H α' (Lv α' h') H' → SqL K H' a vs) (r : RAs K mg α (Lv α h) H vs xs) : Wlk K mg (Itl K a) xs α h H :=
  fun α' h' H' r' kp _ i => ⟨fun b e => by
    obtain ⟨v, e1, e2⟩ := r.get e
    have q := k α' h' H' kp
    refine ⟨⟨vs, v, q, e1⟩, fun x H2 y => ?_⟩
    obtain ⟨rfl, y⟩ := y
    have e3 := y vs q
    rw [e1] at e3
    cases e3
    exact ⟨r', .refl, e2.step kp⟩, fun hl => ⟨vs, k α' h' H' kp, by rw [r.length]; exact hl⟩⟩
theorem wlk_t {K : PySem.W.Frag} {mg : Str → Option Value} {α : Al} {h : AH} {H : Hp} {a : Addr} {vs : List V} {xs : List A} (k : ∀ α' h' H', Kp α (Lv α h) H α' (Lv α' h') H' → SqT K H' a vs) (r : RAs K mg α (Lv α h) H vs xs) : Wlk K mg (Itt K a) xs α h H :=
  fun α' h' H' r' kp _ i => ⟨fun b e => by
    obtain ⟨v, e1, e2⟩ := r.get e
    have q := k α' h' H' kp
    refine ⟨⟨vs, v, q, e1⟩, fun x H2 y => ?_⟩
    obtain ⟨rfl, y⟩ := y
    have e3 := y vs q
    rw [e1] at e3
    cases e3
    exact ⟨r', .refl, e2.step kp⟩, fun hl => ⟨vs, k α' h' H' kp, by rw [r.length]; exact hl⟩⟩
theorem frz_walk {K : PySem.W.Frag} {mg : Str → Option Value} {α : Al} {h : AH} {H : Hp} {v : V} {a : A} {xs : List A} (r : RA K mg α (Lv α h) H v a) (e : frzSeq a = some xs) :
    ∃ p, v = .ref p ∧ (((∃ vs, SqL K H p vs) ∧ Wlk K mg (Itl K p) xs α h H) ∨ ((∃ vs, SqT K H p vs) ∧ Wlk K mg (Itt K p) xs α h H)) := by
  unfold frzSeq at e
  split at e
  · cases e
    cases r with
    | tup h1 h2 => exact ⟨_, rfl, .inr ⟨⟨_, h1.sq⟩, wlk_t (fun _ _ _ k => (k.tupAt h1).sq) h2⟩⟩
  · cases e
    cases r with
    | lst h1 h2 h3 => exact ⟨_, rfl, .inl ⟨⟨_, .inl (.inl h1)⟩, wlk_l (fun _ _ _ k => .inl (.inl (k.lst _ _ h1 h2))) h3⟩⟩
  · cases e
    cases r with
    | scr h1 h3 => exact ⟨_, rfl, .inl ⟨⟨_, h1.sq⟩, wlk_l (fun _ _ _ k => (k.scrAt h1).sq) h3⟩⟩
  · cases e
theorem wlk_s {K : PySem.W.Frag} {mg : Str → Option Value} {α : Al} {h : AH} {H : Hp} (x : Str) : Wlk K mg (Its x) (signs x) α h H := fun α' h' H' r' kp _ i => ⟨fun b e => by
  unfold signs at e
  rw [List.getElem?_map] at e
  cases hc : x.cps.toList[i]? with
  | none => rw [hc] at e; cases e
  | some c =>
    rw [hc] at e
    cases e
    obtain ⟨hlt, _⟩ := List.getElem?_eq_some_iff.mp hc
    refine ⟨by show i < x.cps.size; simpa using hlt, fun y H2 z => ?_⟩
    obtain ⟨rfl, c', e1, rfl⟩ := z
    have e2 : x.cps.toList[i]? = some c' := by simpa using e1
    rw [hc] at e2
    cases e2
    exact ⟨r', .refl, .str _⟩, fun hl => by
  unfold signs at hl
  rw [List.length_map, Array.length_toList] at hl
  exact hl⟩
theorem ci_seq (hl : CE X W l ml) : CI X W tg l (itSeq ml) :=
  ci_of (pi_sq hl) fun σ α h H env R r s q => ⟨α, h, env, r, s, posti_bind q fun a h1 α1 H1 v r1 s1 ra q1 => by
    split at q1
    · rename_i xs e
      unfold itemsA at e
      split at e
      · cases e
        cases ra
        exact .inr ⟨_, rfl, posti_ok q1 r1 (wlk_s _)⟩
      · obtain ⟨p, rfl, w⟩ := frz_walk ra e
        refine .inl ⟨p, rfl, ?_⟩
        rcases w with ⟨w1, w2⟩ | ⟨w1, w2⟩
        · exact .inl ⟨w1, posti_ok q1 r1 w2⟩
        · exact .inr ⟨w1, posti_ok q1 r1 w2⟩
    · exact q1.elim⟩
def upA (lo : Int) (n : Nat) : List A := (List.range n).map fun (i : Nat) => .int (lo + (i : Int))
theorem wlk_r {K : PySem.W.Frag} {mg : Str → Option Value} {α : Al} {h : AH} {H : Hp} (lo : Int) (n : Nat) : Wlk K mg (Itr lo n) (upA lo n) α h H :=
  fun α' h' H' r' kp _ i => ⟨fun b e => by
    unfold upA at e
    rw [List.getElem?_map] at e
    cases hc : (List.range n)[i]? with
    | none => rw [hc] at e; cases e
    | some c =>
      rw [hc] at e
      cases e
      obtain ⟨hlt, hh⟩ := List.getElem?_eq_some_iff.mp hc
      rw [List.length_range] at hlt
      rw [List.getElem_range] at hh
      subst hh
      refine ⟨hlt, fun y H2 z => ?_⟩
      obtain ⟨rfl, rfl⟩ := z
      exact ⟨r', .refl, .int _⟩, fun hl => by
    unfold upA at hl
    rw [List.length_map, List.length_range] at hl
    exact hl⟩
def itR1 (ms : M (List A)) : M (List A) := fun env h => (ms env h).bind fun as h => match as with
  | [.int j] => if -1000000000 ≤ j ∧ j ≤ 1000000000 then .ok (upA 0 j.toNat) h else .bad
  | _ => .bad
def itR2 (ms : M (List A)) : M (List A) := fun env h => (ms env h).bind fun as h => match as with
  | [.int i, .int j] => if -1000000000 ≤ i ∧ i ≤ 1000000000 ∧ -1000000000 ≤ j ∧ j ≤ 1000000000 then .ok (upA i (j - i).toNat) h else .bad
  | _ => .bad
theorem ci_r1 {iter : Expr} (p : ∀ {ta : TA}, PA X es ta → PI X tg iter (iRng1 ta)) (hs : CAs X W es ms) : CI X W tg iter (itR1 ms) :=
  ci_of (p hs) fun σ α h H env R r s q => ⟨α, h, env, r, s, posti_bind q fun as h1 α1 H1 vs r1 s1 ra q1 => by
    split at q1
    · split at q1
      · obtain ⟨v, rfl, x⟩ := ra.one
        cases x
        exact ⟨_, rfl, by omega, by omega, posti_ok q1 r1 (wlk_r _ _)⟩
      · exact q1.elim
    · exact q1.elim⟩
theorem ci_r2 {iter : Expr} (p : ∀ {ta : TA}, PA X es ta → PI X tg iter (iRng2 ta)) (hs : CAs X W es ms) : CI X W tg iter (itR2 ms) :=
  ci_of (p hs) fun σ α h H env R r s q => ⟨α, h, env, r, s, posti_bind q fun as h1 α1 H1 vs r1 s1 ra q1 => by
    split at q1
    · split at q1
      · obtain ⟨v, w, rfl, x, y⟩ := ra.two
        cases x
        cases y
        exact ⟨_, _, rfl, by omega, posti_ok q1 r1 (wlk_r _ _)⟩
      · exact q1.elim
    · exact q1.elim⟩
end
end Cl
namespace Cl
open PySem PySem.Spec PyProof.Rows L2
section
variable {X : Cx} {W : WX} {tg e : Expr} {ml : M A} {pos tpos p : Pos} {elts : List Expr} {kk : Nat}
def iEn (K : PySem.W.Frag) (k : Int) (ta : TA) : TI := fun σ H R => ta σ H fun vs H1 => ∃ a, vs = [.ref a] ∧ (((∃ xs, SqL K H1 a xs) ∧ R (Dg.IteG (fun xs H => SqL K H a xs) k) H1) ∨ ((∃ xs, SqT K H1 a xs) ∧ R (Dg.IteG (fun xs H => SqT K H a xs) k) H1))
theorem en_walk {k : Int} {pins : List (Addr × Obj)} {σ : L2.St} {H1 : Hp} {s1 : Shared} {R : It → Hp → Prop} {a : Addr} {h' : Heap} (I1 : Inv X pins σ H1 s1)
    (en : IsEnum h' (s1.heap.objs.size + 1) s1.heap.objs.size k .none) (kp : ∀ b o, s1.heap.get? b = some o → h'.get? b = some o) (lt : a < s1.heap.objs.size)
    (q : (h'.IsListIter s1.heap.objs.size a 0 ∧ R (Dg.IteG (fun xs H => SqL X.K H a xs) k) H1) ∨ (h'.IsTupleIter s1.heap.objs.size a 0 ∧ R (Dg.IteG (fun xs H => SqT X.K H a xs) k) H1)) :
    wpAny (model X.prog X.w) X.A (pyIter (.ref (s1.heap.objs.size + 1))) (PIE X pins σ (.Tuple elts kk tpos) R) X.xe { s1 with heap := h' } := by
  let n := s1.heap.objs.size
  have young : ∀ b ∈ [n + 1, n], FpOk X pins H1 b := fun b hb => by
    have le : n ≤ b := by
      rcases List.mem_cons.mp hb with z | z
      · exact z ▸ Nat.le_add_right n 1
      · exact Nat.le_of_eq (List.mem_singleton.mp z).symm
    exact I1.fpOk le (I1.hok.fresh le)
  have n1 : n + 1 ≠ a := Nat.ne_of_gt (Nat.lt_succ_of_lt lt)
  have st : ∃ old, IsEnum h' (n + 1) n (k + ((0 : Nat) : Int)) old := ⟨.none, by rw [Int.natCast_zero, Int.add_zero]; exact en⟩
  apply wpAny_pyIter_enum en
  rcases q with ⟨on, q⟩ | ⟨on, q⟩
  · exact ⟨n + 1, [n + 1, n], _, _, H1, rfl, I1.kept (t' := s1.toks) kp, Dg.turn_en (Dg.drawnL X.prog X.w X.K a) k (n + 1) n, ⟨st, on, Nat.ne_of_lt lt, Nat.succ_ne_self _, n1⟩, young, q⟩
  · exact ⟨n + 1, [n + 1, n], _, _, H1, rfl, I1.kept (t' := s1.toks) kp, Dg.turn_en (Dg.drawnT X.prog X.w X.K a) k (n + 1) n, ⟨st, on, Nat.ne_of_lt lt, Nat.succ_ne_self _, n1⟩, young, q⟩
theorem sq_at {pins : List (Addr × Obj)} {σ : L2.St} {H : Hp} {s : Shared} {a : Addr} (I : Inv X pins σ H s) : (∀ xs, SqL X.K H a xs → ∃ its : List Value, s.heap.IsList a its.toArray ∧ a < s.heap.objs.size) ∧ ∀ xs, SqT X.K H a xs → ∃ its : List Value, s.heap.IsTuple a its.toArray ∧ a < s.heap.objs.size := by
  constructor
  · intro xs q
    obtain ⟨its, _, is, _⟩ := I.list q
    have is2 := is.isList
    exact ⟨its, is2, let ⟨_, e, _⟩ := is2; Heap.lt_size e⟩
  · intro xs q
    obtain ⟨its, _, is, _⟩ := I.tuple q
    have is2 : s.heap.IsTuple a its.toArray := is
    exact ⟨its, is2, let ⟨_, e, _⟩ := is2; Heap.lt_size e⟩
theorem pi_en0 {ta : TA} (hg : Gl X "enumerate") (hm : X.mg "enumerate" = none) (ha : PA X [e] ta) (hs : starEach [e] X.env = [(false, eval e X.env)] := by rfl) :
    PI X (.Tuple elts kk tpos) (.Call (.Name "enumerate" p) [e] [] pos) (iEn X.K 0 ta) := by
  constructor
  intro pins s σ H R I h
  refine Call_ (ld_blt I hg hm boot_enumerate (PyProof.Rows.callWith_type1 (thn (ha.run pos pins s σ H _ I h) fun us s1 z => ?_) hs rfl))
  obtain ⟨vs, H1, I1, r1, a, rfl, q⟩ := z
  obtain ⟨u, rfl, ru⟩ := vals1 r1
  obtain rfl : u = .ref a := ru
  rcases q with ⟨⟨xs, hq⟩, q⟩ | ⟨⟨xs, hq⟩, q⟩
  · obtain ⟨its, is, lt⟩ := (sq_at I1).1 xs hq
    exact call_enumerate_list is fun h' en on _ kp => en_walk I1 en kp lt (.inl ⟨on, q⟩)
  · obtain ⟨its, is, lt⟩ := (sq_at I1).2 xs hq
    exact Dg.en1_begins (begins_tuple a its.toArray) is fun h' en made kp => en_walk I1 en kp lt (.inr ⟨⟨_, made, rfl, rfl⟩, q⟩)
theorem type_kw {M : Model} {A : Around} {E Q : Value → Shared → Prop} {s : Shared} {pos : Pos} {T : String} {args : List (Bool × Sem Value)} {kws : List (Option Str × Sem Value)} (pl : args.any (·.1) = false) (kn : kws.any (·.1.isNone) = false)
    (run : wpAny M A (evalArgs (.type T) true args kws) (fun a s1 => wpAny M A (call (.type T) a.pos a.kw) Q E s1) E s) : wpAny M A (callWith pos (.type T) [] args kws) Q E s := by
  have pass : ∀ v s1, E v s1 → E v s1 := fun _ _ x => x
  have none1 : (args.any (·.1) || kws.any (·.1.isNone)) = false := by rw [pl, kn]; rfl
  unfold callWith
  refine wpAny_bind (wpAny_holding (wpAny_mono run (fun a s1 done => ?_) pass))
  refine wpAny_bind (wpAny_standAt ?_)
  rw [none1]
  exact wpAny_bind (wpAny_pure (wpAny_bind (wpAny_mono done (fun r s2 z => wpAny_bind (wpAny_holding (wpAny_point (wpAny_pure z)))) pass)))
theorem pi_enK {ta : TA} {k : Int} {j2 : Nat} {cpos kpos : Pos} (hg : Gl X "enumerate") (hm : X.mg "enumerate" = none) (ha : PA X [e] ta) (hk0 : -(2 ^ 63) ≤ k) (hk1 : k < 2 ^ 63) (hs : starEach [e] X.env = [(false, eval e X.env)] := by rfl) :
    PI X (.Tuple elts kk tpos) (.Call (.Name "enumerate" p) [e] [⟨some "start", .Constant (.int k) j2 cpos, kpos⟩] pos) (iEn X.K k ta) := by
  constructor
  intro pins s σ H R I h
  have one : backTo pos (starEach [e] X.env) = [(false, eval e X.env)] := by rw [hs]; rfl
  have args := ha.run pos pins s σ H _ I h
  rw [one] at args
  refine wpAny_Call_Name_kw (ld_blt I hg hm boot_enumerate ?_)
  rw [one]
  refine type_kw rfl rfl (PyProof.Rows.evalArgs_kwB rfl (thn args fun us s1 z => ?_))
  obtain ⟨vs, H1, I1, r1, a, rfl, q⟩ := z
  refine thn ((pk_cons (nm := some "start") (kpos := kpos) (pe_int (i := k) (j := j2) (pos := cpos)) pk_nil).run pos pins s1 σ H1 (fun zs H2 => zs = [.int k] ∧ H2 = H1) I1 ⟨rfl, rfl⟩) fun ws s2 y => ?_
  obtain ⟨_, _, I2, rz, rfl, rfl⟩ := y
  obtain ⟨u, rfl, ru⟩ := vals1 r1
  obtain ⟨v, rfl, t, rfl⟩ := vals1 rz
  obtain rfl : u = .ref a := ru
  rcases q with ⟨⟨xs, hq⟩, q⟩ | ⟨⟨xs, hq⟩, q⟩
  · obtain ⟨its, is, lt⟩ := (sq_at I2).1 xs hq
    exact enum_begins_start (begins_list a its.toArray) is hk0 hk1 fun h' en made _ kp => en_walk I2 en kp lt (.inl ⟨⟨_, made, rfl, rfl⟩, q⟩)
  · obtain ⟨its, is, lt⟩ := (sq_at I2).2 xs hq
    exact enum_begins_start (begins_tuple a its.toArray) is hk0 hk1 fun h' en made _ kp => en_walk I2 en kp lt (.inr ⟨⟨_, made, rfl, rfl⟩, q⟩)
def numA (k : Int) : List A → List A
  | [] => []
  | a :: r => .tup [.int k, a] :: numA (k + 1) r
theorem numA_get : ∀ {xs : List A} {k : Int} {i : Nat} {b : A}, (numA k xs)[i]? = some b → ∃ a, xs[i]? = some a ∧ b = .tup [.int (k + i), a]
  | [], _, _, _, e => by simp [numA] at e
  | a :: r, k, 0, b, e => by
    simp only [numA, List.getElem?_cons_zero] at e
    cases e
    exact ⟨a, rfl, by simp⟩
  | a :: r, k, i + 1, b, e => by
    simp only [numA, List.getElem?_cons_succ] at e
    obtain ⟨c, h1, h2⟩ := numA_get e
    refine ⟨c, by simpa using h1, ?_⟩
    rw [h2]
    have : k + 1 + (i : Int) = k + ((i + 1 : Nat) : Int) := by omega
    rw [this]
theorem numA_length : ∀ (xs : List A) (k : Int), (numA k xs).length = xs.length
  | [], _ => rfl
  | _ :: r, k => congrArg (· + 1) (numA_length r (k + 1))
def itEn (k : Int) (ms : M (List A)) : M (List A) := fun env h => (ms env h).bind fun as h => match as with
  | [a] => match frzSeq a with
    | some xs => .ok (numA k xs) h
    | none => .bad
  | _ => .bad
theorem wlk_en {K : PySem.W.Frag} {mg : Str → Option Value} {α : Al} {h : AH} {H : Hp} {vs : List V} {xs : List A} {k : Int} {G : List V → Hp → Prop} (g : ∀ α' h' H', Kp α (Lv α h) H α' (Lv α' h') H' → G vs H') (r : RAs K mg α (Lv α h) H vs xs) : Wlk K mg (Dg.IteG G k) (numA k xs) α h H :=
  fun α' h' H' r' kp _ i => ⟨fun b e => by
    obtain ⟨c, e0, rfl⟩ := numA_get e
    obtain ⟨v, e1, e2⟩ := r.get e0
    have q := g α' h' H' kp
    refine ⟨⟨vs, v, q, e1⟩, fun x H2 y => ?_⟩
    obtain ⟨T, z, rfl, nT, rfl, hz⟩ := y
    have e3 := hz vs q
    rw [e1] at e3
    cases e3
    obtain ⟨a1, a2, a3⟩ := r'.alloc nT (.tup [.int (k + (i : Nat)), v])
    exact ⟨a1, a2, .tup (.inl ⟨.inl upd_same, a3⟩) (.cons (.int _) (.cons ((e2.step kp).step a2.kp) .nil))⟩, fun hl => ⟨vs, g α' h' H' kp, by rw [r.length]; rw [numA_length] at hl; exact hl⟩⟩
theorem frz_en {K : PySem.W.Frag} {mg : Str → Option Value} {α : Al} {h : AH} {H : Hp} {v : V} {a : A} {xs : List A} (k : Int) (r : RA K mg α (Lv α h) H v a) (e : frzSeq a = some xs) :
    ∃ p, v = .ref p ∧ (((∃ vs, SqL K H p vs) ∧ Wlk K mg (Dg.IteG (fun xs H => SqL K H p xs) k) (numA k xs) α h H) ∨ ((∃ vs, SqT K H p vs) ∧ Wlk K mg (Dg.IteG (fun xs H => SqT K H p xs) k) (numA k xs) α h H)) := by
  unfold frzSeq at e
  split at e
  · cases e
    cases r with
    | tup h1 h2 => exact ⟨_, rfl, .inr ⟨⟨_, h1.sq⟩, wlk_en (fun _ _ _ k => (k.tupAt h1).sq) h2⟩⟩
  · cases e
    cases r with
    | lst h1 h2 h3 => exact ⟨_, rfl, .inl ⟨⟨_, .inl (.inl h1)⟩, wlk_en (fun _ _ _ k => .inl (.inl (k.lst _ _ h1 h2))) h3⟩⟩
  · cases e
    cases r with
    | scr h1 h3 => exact ⟨_, rfl, .inl ⟨⟨_, h1.sq⟩, wlk_en (fun _ _ _ k => (k.scrAt h1).sq) h3⟩⟩
  · cases e
theorem ci_en {iter : Expr} {ms : M (List A)} {es : List Expr} (k : Int) (P : ∀ {ta : TA}, PA X es ta → PI X tg iter (iEn X.K k ta)) (hs : CAs X W es ms) : CI X W tg iter (itEn k ms) :=
  ci_of (P hs) fun σ α h H env R r s q => ⟨α, h, env, r, s, posti_bind q fun as h1 α1 H1 vs r1 s1 ra q1 => by
    split at q1
    · split at q1
      · rename_i xs e
        obtain ⟨v, rfl, x⟩ := ra.one
        obtain ⟨p, rfl, w⟩ := frz_en k x e
        refine ⟨p, rfl, ?_⟩
        rcases w with ⟨w1, w2⟩ | ⟨w1, w2⟩
        · exact .inl ⟨w1, posti_ok q1 r1 w2⟩
        · exact .inr ⟨w1, posti_ok q1 r1 w2⟩
      · exact q1.elim
    · exact q1.elim⟩
end
end Cl
namespace Cl
open PySem PySem.Spec PyProof.Rows L2
def Al.res (α : Al) (D : Addr) : Al := ⟨α.l, D :: α.z⟩
section
variable {K : PySem.W.Frag} {mg : Str → Option Value} {α α' : Al} {h h' : AH} {H H' : Hp} {D : Addr} {o : HO}
theorem lv_res {p : Addr} : Lv (α.res D) h p ↔ p = D ∨ Lv α h p := by
  unfold Lv Al.res
  rw [List.mem_cons]
  exact ⟨fun z => z.elim (fun y => y.elim .inl fun w => .inr (.inl w)) fun y => .inr (.inr y), fun z => z.elim (fun y => .inl (.inl y)) fun y => y.elim (fun w => .inl (.inr w)) .inr⟩
theorem kp_but {L L' : Addr → Prop} (hl : α'.l = α.l) (e : ∀ p, p ≠ D → H' p = H p) (nD : ∀ p u, H p = some u → ¬ L p → p ≠ D) (lv : ∀ p u, H p = some u → ¬ L p → ¬ L' p) : Kp α L H α' L' H' where
  pre := fun n p q => by rw [hl]; exact q
  tup := fun p vs r n => by
    obtain ⟨u, z⟩ := rd_some r
    unfold Rd at r ⊢
    rw [e p (nD p u z n)]
    exact r
  lst := fun p vs r n => by rw [e p (nD p _ r n)]; exact r
  scr := fun p vs r n => by
    obtain ⟨u, z⟩ := rd_some r
    unfold Rd at r ⊢
    rw [e p (nD p u z n)]
    exact r
  dct := fun p vs r n => by
    obtain ⟨u, z⟩ := rd_some r
    unfold Rd at r ⊢
    rw [e p (nD p u z n)]
    exact r
  ins := fun p c d vs r n => by rw [e p (nD p _ r n)]; exact r
  liv := lv
  all := fun p u r n => ⟨u, by rw [e p (nD p _ r n)]; exact r⟩
theorem kp_res (n : H D = none) : Kp α (Lv α h) H (α.res D) (Lv (α.res D) h) (upd H D o) :=
  kp_but (D := D) rfl (fun p hp => upd_ne hp) (fun p u e _ => ne_of_none e n) fun p u e nl z => by
    rcases lv_res.mp z with y | y
    · exact ne_of_none e n y
    · exact nl y
theorem kp_resPut : Kp (α.res D) (Lv (α.res D) h) H (α.res D) (Lv (α.res D) h) (upd H D o) :=
  kp_but (D := D) rfl (fun p hp => upd_ne hp) (fun p u e nl z => nl (lv_res.mpr (.inl z))) fun p u e nl => nl
theorem kp_unres : Kp (α.res D) (Lv (α.res D) h) H α (Lv α h) H :=
  kp_but (D := D) rfl (fun p hp => rfl) (fun p u e nl z => nl (lv_res.mpr (.inl z))) fun p u e nl z => nl (lv_res.mpr (.inr z))
theorem Rel.res (r : Rel K mg α h H) (n : H D = none) (o : HO) : Rel K mg (α.res D) h (upd H D o) := by
  refine ⟨r.len, r.nd, fun p hp => ?_, fun p hp => ?_, fun m ao e => ?_⟩
  · obtain ⟨u, z⟩ := r.has p hp
    exact ⟨u, by rw [upd_ne (ne_of_none z n)]; exact z⟩
  · rcases List.mem_cons.mp hp with rfl | hp
    · exact ⟨r.nlive n, o, upd_same⟩
    · obtain ⟨y, u, z⟩ := r.zs p hp
      exact ⟨y, u, by rw [upd_ne (ne_of_none z n)]; exact z⟩
  · obtain ⟨q, eq, oa⟩ := r.at_ m ao e
    exact ⟨q, eq, oa.step (kp_res n) fun u z => by rw [upd_ne (ne_of_none z n)]; exact z⟩
theorem Rel.resPut (r : Rel K mg (α.res D) h H) (o : HO) : Rel K mg (α.res D) h (upd H D o) := by
  obtain ⟨nD, _⟩ := r.zs D List.mem_cons_self
  have any : ∀ p, (∃ u, H p = some u) → ∃ u, upd H D o p = some u := fun p ⟨u, z⟩ => by
    by_cases hd : p = D
    · exact ⟨o, by rw [hd]; exact upd_same⟩
    · exact ⟨u, by rw [upd_ne hd]; exact z⟩
  refine ⟨r.len, r.nd, fun p hp => any p (r.has p hp), fun p hp => ?_, fun m ao e => ?_⟩
  · obtain ⟨y, z⟩ := r.zs p hp
    exact ⟨y, any p z⟩
  · obtain ⟨q, eq, oa⟩ := r.at_ m ao e
    have : q ≠ D := fun y => nD (y ▸ live_of eq e)
    exact ⟨q, eq, oa.step kp_resPut fun u z => by rw [upd_ne this]; exact z⟩
theorem Rel.unres (r : Rel K mg (α.res D) h H) : Rel K mg α h H := by
  refine ⟨r.len, r.nd, r.has, fun p hp => r.zs p (List.mem_cons_of_mem _ hp), fun m ao e => ?_⟩
  obtain ⟨q, eq, oa⟩ := r.at_ m ao e
  exact ⟨q, eq, oa.step kp_unres fun u z => z⟩
theorem Rel.unresNlv (r : Rel K mg (α.res D) h H) (n : D ∉ α.z) : ¬ Lv α h D := fun z => by
  obtain ⟨nD, _⟩ := r.zs D List.mem_cons_self
  rcases z with z | z
  · exact n z
  · exact nD z
theorem Rel.unresPush (r : Rel K mg (α.res D) h H) {ao : AO} (oa : Kp (α.res D) (Lv (α.res D) h) H (α.push D) (Lv (α.push D) (h ++ [some ao])) H → OA K mg (α.push D) (Lv (α.push D) (h ++ [some ao])) H D ao) (n : D ∉ α.z) (nD : D ∉ α.l) : Rel K mg (α.push D) (h ++ [some ao]) H := by
  obtain ⟨_, uD, hD⟩ := r.zs D List.mem_cons_self
  have hk : Kp (α.res D) (Lv (α.res D) h) H (α.push D) (Lv (α.push D) (h ++ [some ao])) H := by
    refine ⟨fun m p e => get_push_lt e, fun _ _ e _ => e, fun _ _ e _ => e, fun _ _ e _ => e, fun _ _ e _ => e, fun _ _ _ _ e _ => e, fun p u e nl z => nl ?_, fun p u e _ => ⟨u, e⟩⟩
    rcases z with z | z
    · exact .inl (List.mem_cons_of_mem _ z)
    · rcases (live_push (α := α) r.len).mp z with y | y
      · exact .inr y
      · exact .inl (by rw [y]; exact List.mem_cons_self)
  refine ⟨by simp [Al.push, Al.res] at *; exact r.len, List.nodup_append.mpr ⟨r.nd, by simp, fun a ha b hb => ?_⟩, fun q hq => ?_, fun q hq => ?_, fun m u e => ?_⟩
  · have : b = D := by simpa using hb
    rw [this]
    rintro rfl
    exact nD ha
  · rcases List.mem_append.mp hq with z | z
    · exact r.has q z
    · have : q = D := by simpa using z
      exact ⟨uD, by rw [this]; exact hD⟩
  · obtain ⟨y, u, z⟩ := r.zs q (List.mem_cons_of_mem _ hq)
    refine ⟨fun hm => ?_, u, z⟩
    rcases (live_push (α := α) r.len).mp hm with w | w
    · exact y w
    · exact n (w ▸ hq)
  · rcases get_push e with z | ⟨z, z'⟩
    · obtain ⟨q, eq, x⟩ := r.at_ m u z
      exact ⟨q, get_push_lt eq, x.step hk fun v y => y⟩
    · cases z'
      have hl : h.length = α.l.length := r.len.symm
      exact ⟨D, by rw [z, hl]; exact get_len, oa hk⟩
end
def wipeE (env : Env) : List Nat → Env
  | [] => env
  | v :: vs => (wipeE env vs).set v none
theorem sr_wipe {K : PySem.W.Frag} {mg : Str → Option Value} {α : Al} {L : Addr → Prop} {H : Hp} {σ : L2.St} {env : Env} (s : SR K mg α L H σ env) : ∀ vs : List Nat, SR K mg α L H (wipe σ vs) (wipeE env vs)
  | [] => s
  | v :: vs => paired_set .none v (sr_wipe s vs)
theorem wipe_same {σ σ' : L2.St} : ∀ {vs : List Nat}, σ.length = σ'.length → (∀ i, i ∉ vs → σ[i]? = σ'[i]?) → wipe σ vs = wipe σ' vs := by
  intro vs hl h
  have key : ∀ (τ : L2.St) (vs : List Nat) (i : Nat), (wipe τ vs)[i]? = if i ∈ vs ∧ i < τ.length then some none else τ[i]? := by
    intro τ vs
    induction vs with
    | nil => intro i; simp [wipe]
    | cons v vs ih =>
      intro i
      unfold wipe
      by_cases e : v = i
      · subst e
        by_cases hv : v < τ.length
        · rw [List.getElem?_set_self (by rw [wipe_length]; exact hv)]
          simp [hv]
        · rw [List.getElem?_eq_none (by rw [List.length_set, wipe_length]; omega)]
          simp [hv]
      · rw [List.getElem?_set_ne e, ih]
        have : (i ∈ v :: vs) ↔ i ∈ vs := by
          rw [List.mem_cons]
          exact ⟨fun z => z.elim (fun y => absurd y.symm e) id, .inr⟩
        simp only [this]
  apply List.ext_getElem?
  intro i
  rw [key, key, hl]
  by_cases hi : i ∈ vs
  · by_cases hlt : i < σ'.length
    · rw [if_pos ⟨hi, hlt⟩, if_pos ⟨hi, hlt⟩]
    · rw [if_neg (fun z => hlt z.2), if_neg (fun z => hlt z.2), List.getElem?_eq_none (by omega), List.getElem?_eq_none (by omega)]
  · rw [if_neg (fun z => hi z.1), if_neg (fun z => hi z.1)]
    exact h i hi
theorem wipe_wipe {σ : L2.St} (vs : List Nat) : wipe (wipe σ vs) vs = wipe σ vs :=
  (wipe_same (σ := σ) (σ' := wipe σ vs) (by rw [wipe_length]) fun i hi => by
    have : ∀ (τ : L2.St) (vs : List Nat), i ∉ vs → (wipe τ vs)[i]? = τ[i]? := by
      intro τ vs
      induction vs with
      | nil => intro _; rfl
      | cons v vs ih =>
        intro h
        rw [List.mem_cons, not_or] at h
        unfold wipe
        rw [List.getElem?_set_ne (fun z => h.1 z.symm), ih h.2]
    exact (this σ vs hi).symm).symm
theorem lostN {α α' : Al} {h h' : AH} {H H' : Hp} {p : Addr} (s : Stp α h H α' h' H') (y : H' p = none) : p ∈ α.l ∨ H p = none := by
  cases e : H p with
  | none => exact .inr rfl
  | some o =>
    by_cases m : Live α h p
    · obtain ⟨n, _, z, _⟩ := m
      exact .inl (List.mem_of_getElem? z)
    · rw [s.keep p o e m] at y; cases y
def R.noer {β : Type} : R β → R β
  | .ok b h => .ok b h
  | _ => .bad
def lcL (t : Tg) (mt : M Bool) (me : M A) (env0 : Env) : List A → AH → R (List A)
  | [], h => .ok [] h
  | x :: r, h => match t.put x env0 with
    | none => .bad
    | some env => (mt env h).noer.bind fun b h => if b then (me env h).noer.bind fun y h => (lcL t mt me env0 r h).bind fun ys h => .ok (y :: ys) h else lcL t mt me env0 r h
def eLc (lv : Bool) (t : Tg) (vs : List Nat) (mi : M (List A)) (mt : M Bool) (me : M A) : M A := fun env h => (mi env h).bind fun xs h => if xs.length ≤ lim then (lcL t mt me (wipeE env vs) xs h).bind fun ys h => mkL lv ys h else .bad
def W0 : WX := fun _ _ _ _ => False
def CTs (X : Cx) (W : WX) (ifs : List Expr) (m : M Bool) : Prop := PTs X ifs (tOf rtB X.K X.mg W m)
def mYes : M Bool := fun _ h => .ok true h
theorem PTs.imp {X : Cx} {e : List Expr} {t t' : TT} (p : PTs X e t) (i : ∀ σ H Q, t' σ H Q → t σ H Q) : PTs X e t' := ⟨fun a b c d f I z => p.run a b c d f I (i _ _ _ z)⟩
theorem cts_nil {X : Cx} {W : WX} : CTs X W [] mYes := PTs.imp pts_nil fun σ H Q ⟨α, h, env, r, s, q⟩ => post_ok q r rfl
theorem cts_one {X : Cx} {W : WX} {c : Expr} {m : M Bool} (h : CT X W c m) : CTs X W [c] m := pts_one h
theorem bind_bind {β γ δ : Type} (r : R β) (f : β → AH → R γ) (g : γ → AH → R δ) : (r.bind f).bind g = r.bind fun b h => (f b h).bind g := by cases r <;> rfl
section
variable {X : Cx} {W : WX} {tg iter elt : Expr} {ifs : List Expr} {mi : M (List A)} {mt : M Bool} {me : M A} {t : Tg} {pos : Pos}
theorem bind_ok {K : PySem.W.Frag} {mg : Str → Option Value} {σ : L2.St} {α : Al} {h : AH} {H : Hp} {β : Type} {r : R β} {f : β → AH → R A} {Q : VK} (q : Post rtA K mg W σ α h H (r.noer.bind f) Q) : ∃ b h1, r = .ok b h1 ∧ Post rtA K mg W σ α h H (f b h1) Q := by
  cases r with
  | ok b h1 => exact ⟨b, h1, rfl, q⟩
  | er c d h1 => exact q.elim
  | bad => exact q.elim
theorem lc_read {K : PySem.W.Frag} {mg : Str → Option Value} (lv : Bool) {vs : List Nat} {σ : L2.St} {α : Al} {h : AH} {H : Hp} {env : Env} {Q : VK} {J : It} {xs : List A} (sub : ∀ i ∈ t.slots, i ∈ vs) (r : Rel K mg α h H) (s : SR K mg α (Lv α h) H σ env) (wl : Wlk K mg J xs α h H) (hl : xs.length ≤ lim)
    (q : Post rtA K mg W σ α h H ((lcL t mt me (wipeE env vs) xs h).bind fun ys h => mkL lv ys h) Q) : ∀ D, H D = none → ∃ W1 : Nat → Nat → Hp → Prop, (∃ m, W1 0 m (upd H D (.lst []))) ∧ ∀ i m H, W1 i m H →
  (J.stop i H ∧ Q (.ref D) H) ∨ (J.go i H ∧ ∃ Nx : Hp → Prop, (∀ H', Nx H' → ∃ m', m' < m ∧ W1 (i + 1) m' H') ∧ ∀ x H', J.yld i H x H' → (t.g K) x (wipe σ vs) H' fun σ2 H2 => wipe σ2 vs = wipe σ vs ∧ tOf rtB K mg W0 mt σ2 H2 fun b H3 =>
    if b = true then tOf rtA K mg W0 me σ2 H3 fun y H4 => ∃ acc, H4 D = some (.lst acc) ∧ acc.length < sizeLine ∧ Nx (upd H4 D (.lst (acc ++ [y]))) else Nx H3) := by
  intro D nD
  have dz : D ∉ α.z := fun z => by
    obtain ⟨_, u, e⟩ := r.zs D z
    rw [nD] at e; cases e
  let Ok : Nat → Hp → Prop := fun i H' => ∃ (α' : Al) (h' : AH) (ws : List V) (acc : List A), (α'.z = α.z ∧ D ∉ α'.l) ∧ Rel K mg (α'.res D) h' H' ∧ Stp α h H α' h' H' ∧ Kp α (Lv α h) H (α'.res D) (Lv (α'.res D) h') H' ∧ H' D = some (.lst ws) ∧ RAs K mg (α'.res D) (Lv (α'.res D) h') H' ws acc ∧ acc.length ≤ i ∧ i ≤ xs.length ∧
    Post rtA K mg W σ α h H ((lcL t mt me (wipeE env vs) (xs.drop i) h').bind fun ys h => mkL lv (acc ++ ys) h) Q
  refine ⟨fun i m H' => m = xs.length - i ∧ Ok i H', ⟨_, rfl, α, h, [], [], ⟨rfl, r.nmem nD⟩, r.res nD _, ⟨fun _ _ e => e, rfl, fun p o e _ => by rw [upd_ne (ne_of_none e nD)]; exact e, fun _ z => .inl z, fun _ z => .inl z⟩, kp_res nD, upd_same, .nil, Nat.le_refl _, Nat.zero_le _, by simpa using q⟩, ?_⟩
  rintro i m H2 ⟨rfl, α2, h2, ws, acc, ⟨ez, dl2⟩, r2, st2, kp2, hD, ra, hacc, hi, q2⟩
  obtain ⟨w1, w2⟩ := wl (α2.res D) h2 H2 r2 kp2 (fun p o u e n => st2.keep p _ e n) i
  have dz2 : D ∉ α2.z := by rw [ez]; exact dz
  cases hx : xs[i]? with
  | none =>
    have hn := List.getElem?_eq_none_iff.mp hx
    refine .inl ⟨w2 hn, ?_⟩
    rw [List.drop_eq_nil_of_le hn] at q2
    have q3 : Post rtA K mg W σ α h H (mkL lv acc h2) Q := by simpa [lcL, R.bind] using q2
    unfold mkL at q3
    cases lv
    · rw [if_neg Bool.false_ne_true] at q3
      exact q3 α2 H2 _ r2.unres st2 (.lst hD (r2.unresNlv dz2) (ra.step kp_unres))
    · rw [if_pos rfl] at q3
      have len2 : α2.l.length = h2.length := r2.len
      refine q3 (α2.push D) H2 _ (r2.unresPush (ao := .lst acc) (fun k => .lst hD (ra.step k)) dz2 dl2) ?_ (.ref (by rw [← len2]; exact get_len))
      refine ⟨fun n p e => get_push_lt (st2.pre n p e), ez, fun p o e nl => st2.keep p o e nl, fun p z => ?_, fun p z => ?_⟩
      · rcases (live_push len2).mp z with y | y
        · exact st2.liv p y
        · exact .inr (y ▸ nD)
      · rcases List.mem_append.mp z with y | y
        · exact st2.new p y
        · have : p = D := by simpa using y
          exact .inr (this ▸ nD)
  | some a =>
    obtain ⟨hlt, _⟩ := List.getElem?_eq_some_iff.mp hx
    obtain ⟨g1, g2⟩ := w1 a hx
    refine .inr ⟨g1, Ok (i + 1), fun H' z => ⟨_, by omega, rfl, z⟩, fun x H3 hy => ?_⟩
    obtain ⟨r3, st3, rx⟩ := g2 x H3 hy
    rw [drop_get hx] at q2
    unfold lcL at q2
    cases et : t.put a (wipeE env vs) with
    | none => rw [et] at q2; exact q2.elim
    | some env3 =>
      rw [et] at q2
      have s3 : SR K mg (α2.res D) (Lv (α2.res D) h2) H3 (wipe σ vs) (wipeE env vs) := sr_wipe ((s.step kp2).step st3.kp) vs
      refine Tg.ok t rx s3 et fun σ3 sr3 ag => ⟨?_, ?_⟩
      · rw [← wipe_wipe (σ := σ) vs]
        exact (wipe_same ag.1 fun j hj => ag.2 j fun z => hj (sub j z)).symm
      · dsimp only at q2
        rw [bind_bind] at q2
        obtain ⟨b, h4, e4, q4⟩ := bind_ok q2
        refine ⟨α2.res D, h2, env3, r3, sr3, ?_⟩
        rw [e4]
        intro α4 H4 b' r4 st4 eb
        cases (show b' = b from eb)
        have z4 : α4.z = D :: α2.z := st4.zeq
        obtain ⟨l4, zz4⟩ := α4
        cases (show zz4 = D :: α2.z from z4)
        have k4 : Kp α (Lv α h) H (Al.res ⟨l4, α2.z⟩ D) (Lv (Al.res ⟨l4, α2.z⟩ D) h4) H4 := (kp2.trans st3.kp).trans st4.kp
        have stp4 : Stp α h H ⟨l4, α2.z⟩ h4 H4 := by
          have c := st3.trans st4
          refine ⟨fun n p e => c.pre n p (st2.pre n p e), ez, fun p o e nl => ?_, fun p z => ?_, fun p z => ?_⟩
          · exact c.keep p o (st2.keep p o e nl) (st2.nliv e nl)
          · rcases c.liv p z with y | y
            · exact st2.liv p y
            · cases eh : H p with
              | none => exact .inr rfl
              | some o =>
                by_cases nl : Live α h p
                · exact .inl nl
                · rw [st2.keep p o eh nl] at y; cases y
          · rcases c.new p z with y | y
            · exact st2.new p y
            · exact lostN st2 y
        have nl2 : ¬ Live (α2.res D) h2 D := (r2.zs D List.mem_cons_self).1
        have hD3' : H3 D = some (_ : HO) := st3.keep D _ hD nl2
        have dl4 : D ∉ l4 := fun z => by
          rcases (st3.trans st4).new D z with y | y
          · exact dl2 y
          · rw [hD] at y; cases y
        have hD3 : H3 D = some (.lst ws) := st3.keep D _ hD nl2
        have hD4 : H4 D = some (.lst ws) := st4.keep D _ hD3 (r3.zs D List.mem_cons_self).1
        have ra4 : RAs K mg (Al.res ⟨l4, α2.z⟩ D) (Lv (Al.res ⟨l4, α2.z⟩ D) h4) H4 ws acc := (ra.step st3.kp).step st4.kp
        cases b
        · rw [if_neg Bool.false_ne_true] at q4 ⊢
          exact ⟨⟨l4, α2.z⟩, h4, ws, acc, ⟨ez, dl4⟩, r4, stp4, k4, hD4, ra4, by omega, hlt, q4⟩
        · rw [if_pos rfl] at q4 ⊢
          rw [bind_bind] at q4
          obtain ⟨y, h5, e5, q5⟩ := bind_ok q4
          refine ⟨_, h4, env3, r4, sr3.step st4.kp, ?_⟩
          rw [e5]
          intro α5 H5 y' r5 st5 ry
          have z5 : α5.z = D :: α2.z := st5.zeq
          obtain ⟨l5, zz5⟩ := α5
          cases (show zz5 = D :: α2.z from z5)
          have hD5 : H5 D = some (.lst ws) := st5.keep D _ hD4 (r4.zs D List.mem_cons_self).1
          refine ⟨ws, hD5, by rw [ra.length]; exact Nat.lt_of_le_of_lt (Nat.le_trans hacc (Nat.le_of_lt (Nat.lt_of_lt_of_le hlt hl))) lim_line, ?_⟩
          have dl5 : D ∉ l5 := fun z => by
            rcases st5.new D z with y | y
            · exact dl4 y
            · rw [hD4] at y; cases y
          have r5' : Rel K mg (Al.res ⟨l5, α2.z⟩ D) h5 H5 := r5
          have kk : Kp (Al.res ⟨l5, α2.z⟩ D) (Lv (Al.res ⟨l5, α2.z⟩ D) h5) H5 (Al.res ⟨l5, α2.z⟩ D) (Lv (Al.res ⟨l5, α2.z⟩ D) h5) (upd H5 D (.lst (ws ++ [y']))) := kp_resPut
          refine ⟨⟨l5, α2.z⟩, h5, ws ++ [y'], acc ++ [y], ⟨ez, dl5⟩, r5'.resPut _, ?_, (k4.trans st5.kp).trans kk, upd_same, ((ra4.step st5.kp).append (.cons ry .nil)).step kk, by simp; omega, hlt, ?_⟩
          · refine ⟨fun n p e => st5.pre n p (stp4.pre n p e), ez, fun p o e nl => ?_, fun p z => ?_, fun p z => ?_⟩
            · have e4' := stp4.keep p o e nl
              have e5' := st5.keep p o e4' (stp4.nliv e nl)
              rw [upd_ne (ne_of_none e nD)]
              exact e5'
            · rcases st5.liv p z with y | y
              · exact stp4.liv p y
              · cases eh : H p with
                | none => exact .inr rfl
                | some o =>
                  by_cases nl : Live α h p
                  · exact .inl nl
                  · rw [stp4.keep p o eh nl] at y; cases y
            · rcases st5.new p z with y | y
              · exact stp4.new p y
              · exact lostN stp4 y
          · rw [bind_bind] at q5
            have : (fun (b : List A) (h : AH) => (R.ok (y :: b) h).bind fun ys h => mkL lv (acc ++ ys) h) = fun ys h => mkL lv (acc ++ [y] ++ ys) h := by
              funext ys h
              simp [R.bind]
            rw [this] at q5
            exact q5
end
end Cl
namespace Cl
open PySem PySem.Spec PyProof.Rows L2
section
variable {X : Cx} {W : WX} {tg iter elt : Expr} {ifs : List Expr} {mi : M (List A)} {mt : M Bool} {me : M A} {t : Tg} {pos spos py : Pos}
theorem ce_lc (lv : Bool) {scope : Scope} {own : List (Str × Nat)} (hc : X.calm = true) (hN : X.N.Nodup) (hi : CI X W tg iter mi) (ok : BlkOk X.N X.env.scope scope own) (sub : ∀ i ∈ t.slots, i ∈ own.map (·.2))
    (hg : ∀ (s : Shared) (H : Hp) (C : Addr) (cl : List (Str × Addr)) (fp : List Addr), PG (X.blk s H scope (compEnvC scope cl C X.env) fp) tg (t.g X.K)) (ht : ∀ (s : Shared) (H : Hp) (C : Addr) (cl : List (Str × Addr)) (fp : List Addr), CTs (X.blk s H scope (compEnvC scope cl C X.env) fp) W0 ifs mt)
    (he : ∀ (s : Shared) (H : Hp) (C : Addr) (cl : List (Str × Addr)) (fp : List Addr), CE (X.blk s H scope (compEnvC scope cl C X.env) fp) W0 elt me) (hs : ∀ x, foldedSetIterable iter X.env x = pure x := by intro _; rfl) :
    CE X W (.ListComp elt [⟨tg, iter, ifs, 0⟩] scope pos) (eLc lv t (own.map (·.2)) mi mt me) :=
  ce_of (pe_lc (tt := tOf rtB X.K X.mg W0 mt) (te := tOf rtA X.K X.mg W0 me) hc hN hi ok hg ht he hs) fun σ α h H env Q r s q => ⟨α, h, env, r, s, by
    unfold eLc at q
    cases e : mi env h with
    | ok xs h1 =>
      rw [e] at q
      intro α1 H1 J r1 s1 wl
      have q1 := Post.rebase s1 q
      dsimp only [R.bind] at q1
      split at q1
      · rename_i hl
        exact lc_read lv sub r1 (s.step s1.kp) wl hl q1
      · exact q1.elim
    | er c d h1 => rw [e] at q; exact q
    | bad => rw [e] at q; exact q⟩
theorem cs_setLc (lv : Bool) {i : Nat} {y : Str} {scope : Scope} {own : List (Str × Nat)} (hc : X.calm = true) (hN : X.N.Nodup) (hy : X.N[i]? = some y) (hyl : X.env.scope.names.lookup y = some .local)
    (hsw : swapsWith (.ListComp elt [⟨tg, iter, ifs, 0⟩] scope pos) (some (.Name y py)) spos.line X.env = pure true) (hi : CI X W tg iter mi) (ok : BlkOk X.N X.env.scope scope own) (sub : ∀ i ∈ t.slots, i ∈ own.map (·.2))
    (hg : ∀ (s : Shared) (H : Hp) (C : Addr) (cl : List (Str × Addr)) (fp : List Addr), PG (X.blk s H scope (compEnvC scope cl C X.env) fp) tg (t.g X.K)) (ht : ∀ (s : Shared) (H : Hp) (C : Addr) (cl : List (Str × Addr)) (fp : List Addr), CTs (X.blk s H scope (compEnvC scope cl C X.env) fp) W0 ifs mt)
    (he : ∀ (s : Shared) (H : Hp) (C : Addr) (cl : List (Str × Addr)) (fp : List Addr), CE (X.blk s H scope (compEnvC scope cl C X.env) fp) W0 elt me) (hs : ∀ x, foldedSetIterable iter X.env x = pure x := by intro _; rfl) :
    CS X W (.Assign [.Name y py] (.ListComp elt [⟨tg, iter, ifs, 0⟩] scope pos) spos) (sAsg (.name i) (eLc lv t (own.map (·.2)) mi mt me)) :=
  cs_of (ps_setLc (tt := tOf rtB X.K X.mg W0 mt) (te := tOf rtA X.K X.mg W0 me) hc hN hy hyl hsw hi ok hg ht he hs) fun D σ α h H env r s q => ⟨α, h, env, r, s, by
    unfold sAsg eLc at q
    cases e : mi env h with
    | ok xs h1 =>
      rw [e] at q
      intro α1 H1 J r1 s1 wl
      have q1 := PostS.rebase s1 q
      dsimp only [R.bind] at q1
      split at q1
      · rename_i hl
        refine lc_read lv sub r1 (s.step s1.kp) wl hl (Q := fun x H' => gName i x σ H' D.nx) (st_bind (s.step s1.kp) q1 fun b h2 α2 H2 v r2 s2 rb q2 => ?_)
        split at q2
        · rename_i env' e'
          have := Tg.ok (K := X.K) (.name i) rb ((s.step s1.kp).step s2.kp) e' (Q := D.nx) fun σ' s' _ => posts_nx q2 r2 s'
          unfold Tg.g at this
          exact this
        · exact q2.elim
      · exact q1.elim
    | er c d h1 =>
      rw [e] at q
      exact fun α' H' cv dd a b z => q α' H' σ cv dd a b (s.step b.kp) z
    | bad => rw [e] at q; exact q⟩
end
section
variable {X : Cx} {pos : Pos}
theorem tg_name (i : Nat) {x : Str} (hN : X.N.Nodup) (hi : X.N[i]? = some x) (hx : Loc X.env.scope x) (hf : X.fn x = true ∨ X.env.scope.names.lookup x = some .local := by first | exact .inl rfl | exact .inr rfl | assumption) : PG X (.Name x pos) ((Tg.name i).g X.K) := by
  unfold Tg.g
  exact pg_name hN hi hx hf
theorem tgs_nil : PGs X [] (Tg.gs X.K []) := by unfold Tg.gs; exact pgs_nil
theorem tgs_cons {e : Expr} {es : List Expr} {t : Tg} {ts : List Tg} (h1 : PG X e (t.g X.K)) (h2 : PGs X es (Tg.gs X.K ts))
    (hs : (assignEach (e :: es) X.env).map (·.2) = assign e X.env :: (assignEach es X.env).map (·.2) := by rfl) : PGs X (e :: es) (Tg.gs X.K (t :: ts)) := by
  unfold Tg.gs
  exact pgs_cons h1 h2 hs
theorem tg_tup {es : List Expr} {k : Nat} {ts : List Tg} (hc : X.calm = true) (h : PGs X es (Tg.gs X.K ts)) (hn : (assignEach es X.env).length = ts.length := by rfl) (hst : (assignEach es X.env).findIdx? (·.1) = none := by rfl) :
    PG X (.Tuple es k pos) ((Tg.tup ts).g X.K) := by
  unfold Tg.g
  exact pg_tup hc h hn hst
end
section
variable {X : Cx} {W : WX} {e : Expr} {ma : M A} {p pos pos2 : Pos} {x f : Str} {C : Addr}
def sRaise0 (x : Str) : MS := fun env h => .er x none env h
def sRaise1 (x f : Str) (ma : M A) : MS := fun env h => (ma env h).st env fun a h => .er x (some (f, a)) env h
theorem cs_raise0 (E : Dg.Ec X.K X.mg x C) (hc : X.calm = true) (tk : Takes X W) (hg : Gl X x) (hdb : (x == ("__debug__" : Str)) = false := by decide) : CS X W (.Raise (some (.Call (.Name x p) [] [] pos)) none pos2) (sRaise0 x) :=
  cs_of (ps_raise hc tk (Dg.pmk_own0 PySem.F.excBase_ValueError E.xC E.gC E.kC (raises_own E.bC E.tC) hg hdb)) fun D σ α h H env r s q =>
    q α H σ (.ref C) none r .refl s ⟨⟨C, rfl, E.gC⟩, rfl⟩
theorem cs_raise1 (E : Dg.Ef X.prog X.w X.K X.mg X.base x f C) (hc : X.calm = true) (tk : Takes X W) (hr : Room 2 X.A) (hg : Gl X x) (ha : CE X W e ma) (hdb : (x == ("__debug__" : Str)) = false := by decide)
    (hst : starEach [e] X.env = (false, eval e X.env) :: starEach [] X.env := by rfl) (hpl : (backTo pos (starEach [] X.env)).any (·.1) = false := by rfl) : CS X W (.Raise (some (.Call (.Name x p) [e] [] pos)) none pos2) (sRaise1 x f ma) :=
  cs_of (ps_raise hc tk (Dg.pmk_fld E hr hg (pa_cons ha pa_nil hst) hdb hst hpl)) fun D σ α h H env r s q => ⟨α, h, env, r, s, st_bind s q fun a h1 α1 H1 v r1 s1 ra q1 => Dg.mkO_in (C := C) (fld := f) (v := v) (H1 := H1) (Q := fun cls d H' => W cls d σ H') fun d nd => by
    obtain ⟨r2, s2, _⟩ := r1.alloc nd (.xd [(f, v)])
    exact q1 α1 _ σ (.ref C) (some d) r2 s2 ((s.step s1.kp).step s2.kp) ⟨⟨C, rfl, E.gC⟩, d, v, rfl, upd_same, ra.step s2.kp⟩⟩
end
def sSub (mo mi mv : M A) : MS := fun env h => (mv env h).st env fun v h => (mo env h).st env fun o h => (mi env h).st env fun i h => match o with
  | .ref n => match h[n]? with
    | some (some (.lst xs)) => match i with
      | .int k => match ixN xs.length k with
        | some j => .nx env (h.set n (some (.lst (xs.set j v))))
        | none => .bad
      | _ => .bad
    | some (some (.dct kvs)) => if isKey i ∧ kvs.length < lim then .nx env (h.set n (some (.dct (kvPut kvs i v)))) else .bad
    | _ => .bad
  | _ => .bad
section
variable {X : Cx} {W : WX} {o i v : Expr} {mo mi mv : M A} {pos pos' : Pos}
theorem PSet.or {t t' : TSet} (a : PSet X t) (b : PSet X t') : PSet X (fun o i v H Q => t o i v H Q ∨ t' o i v H Q) := by
  intro pins s σ H o i v ov iv u Q I r1 r2 r3 q
  rcases q with q | q
  · exact a pins s σ H o i v ov iv u Q I r1 r2 r3 q
  · exact b pins s σ H o i v ov iv u Q I r1 r2 r3 q
theorem cs_sub (hu : X.A.units + 1 < cLine) (ho : CE X W o mo) (hi : CE X W i mi) (hv : CE X W v mv) (hs : swapsWithSole [.Subscript o i pos'] v pos.line X.env = pure false := by rfl) (hw : swappedStores [.Subscript o i pos'] v X.env = pure none := by rfl)
    (h1 : (assignEach [.Subscript o i pos'] X.env).map (·.2) = [assign (.Subscript o i pos') X.env] := by rfl)
    (ha : ∀ v, assign (.Subscript o i pos') X.env v = (do
      let ov ← holding [v] (eval o X.env)
      let iv ← holding [v, ov] (eval i X.env)
      standAt pos'
      holding [v, ov, iv] (setItem ov iv v)
      release [v, ov, iv] []) := by intro _; rfl) : CS X W (.Assign [.Subscript o i pos'] v pos) (sSub mo mi mv) :=
  cs_of (ps_asg hv (pg_sub ho hi (PSet.or set_list (set_dict hu)) ha) hs hw h1) fun D σ α h H env r s q => ⟨α, h, env, r, s, st_bind s q fun v h1 α1 H1 x r1 s1 rv q1 =>
    ⟨α1, h1, env, r1, s.step s1.kp, st_bind (s.step s1.kp) q1 fun o h2 α2 H2 y r2 s2 ro q2 => ⟨α2, h2, env, r2, (s.step s1.kp).step s2.kp, st_bind ((s.step s1.kp).step s2.kp) q2 fun i h3 α3 H3 z r3 s3 ri q3 => by
      have rv3 := (rv.step s2.kp).step s3.kp
      have ro3 := ro.step s3.kp
      have sr3 := ((s.step s1.kp).step s2.kp).step s3.kp
      clear rv ro
      split at q3
      · rename_i n
        split at q3
        · rename_i xs e
          split at q3
          · rename_i k
            split at q3
            · rename_i j ej
              cases ri
              cases ro3 with
              | ref ep =>
                cases r3.obj e ep with
                | lst g1 g2 =>
                  obtain ⟨r4, s4⟩ := r3.put' ep e (.lst _) (.lst (xs.set j v)) fun st => .lst upd_same ((g2.step st.kp).set j (rv3.step st.kp))
                  exact .inl ⟨_, _, _, j, rfl, rfl, g1, by rw [g2.length]; exact ej, q3 α3 _ σ r4 s4 (sr3.step s4.kp)⟩
            · exact q3.elim
          · exact q3.elim
        · rename_i kvs e
          split at q3
          · rename_i hc
            obtain ⟨k, rfl, rfl⟩ := kV_of ri hc.1
            cases ro3 with
            | ref ep =>
              cases r3.obj e ep with
              | dct g1 g2 =>
                obtain ⟨r4, s4⟩ := r3.put' ep e (.dK (putK _ k x)) (.dct (kvPut kvs (keyA k) v)) fun st => .dct upd_same ((g2.step st.kp).put (rv3.step st.kp))
                exact .inr ⟨_, _, rfl, DPut.k g1 (by rw [g2.length]; exact Nat.lt_trans hc.2 lim_line), q3 α3 _ σ r4 s4 (sr3.step s4.kp)⟩
          · exact q3.elim
        · exact q3.elim
      · exact q3.elim⟩⟩⟩
end
end Cl
namespace Cl
open PySem PySem.Spec PyProof.Rows L2
abbrev FM := A → List A → AH → R A
def AbM (K : PySem.W.Frag) (mg : Str → Option Value) (r : V → List V → Hp → VK → Prop) (f : FM) : Prop :=
  ∀ (W : WX) (σ : L2.St) (α : Al) (h : AH) (H : Hp) (x : V) (a : A) (xs : List V) (as : List A) (Q : VK), Rel K mg α h H → RA K mg α (Lv α h) H x a → RAs K mg α (Lv α h) H xs as → Post rtA K mg W σ α h H (f a as h) Q → r x xs H Q
def isLst (h : AH) (a : A) : Bool := (lstOf h a).isSome
def isStr (_ : AH) : A → Bool
  | .str _ => true
  | _ => false
def eBm (c : AH → A → Bool) (f : FM) (mo : M A) (ms : M (List A)) : M A := fun env h => (mo env h).bind fun a h => if c h a then (ms env h).bind fun as h => f a as h else .bad
section
variable {X : Cx} {W : WX} {o e : Expr} {es : List Expr} {mo : M A} {ms : M (List A)} {name : Str} {apos cpos : Pos} {T id : String} {r : V → List V → Hp → VK → Prop} {f : FM} {c : AH → A → Bool}
def Chk (K : PySem.W.Frag) (mg : Str → Option Value) (T : String) (c : AH → A → Bool) : Prop := ∀ α h H x a, Rel K mg α h H → RA K mg α (Lv α h) H x a → c h a = true → tyV K T x H
theorem chk_lst {K : PySem.W.Frag} {mg : Str → Option Value} : Chk K mg "list" isLst := by
  intro α h H x a r ra e
  unfold isLst at e
  cases e1 : lstOf h a with
  | none => rw [e1] at e; cases e
  | some xs =>
    obtain ⟨p, vs, rfl, x1, x2⟩ := r.lst ra e1
    exact .inl ⟨rfl, _, .inl (.inl x1)⟩
theorem chk_str {K : PySem.W.Frag} {mg : Str → Option Value} : Chk K mg "str" isStr := by
  intro α h H x a r ra e
  cases ra <;> first | rfl | cases e
theorem ce_bm (k : Chk X.K X.mg T c) (hf : AbM X.K X.mg r f) (pa : PlainAttrs T) (slot : Slot T name id) (hty : typeOf (.builtin id) = pure (.type "method_descriptor")) (hm : MtR X id r) (ho : CE X W o mo) (ha : CAs X W (e :: es) ms)
    (hbase : attributeBase o name X.env (eval o X.env) = eval o X.env := by rfl)
    (hfew : ((backTo cpos (starEach (e :: es) X.env)).all (fun x => !x.1) && (backToKw cpos (keywordEach [] X.env)).all (fun x => x.1.isSome)
      && decide ((e :: es).length + ([] : List Keyword).length + (if ([] : List Keyword).isEmpty then 0 else 1) < 30)) = true := by rfl)
    (hline : (apos.endLine == cpos.line) = true := by rfl) (hs : starEach (e :: es) X.env = (false, eval e X.env) :: starEach es X.env := by rfl) (hplain : (backTo cpos (starEach es X.env)).any (·.1) = false := by rfl) :
    CE X W (.Call (.Attribute o name apos) (e :: es) [] cpos) (eBm c f mo ms) :=
  ce_of (pe_bm pa slot hty hm ho ha hbase hfew hline hs hplain) fun σ α h H env Q r0 s q => ⟨α, h, env, r0, s, post_bind q fun a h1 α1 H1 x r1 s1 ra q1 => by
    split at q1
    · rename_i hc
      exact ⟨k α1 h1 H1 x a r1 ra hc, α1, h1, env, r1, s.step s1.kp, post_bind q1 fun as h2 α2 H2 xs r2 s2 ras q2 => hf W σ α2 h2 H2 x a xs as Q r2 (ra.step s2.kp) ras q2⟩
    · exact q1.elim⟩
theorem ce_bm0 (k : Chk X.K X.mg T c) (hf : AbM X.K X.mg r f) (pa : PlainAttrs T) (slot : Slot T name id) (hty : typeOf (.builtin id) = pure (.type "method_descriptor")) (hm : MtR X id r) (ho : CE X W o mo)
    (hbase : attributeBase o name X.env (eval o X.env) = eval o X.env := by rfl) (hline : (apos.endLine == cpos.line) = true := by rfl) : CE X W (.Call (.Attribute o name apos) [] [] cpos) (eBm c f mo eNil) :=
  ce_of (pe_bm0 pa slot hty hm ho hbase hline) fun σ α h H env Q r0 s q => ⟨α, h, env, r0, s, post_bind q fun a h1 α1 H1 x r1 s1 ra q1 => by
    split at q1
    · rename_i hc
      exact ⟨k α1 h1 H1 x a r1 ra hc, hf W σ α1 h1 H1 x a [] [] Q r1 ra .nil q1⟩
    · exact q1.elim⟩
def vAppend : FM := fun a as h => match a, as with
  | .ref n, [y] => match h[n]? with
    | some (some (.lst xs)) => if xs.length < lim then .ok .non (h.set n (some (.lst (xs ++ [y])))) else .bad
    | _ => .bad
  | _, _ => .bad
theorem am_append {K : PySem.W.Frag} {mg : Str → Option Value} : AbM K mg rAppend vAppend := by
  intro W σ α h H x a xs as Q r ra ras q
  unfold vAppend at q
  split at q
  · rename_i n y
    split at q
    · rename_i ys e
      split at q
      · rename_i hl
        obtain ⟨v, rfl, rv⟩ := ras.one
        cases ra with
        | ref ep =>
          cases r.obj e ep with
          | lst g1 g2 =>
            obtain ⟨r1, s1⟩ := r.put' ep e (.lst (_ ++ [v])) (.lst (ys ++ [y])) fun st => .lst upd_same ((g2.step st.kp).append (.cons (rv.step st.kp) .nil))
            exact ⟨_, _, _, rfl, rfl, g1, by rw [g2.length]; exact Nat.lt_trans hl lim_line, q _ _ _ r1 s1 .non⟩
      · exact q.elim
    · exact q.elim
  · exact q.elim
def vPop : FM := fun a as h => match a, as with
  | .ref n, [] => match h[n]? with
    | some (some (.lst xs)) => match xs[xs.length - 1]? with
      | some y => .ok y (h.set n (some (.lst xs.dropLast)))
      | none => .bad
    | _ => .bad
  | _, _ => .bad
theorem RAs.dropLast {K : PySem.W.Frag} {mg : Str → Option Value} {α : Al} {L : Addr → Prop} {H : Hp} {vs : List V} {xs : List A} (r : RAs K mg α L H vs xs) : RAs K mg α L H vs.dropLast xs.dropLast := by
  rw [List.dropLast_eq_take, List.dropLast_eq_take, r.length]
  exact r.take _
theorem am_pop {K : PySem.W.Frag} {mg : Str → Option Value} : AbM K mg rPop vPop := by
  intro W σ α h H x a xs as Q r ra ras q
  unfold vPop at q
  split at q
  · rename_i n
    split at q
    · rename_i ys e
      split at q
      · rename_i y hy
        cases ras
        cases ra with
        | ref ep =>
          cases r.obj e ep with
          | lst g1 g2 =>
            obtain ⟨v, h1, h2⟩ := g2.get hy
            obtain ⟨r1, s1⟩ := r.put' ep e (.lst (List.dropLast _)) (.lst ys.dropLast) fun st => .lst upd_same (g2.step st.kp).dropLast
            exact ⟨_, _, v, rfl, rfl, g1, by rw [g2.length]; exact h1, q _ _ _ r1 s1 (h2.step s1.kp)⟩
      · exact q.elim
    · exact q.elim
  · exact q.elim
def vPopAt : FM := fun a as h => match a, as with
  | .ref n, [.int i] => match h[n]? with
    | some (some (.lst xs)) => if -(2 ^ 63) ≤ i ∧ i < 2 ^ 63 then match seqIndex? i xs.length with
      | some k => match xs[k]? with
        | some y => .ok y (h.set n (some (.lst (xs.eraseIdx k))))
        | none => .bad
      | none => .bad else .bad
    | _ => .bad
  | _, _ => .bad
theorem paired_erase {τ β : Type} {F : τ → β → Prop} : ∀ {xs : List τ} {ys : List β} (i : Nat), Paired F xs ys → Paired F (xs.eraseIdx i) (ys.eraseIdx i)
  | _, _, _, .nil => .nil
  | _, _, 0, .cons _ t => t
  | _, _, i + 1, .cons q t => .cons q (paired_erase i t)
def vClear : FM := fun a as h => match a, as with
  | .ref n, [] => match h[n]? with
    | some (some (.lst xs)) => .ok .non (h.set n (some (.lst [])))
    | _ => .bad
  | _, _ => .bad
def vInsert : FM := fun a as h => match a, as with
  | .ref n, [.int i, y] => match h[n]? with
    | some (some (.lst xs)) => if xs.length < lim ∧ 0 ≤ i ∧ i < 2 ^ 63 then .ok .non (h.set n (some (.lst (xs.take i.toNat ++ [y] ++ xs.drop i.toNat)))) else .bad
    | _ => .bad
  | _, _ => .bad
theorem am_insert {K : PySem.W.Frag} {mg : Str → Option Value} : AbM K mg (fun x vs H Q => ∃ (l : Addr) (xs : List V) (i : Int) (y : V), x = .ref l ∧ vs = [.int i, y] ∧ H l = some (.lst xs) ∧ xs.length < sizeLine ∧ 0 ≤ i ∧ i < 2 ^ 63 ∧
    Q .non (upd H l (.lst (xs.take i.toNat ++ [y] ++ xs.drop i.toNat)))) vInsert := by
  intro W σ α h H x a xs as Q r ra ras q
  unfold vInsert at q
  split at q
  · rename_i n i y
    split at q
    · rename_i ys e
      split at q
      · rename_i hl
        obtain ⟨u, v, rfl, ru, rv⟩ := ras.two
        cases ru
        cases ra with
        | ref ep =>
          cases r.obj e ep with
          | lst g1 g2 =>
            obtain ⟨r1, s1⟩ := r.put' ep e (.lst (List.take i.toNat _ ++ [v] ++ List.drop i.toNat _)) (.lst (ys.take i.toNat ++ [y] ++ ys.drop i.toNat)) fun st => .lst upd_same ((((g2.step st.kp).take _).append (.cons (rv.step st.kp) .nil)).append ((g2.step st.kp).drop _))
            exact ⟨_, _, _, _, rfl, rfl, g1, by rw [g2.length]; exact Nat.lt_trans hl.1 lim_line, hl.2.1, hl.2.2, q _ _ _ r1 s1 .non⟩
      · exact q.elim
    · exact q.elim
  · exact q.elim
def idxF (y : A) : List A → Nat → Option Nat
  | [], _ => none
  | z :: r, j => if eqFA z y then some j else idxF y r (j + 1)
def vIndex : FM := fun a as h => match as with
  | [y] => match lstOf h a with
    | some xs => if flatA y && xs.all flatA then match idxF y xs 0 with
      | some j => .ok (.int j) h
      | none => .bad else .bad
    | none => .bad
  | _ => .bad
theorem idxF_spec {y : A} : ∀ {xs : List A} {k j : Nat}, idxF y xs k = some j → k ≤ j ∧ ∃ z, xs[j - k]? = some z ∧ eqFA z y = true ∧ ∀ m z', m < j - k → xs[m]? = some z' → eqFA z' y = false
  | [], _, _, e => by cases e
  | z :: r, k, j, e => by
    unfold idxF at e
    by_cases h : eqFA z y = true
    · rw [if_pos h] at e
      cases e
      refine ⟨Nat.le_refl _, z, by simp, h, fun m z' hm => by omega⟩
    · rw [if_neg h] at e
      obtain ⟨h1, w, h2, h3, h4⟩ := idxF_spec e
      have e1 : j - k = (j - (k + 1)) + 1 := by omega
      refine ⟨by omega, w, by rw [e1]; simpa using h2, h3, fun m z' hm hz => ?_⟩
      cases m with
      | zero =>
        simp at hz
        subst hz
        simpa using h
      | succ m => exact h4 m z' (by omega) (by simpa using hz)
theorem am_index {K : PySem.W.Frag} {mg : Str → Option Value} : AbM K mg (rIndex K) vIndex := by
  intro W σ α h H x a xs as Q r ra ras q
  unfold vIndex at q
  split at q
  · rename_i y
    split at q
    · rename_i ys e
      split at q
      · rename_i f
        rw [Bool.and_eq_true] at f
        split at q
        · rename_i j ej
          obtain ⟨v, rfl, rv⟩ := ras.one
          obtain ⟨p, ws, rfl, x1, x2⟩ := r.lst ra e
          obtain ⟨_, z, h2, h3, h4⟩ := idxF_spec ej
          rw [Nat.sub_zero] at h2 h4
          obtain ⟨w, k1, k2⟩ := x2.get h2
          refine ⟨p, ws, v, j, w, rfl, rfl, .inl (.inl x1), rv.flat f.1, x2.flat f.2, k1, ?_, fun m z' hm hz => ?_, post_ok q r (.int _)⟩
          · rw [k2.eqF rv (List.all_eq_true.mp f.2 z (List.mem_of_getElem? h2)) f.1]
            exact h3
          · obtain ⟨b, b1, b2⟩ := paired_get' x2.pair hz
            rw [b2.eqF rv (List.all_eq_true.mp f.2 b (List.mem_of_getElem? b1)) f.1]
            exact h4 m b hm b1
        · exact q.elim
      · exact q.elim
    · exact q.elim
  · exact q.elim
def vSplit (lv : Bool) : FM := fun a as h => match a, as with
  | .str x, [.str y] => if y.length ≠ 0 ∧ x.length + 2 ≤ lim then mkL lv ((Txt.split x y).map .str) h else .bad
  | _, _ => .bad
theorem am_split {K : PySem.W.Frag} {mg : Str → Option Value} (lv : Bool) : AbM K mg (fun x xs H Q => ∃ a b, x = .str a ∧ xs = [.str b] ∧ (b.length == 0) = false ∧ a.length + 2 ≤ sizeLine ∧ rNewStrs (Txt.split a b) H Q) (vSplit lv) := by
  intro W σ α h H x a xs as Q r ra ras q
  unfold vSplit at q
  split at q
  · split at q
    · rename_i hc
      obtain ⟨v, rfl, rv⟩ := ras.one
      cases ra
      cases rv
      exact ⟨_, _, rfl, rfl, by simpa using hc.1, lim_le hc.2, fun p np => post_mkL q r np (RAs.of_strs _ _ _ _)⟩
    · exact q.elim
  · exact q.elim
def vJoin : FM := fun a as h => match a, as with
  | .str x, [b] => match (seqOf h b).bind strsOf with
    | some ys => if (ys.map (·.length)).sum + ys.length * x.length ≤ 16777216 then .ok (.str (Txt.join x ys)) h else .bad
    | none => .bad
  | _, _ => .bad
theorem am_join {K : PySem.W.Frag} {mg : Str → Option Value} : AbM K mg (fun x xs H Q => ∃ a p, ∃ ys : List Str, x = .str a ∧ xs = [.ref p] ∧ (SqL K H p (ys.map V.str) ∨ SqT K H p (ys.map V.str)) ∧
    (ys.map (·.length)).sum + ys.length * a.length ≤ 16777216 ∧ Q (.str (Txt.join a ys)) H) vJoin := by
  intro W σ α h H x a xs as Q r ra ras q
  unfold vJoin at q
  split at q
  · split at q
    · rename_i ys e
      split at q
      · rename_i hc
        obtain ⟨v, rfl, rv⟩ := ras.one
        cases ra
        obtain ⟨zs, e1, e2⟩ := bindO e
        obtain ⟨p, vs, rfl, x1, x2⟩ := r.seq rv e1
        have := x2.strs e2
        subst this
        exact ⟨_, _, ys, rfl, rfl, x1, hc, post_ok q r (.str _)⟩
      · exact q.elim
    · exact q.elim
  · exact q.elim
end
end Cl
namespace Cl
open PySem PySem.Spec PyProof.Rows L2
theorem Room.u1 {k : Nat} {A : Around} (r : Room k A) : A.units + 1 < cLine := by have := r.un; omega
theorem Room.u64 {k : Nat} {A : Around} (r : Room k A) : A.units + 64 < cLine := by have := r.un; omega
theorem Room.u65 {k : Nat} {A : Around} (r : Room k A) : A.units + 65 < cLine := by have := r.un; omega
section
variable {P : Program} {w : World} {K : PySem.W.Frag} {mg : Str → Option Value} {base : Heap} {CX : CXT} {k : Nat} {f : Addr} {fd : FuncData} {ps : List Str} {sp sp' : Sp}
theorem fnok_imp (x : FnOk P w K mg base CX k f fd ps sp) (i : ∀ vs H Q E, sp' vs H Q E → sp vs H Q E) : FnOk P w K mg base CX k f fd ps sp' where
  len := fun vs H Q E h => x.len vs H Q E (i vs H Q E h)
  run := fun A outer s H args us vs Q E hr he hb r h => x.run A outer s H args us vs Q E hr he hb r (i vs H Q E h)
theorem fnok_eq {n : Nat} {g m : FN} (x : FnOk P w K mg base (L2.CX P w) k f fd ps (spC K mg n m)) (e : ∀ as h, as.length = n → g as h ≠ .bad → m as h = g as h) : FnOk P w K mg base (L2.CX P w) k f fd ps (spC K mg n g) :=
  fnok_imp x fun vs H Q E ⟨α, h, as, r, ra, q⟩ => ⟨α, h, as, r, ra, by
    unfold arity at q ⊢
    split at q
    · rename_i hl
      rw [if_pos hl, e as h hl (fun z => by rw [z] at q; exact q.elim)]
      exact q
    · exact q.elim⟩
end
mutual
def low (n : Nat) : A → Bool
  | .ref i => decide (i < n)
  | .tup xs => lows n xs
  | .lst xs => lows n xs
  | .scr xs => lows n xs
  | .dct kvs => lowk n kvs
  | .obj _ fs => lowf n fs
  | _ => true
def lows (n : Nat) : List A → Bool
  | [] => true
  | a :: r => low n a && lows n r
def lowk (n : Nat) : List (A × A) → Bool
  | [] => true
  | (_, v) :: r => low n v && lowk n r
def lowf (n : Nat) : List (Str × A) → Bool
  | [] => true
  | (_, v) :: r => low n v && lowf n r
end
def lowO (n : Nat) : AO → Bool
  | .lst xs => lows n xs
  | .dct kvs => lowk n kvs
  | .ins _ fs => lowf n fs
def mapO {β γ : Type} (f : β → Option γ) : List β → Option (List γ)
  | [] => some []
  | a :: r => match f a, mapO f r with
    | some b, some s => some (b :: s)
    | _, _ => none
def fz (n : Nat) (h : AH) : Nat → A → Option A
  | 0, _ => none
  | k + 1, a => match a with
    | .ref i => if i < n then some (.ref i) else match h[i]? with
      | some (some (.lst xs)) => (mapO (fz n h k) xs).map .lst
      | some (some (.dct kvs)) => (mapO (fun kv => (fz n h k kv.2).map fun v => (kv.1, v)) kvs).map .dct
      | some (some (.ins C fs)) => (mapO (fun kv => (fz n h k kv.2).map fun v => (kv.1, v)) fs).map (.obj C)
      | _ => none
    | .tup xs => (mapO (fz n h k) xs).map .tup
    | .lst xs => (mapO (fz n h k) xs).map .lst
    | .scr xs => (mapO (fz n h k) xs).map .scr
    | .dct kvs => (mapO (fun kv => (fz n h k kv.2).map fun v => (kv.1, v)) kvs).map .dct
    | .obj C fs => (mapO (fun kv => (fz n h k kv.2).map fun v => (kv.1, v)) fs).map (.obj C)
    | a => some a
def Al.cut (α : Al) (n : Nat) : Al := ⟨α.l.take n, α.z⟩
section
variable {K : PySem.W.Frag} {mg : Str → Option Value} {α α0 : Al} {h h0 : AH} {H H0 : Hp} {n : Nat}
theorem live_cut {p : Addr} (l : Live (α.cut n) (h.take n) p) : Live α h p := by
  obtain ⟨i, o, e1, e2⟩ := l
  unfold Al.cut at e1
  rw [List.getElem?_take] at e1 e2
  split at e1
  · rename_i hi
    rw [if_pos hi] at e2
    exact ⟨i, o, e1, e2⟩
  · cases e1
theorem lv_cut {p : Addr} (l : Lv (α.cut n) (h.take n) p) : Lv α h p := l.elim .inl fun z => .inr (live_cut z)
theorem Rel.nlv_cut (r : Rel K mg α h H) {i : Nat} {p : Addr} {o : AO} (e : α.l[i]? = some p) (eo : h[i]? = some (some o)) (hi : ¬ i < n) : ¬ Lv (α.cut n) (h.take n) p := by
  intro l
  rcases l with l | ⟨j, o, e1, e2⟩
  · exact (r.zs p l).1 (live_of e eo)
  · unfold Al.cut at e1
    rw [List.getElem?_take] at e1
    split at e1
    · rename_i hj
      have := r.uniq e e1
      omega
    · cases e1
theorem nlv_up {p : Addr} (x : ¬ Lv α h p) : ¬ Lv (α.cut n) (h.take n) p := fun l => x (lv_cut l)
mutual
theorem RA.fz (r : Rel K mg α h H) : ∀ {k : Nat} {v : V} {a b : A}, RA K mg α (Lv α h) H v a → fz n h k a = some b → RA K mg (α.cut n) (Lv (α.cut n) (h.take n)) H v b
  | 0, _, _, _, _, e => by cases e
  | k + 1, v, a, b, ra, e => by
    unfold Cl.fz at e
    cases ra with
    | non => cases e; exact .non
    | bl x => cases e; exact .bl x
    | int x => cases e; exact .int x
    | str x => cases e; exact .str x
    | fn x => cases e; exact .fn x
    | tup h1 h2 =>
      obtain ⟨ys, e1, rfl⟩ := Option.map_eq_some_iff.mp e
      refine .tup ?_ (RAs.fz r h2 e1)
      rcases h1 with ⟨h1, h3⟩ | h1
      · exact .inl ⟨h1, nlv_up h3⟩
      · exact .inr h1
    | lst h1 h2 h3 =>
      obtain ⟨ys, e1, rfl⟩ := Option.map_eq_some_iff.mp e
      exact .lst h1 (nlv_up h2) (RAs.fz r h3 e1)
    | scr h1 h3 =>
      obtain ⟨ys, e1, rfl⟩ := Option.map_eq_some_iff.mp e
      refine .scr ?_ (RAs.fz r h3 e1)
      rcases h1 with ⟨h1, h2⟩ | h1
      · exact .inl ⟨h1, nlv_up h2⟩
      · exact .inr h1
    | dct h1 h2 h3 =>
      obtain ⟨ys, e1, rfl⟩ := Option.map_eq_some_iff.mp e
      exact .dct h1 (nlv_up h2) (RKs.fz r h3 e1)
    | obj h1 h2 h3 h4 =>
      obtain ⟨ys, e1, rfl⟩ := Option.map_eq_some_iff.mp e
      exact .obj h1 (nlv_up h2) h3 (RFs.fz r h4 e1)
    | ref ep =>
      rename_i i p
      dsimp only at e
      split at e
      · rename_i hi
        cases e
        refine .ref ?_
        unfold Al.cut
        rw [List.getElem?_take, if_pos hi]
        exact ep
      · rename_i hi
        split at e
        · rename_i xs eo
          obtain ⟨ys, e1, rfl⟩ := Option.map_eq_some_iff.mp e
          cases r.obj eo ep with
          | lst g1 g2 => exact .lst g1 (r.nlv_cut ep eo hi) (RAs.fz r g2 e1)
        · rename_i xs eo
          obtain ⟨ys, e1, rfl⟩ := Option.map_eq_some_iff.mp e
          cases r.obj eo ep with
          | dct g1 g2 => exact .dct (.inl g1) (r.nlv_cut ep eo hi) (RKs.fz r g2 e1)
        · rename_i C xs eo
          obtain ⟨ys, e1, rfl⟩ := Option.map_eq_some_iff.mp e
          cases r.obj eo ep with
          | ins g1 g2 g3 => exact .obj g1 (r.nlv_cut ep eo hi) g2 (RFs.fz r g3 e1)
        · cases e
termination_by k v a b => (k, 1, 0)
theorem RAs.fz (r : Rel K mg α h H) : ∀ {k : Nat} {vs : List V} {xs ys : List A}, RAs K mg α (Lv α h) H vs xs → mapO (fz n h k) xs = some ys → RAs K mg (α.cut n) (Lv (α.cut n) (h.take n)) H vs ys
  | _, _, [], _, .nil, e => by cases e; exact .nil
  | k, _, x :: xs, ys, .cons q s, e => by
    unfold mapO at e
    split at e
    · rename_i b bs e1 e2
      cases e
      exact .cons (RA.fz r q e1) (RAs.fz r s e2)
    · cases e
termination_by k vs xs ys => (k, 2, xs.length)
theorem RKs.fz (r : Rel K mg α h H) : ∀ {k : Nat} {vs : List (Key × V)} {xs ys : List (A × A)}, RKs K mg α (Lv α h) H vs xs → mapO (fun kv => (fz n h k kv.2).map fun v => (kv.1, v)) xs = some ys → RKs K mg (α.cut n) (Lv (α.cut n) (h.take n)) H vs ys
  | _, _, [], _, r0, e => by cases r0; cases e; exact .nil
  | k, _, x :: xs, ys, r0, e => by
    unfold mapO at e
    split at e
    · rename_i b bs e1 e2
      cases e
      obtain ⟨c, e3, rfl⟩ := Option.map_eq_some_iff.mp e1
      cases r0 with
      | cons q s => exact .cons (RA.fz r q e3) (RKs.fz r s e2)
    · cases e
termination_by k vs xs ys => (k, 2, xs.length)
theorem RFs.fz (r : Rel K mg α h H) : ∀ {k : Nat} {vs : List (Str × V)} {xs ys : List (Str × A)}, RFs K mg α (Lv α h) H vs xs → mapO (fun kv => (fz n h k kv.2).map fun v => (kv.1, v)) xs = some ys → RFs K mg (α.cut n) (Lv (α.cut n) (h.take n)) H vs ys
  | _, _, [], _, r0, e => by cases r0; cases e; exact .nil
  | k, _, x :: xs, ys, r0, e => by
    unfold mapO at e
    split at e
    · rename_i b bs e1 e2
      cases e
      obtain ⟨c, e3, rfl⟩ := Option.map_eq_some_iff.mp e1
      cases r0 with
      | cons q s => exact .cons (RA.fz r q e3) (RFs.fz r s e2)
    · cases e
termination_by k vs xs ys => (k, 2, xs.length)
end
end
end Cl
namespace Cl
open PySem PySem.Spec PyProof.Rows L2
section
variable {K : PySem.W.Frag} {mg : Str → Option Value} {α α0 : Al} {h h0 : AH} {H H0 : Hp} {n : Nat} {L : Addr → Prop}
mutual
theorem RA.isLow : ∀ {v : V} {a : A}, RA K mg α L H v a → low α.l.length a = true
  | _, _, .non => rfl
  | _, _, .bl _ => rfl
  | _, _, .int _ => rfl
  | _, _, .str _ => rfl
  | _, _, .tup _ r => by unfold low; exact r.isLow
  | _, _, .lst _ _ r => by unfold low; exact r.isLow
  | _, _, .scr _ r => by unfold low; exact r.isLow
  | _, _, .dct _ _ r => by unfold low; exact r.isLow
  | _, _, .obj _ _ _ r => by unfold low; exact r.isLow
  | _, _, .fn _ => rfl
  | _, _, .ref e => by unfold low; exact decide_eq_true (List.getElem?_eq_some_iff.mp e).1
theorem RAs.isLow : ∀ {vs : List V} {xs : List A}, RAs K mg α L H vs xs → lows α.l.length xs = true
  | _, _, .nil => rfl
  | _, _, .cons r s => by unfold lows; rw [r.isLow, s.isLow]; rfl
theorem RKs.isLow : ∀ {vs : List (Key × V)} {xs : List (A × A)}, RKs K mg α L H vs xs → lowk α.l.length xs = true
  | _, _, .nil => rfl
  | _, _, .cons r s => by unfold lowk; rw [r.isLow, s.isLow]; rfl
theorem RFs.isLow : ∀ {vs : List (Str × V)} {xs : List (Str × A)}, RFs K mg α L H vs xs → lowf α.l.length xs = true
  | _, _, .nil => rfl
  | _, _, .cons r s => by unfold lowf; rw [r.isLow, s.isLow]; rfl
end
theorem OA.isLow {p : Addr} {o : AO} (x : OA K mg α L H p o) : lowO α.l.length o = true := by
  cases x with
  | lst _ r => exact r.isLow
  | dct _ r => exact r.isLow
  | ins _ _ r => exact r.isLow
mutual
theorem RA.low : ∀ {v : V} {a : A}, RA K mg α (Lv α h) H v a → low n a = true → RA K mg (α.cut n) (Lv (α.cut n) (h.take n)) H v a
  | _, _, .non, _ => .non
  | _, _, .bl b, _ => .bl b
  | _, _, .int b, _ => .int b
  | _, _, .str b, _ => .str b
  | _, _, .tup h1 r, e => by
    unfold Cl.low at e
    refine .tup ?_ (r.low e)
    rcases h1 with ⟨h1, h3⟩ | h1
    · exact .inl ⟨h1, nlv_up h3⟩
    · exact .inr h1
  | _, _, .lst h1 h2 r, e => by unfold Cl.low at e; exact .lst h1 (nlv_up h2) (r.low e)
  | _, _, .scr h1 r, e => by
    unfold Cl.low at e
    refine .scr ?_ (r.low e)
    rcases h1 with ⟨h1, h2⟩ | h1
    · exact .inl ⟨h1, nlv_up h2⟩
    · exact .inr h1
  | _, _, .dct h1 h2 r, e => by unfold Cl.low at e; exact .dct h1 (nlv_up h2) (r.low e)
  | _, _, .obj h1 h2 h3 r, e => by unfold Cl.low at e; exact .obj h1 (nlv_up h2) h3 (r.low e)
  | _, _, .fn b, _ => .fn b
  | _, _, .ref ep, e => by
    unfold Cl.low at e
    refine .ref ?_
    unfold Al.cut
    rw [List.getElem?_take, if_pos (of_decide_eq_true e)]
    exact ep
theorem RAs.low : ∀ {vs : List V} {xs : List A}, RAs K mg α (Lv α h) H vs xs → lows n xs = true → RAs K mg (α.cut n) (Lv (α.cut n) (h.take n)) H vs xs
  | _, _, .nil, _ => .nil
  | _, _, .cons r s, e => by
    unfold lows at e
    rw [Bool.and_eq_true] at e
    exact .cons (r.low e.1) (s.low e.2)
theorem RKs.low : ∀ {vs : List (Key × V)} {xs : List (A × A)}, RKs K mg α (Lv α h) H vs xs → lowk n xs = true → RKs K mg (α.cut n) (Lv (α.cut n) (h.take n)) H vs xs
  | _, _, .nil, _ => .nil
  | _, _, .cons r s, e => by
    unfold lowk at e
    rw [Bool.and_eq_true] at e
    exact .cons (r.low e.1) (s.low e.2)
theorem RFs.low : ∀ {vs : List (Str × V)} {xs : List (Str × A)}, RFs K mg α (Lv α h) H vs xs → lowf n xs = true → RFs K mg (α.cut n) (Lv (α.cut n) (h.take n)) H vs xs
  | _, _, .nil, _ => .nil
  | _, _, .cons r s, e => by
    unfold lowf at e
    rw [Bool.and_eq_true] at e
    exact .cons (r.low e.1) (s.low e.2)
end
theorem OA.low {p : Addr} {o : AO} (x : OA K mg α (Lv α h) H p o) (e : lowO n o = true) : OA K mg (α.cut n) (Lv (α.cut n) (h.take n)) H p o := by
  cases x with
  | lst g r => exact .lst g (r.low e)
  | dct g r => exact .dct g (r.low e)
  | ins g m r => exact .ins g m (r.low e)
theorem close_rel (r0 : Rel K mg α0 h0 H0) (r : Rel K mg α h H) (s : Stp α0 h0 H0 α h H)
    (hk : ∀ i o, i < h0.length → h[i]? = some (some o) → h0[i]? = some (some o) ∨ lowO h0.length o = true) : Rel K mg (α.cut h0.length) (h.take h0.length) H ∧ Stp α0 h0 H0 (α.cut h0.length) (h.take h0.length) H := by
  refine ⟨⟨by simp [Al.cut, r.len], r.nd.sublist (List.take_sublist _ _), fun p hp => r.has p (List.mem_of_mem_take hp), fun p hp => ?_, fun i o e => ?_⟩, ⟨fun i p e => ?_, s.zeq, s.keep, fun p l => s.liv p (live_cut l), fun p l => s.new p (List.mem_of_mem_take l)⟩⟩
  · obtain ⟨a, b⟩ := r.zs p hp
    exact ⟨fun z => a (live_cut z), b⟩
  · rw [List.getElem?_take] at e
    split at e
    · rename_i hi
      obtain ⟨p, ep, oa⟩ := r.at_ i o e
      refine ⟨p, by unfold Al.cut; rw [List.getElem?_take, if_pos hi]; exact ep, oa.low ?_⟩
      rcases hk i o hi e with z | z
      · obtain ⟨q, _, x⟩ := r0.at_ i o z
        have := x.isLow
        rw [r0.len] at this
        exact this
      · exact z
    · cases e
  · obtain ⟨hl, _⟩ := List.getElem?_eq_some_iff.mp e
    unfold Al.cut
    rw [List.getElem?_take, if_pos (by rw [← r0.len]; exact hl)]
    exact s.pre i p e
inductive Closes (h : AH) : R A → R A → Prop
  | ok {a a' : A} {h1 : AH} {k : Nat} : fz h.length h1 k a = some a' → (∀ i o, i < h.length → h1[i]? = some (some o) → h[i]? = some (some o) ∨ lowO h.length o = true) → Closes h (.ok a h1) (.ok a' (h1.take h.length))
  | er0 {c : Str} {h1 : AH} : (∀ i o, i < h.length → h1[i]? = some (some o) → h[i]? = some (some o) ∨ lowO h.length o = true) → Closes h (.er c none h1) (.er c none (h1.take h.length))
  | er1 {c f : Str} {a : A} {h1 : AH} : low h.length a = true → (∀ i o, i < h.length → h1[i]? = some (some o) → h[i]? = some (some o) ∨ lowO h.length o = true) → Closes h (.er c (some (f, a)) h1) (.er c (some (f, a)) (h1.take h.length))
theorem post_close {W : WX} {σ : L2.St} {Q : VK} {r r' : R A} (r0 : Rel K mg α0 h0 H0) (c : Closes h0 r r') (q : Post rtA K mg W σ α0 h0 H0 r' Q) : Post rtA K mg W σ α0 h0 H0 r Q := by
  cases c with
  | ok e hk =>
    intro α H v r s ra
    obtain ⟨r1, s1⟩ := close_rel r0 r s hk
    exact q _ H v r1 s1 (RA.fz r ra e)
  | er0 hk =>
    intro α H cv dd r s ea
    obtain ⟨r1, s1⟩ := close_rel r0 r s hk
    exact q _ H cv dd r1 s1 ea
  | er1 lo hk =>
    intro α H cv dd r s ea
    obtain ⟨r1, s1⟩ := close_rel r0 r s hk
    obtain ⟨e1, da, v, e2, e3, e4⟩ := ea
    exact q _ H cv dd r1 s1 ⟨e1, da, v, e2, e3, e4.low lo⟩
end
section
variable {P : Program} {w : World} {K : PySem.W.Frag} {mg : Str → Option Value} {base : Heap} {k : Nat} {f : Addr} {fd : FuncData} {ps : List Str}
theorem fnok_close {n : Nat} {g m : FN} (x : FnOk P w K mg base (L2.CX P w) k f fd ps (spC K mg n m)) (e : ∀ as h, as.length = n → g as h ≠ .bad → Closes h (m as h) (g as h)) : FnOk P w K mg base (L2.CX P w) k f fd ps (spC K mg n g) :=
  fnok_imp x fun vs H Q E ⟨α, h, as, r, ra, q⟩ => ⟨α, h, as, r, ra, by
    unfold arity at q ⊢
    split at q
    · rename_i hl
      rw [if_pos hl]
      exact post_close r (e as h hl (fun z => by rw [z] at q; exact q.elim)) q
    · exact q.elim⟩
end
def pureA (a : A) : Bool := low 0 a
end Cl
namespace Cl
open PySem PySem.Spec PyProof.Rows L2
section
variable {K : PySem.W.Frag} {mg : Str → Option Value}
def vLt : F2 := intF fun i j => .bl (decide (i < j))
def vLe : F2 := intF fun i j => .bl (decide (i ≤ j))
def vGt : F2 := intF fun i j => .bl (decide (j < i))
def vGe : F2 := intF fun i j => .bl (decide (j ≤ i))
theorem ab_lt : Ab2 K mg (rI0 fun i j => .bl (decide (i < j))) vLt := ab_int _ _ fun _ _ _ _ _ => .bl _
theorem ab_le : Ab2 K mg (rI0 fun i j => .bl (decide (i ≤ j))) vLe := ab_int _ _ fun _ _ _ _ _ => .bl _
theorem ab_gt : Ab2 K mg (rI0 fun i j => .bl (decide (j < i))) vGt := ab_int _ _ fun _ _ _ _ _ => .bl _
theorem ab_ge : Ab2 K mg (rI0 fun i j => .bl (decide (j ≤ i))) vGe := ab_int _ _ fun _ _ _ _ _ => .bl _
def vLtT : F2 := fun a b h => match a, b with
  | .int i, .int j => .ok (.bl (decide (i < j))) h
  | .tup xs, .tup ys => match intsOf xs, intsOf ys with
    | some ns, some ms => .ok (.bl (HT.lexLt ns ms)) h
    | _, _ => .bad
  | _, _ => .bad
theorem ab_ltT : Ab2 K mg (fun x y H Q => rI0 (fun i j => .bl (decide (i < j))) x y H Q ∨ rLtT K x y H Q) vLtT := by
  intro W σ α h H x y a b Q r ra rb q
  unfold vLtT at q
  split at q
  · cases ra
    cases rb
    exact .inl ⟨_, _, rfl, rfl, post_ok q r (.bl _)⟩
  · split at q
    · rename_i e1 e2
      cases ra with
      | tup h1 h2 =>
        cases rb with
        | tup g1 g2 =>
          have := h2.ints e1
          subst this
          have := g2.ints e2
          subst this
          exact .inr ⟨_, _, _, _, rfl, rfl, h1.sq, g1.sq, post_ok q r (.bl _)⟩
    · exact q.elim
  · exact q.elim
end
abbrev FTab := List (Str × FN)
def eCallV (tab : FTab) (i : Nat) (ms : M (List A)) : M A := fun env h => match env[i]? with
  | some (some (.fn x)) => match tab.lookup x with
    | some f => (ms env h).bind fun as h => f as h
    | none => .bad
  | _ => .bad
def TabOk (P : Program) (w : World) (K : PySem.W.Frag) (mg : Str → Option Value) (base : Heap) (j : Nat) (tab : FTab) : Prop := ∀ x f, tab.lookup x = some f → ∃ k ps f0, k ≤ j ∧ Dg.Cal P w K mg base (L2.CX P w) k x ps (spC K mg ps.length f0) ∧ f = arity ps.length f0
section
variable {X : Cx} {W : WX} {a e : Expr} {es : List Expr} {ma : M A} {ms : M (List A)} {pos p : Pos} {i j : Nat} {x : Str} {tab : FTab}
def tCallLS (i : Nat) (f : Addr) (sp : Sp) (E : L2.St → XK) (t : TA) : TE := fun σ H Q => σ[i]? = some (some (.ref f)) ∧ t σ H fun vs H1 => sp vs H1 Q (E σ)
theorem pe_callLS {CX : CXT} {k : Nat} {f : Addr} {fd : FuncData} {ps : List Str} {sp : Sp} {E : L2.St → XK} {t : TA} (F : FnOk X.prog X.w X.K X.mg X.base CX k f fd ps sp) (hr : Room k X.A) (hN : X.N[i]? = some x) (hv : Vis X.env.scope x) (hk : PySem.W.keepIn X.K (.ref f) = true) (hb : Binds X.K fd ps []) (hx : ∀ σ, PassesAt CX X σ (E σ)) (ha : PA X (e :: es) t)
    (hdb : (x == ("__debug__" : Str)) = false := by decide) (hcd : (x == ("__classdict__" : Str)) = false := by decide)
    (he : starEach (e :: es) X.env = (false, eval e X.env) :: starEach es X.env := by rfl) (hpl : (backTo pos (starEach es X.env)).any (·.1) = false := by rfl) : PE X (.Call (.Name x p) (e :: es) [] pos) (tCallLS i f sp E t) := by
  refine ⟨fun pins s σ H Q I h => ?_⟩
  obtain ⟨hs, ht⟩ := h
  refine wpAny_Call_Name_kw (thn ((pe_var (pos := p) hN hv hdb hcd).run pins s σ H (fun v H1 => v = .ref f ∧ H1 = H) I ⟨.ref f, hs, rfl, rfl⟩) fun u s1 ⟨v, H1, I1, r1, q1⟩ => ?_)
  obtain ⟨rfl, rfl⟩ := q1
  cases r1
  refine PySem.W.callWith_K (h₀ := X.base) I.ok.mod.kin hk (thn (ha.run pos pins s1 σ _ _ I1 ht) fun us s2 ⟨vs, H2, I2, r, q⟩ => ⟨I2.kIn, ?_⟩) he hpl
  exact run_fnS F hr hb (hx σ) I2 r q
theorem ce_callV (T : TabOk X.prog X.w X.K X.mg X.base j tab) (tk : Takes X W) (hr : Room j X.A) (hN : X.N[i]? = some x) (hv : Vis X.env.scope x) (hs : CAs X W (e :: es) ms)
    (hdb : (x == ("__debug__" : Str)) = false := by decide) (hcd : (x == ("__classdict__" : Str)) = false := by decide)
    (he : starEach (e :: es) X.env = (false, eval e X.env) :: starEach es X.env := by rfl) (hpl : (backTo pos (starEach es X.env)).any (·.1) = false := by rfl) : CE X W (.Call (.Name x p) (e :: es) [] pos) (eCallV tab i ms) := by
  refine ⟨fun pins s σ H Q I h => ?_⟩
  obtain ⟨α, hp, env, r, sr, q⟩ := h
  unfold eCallV at q
  split at q
  · rename_i y ev
    split at q
    · rename_i f ef
      obtain ⟨k, ps, f0, hk, c, rfl⟩ := T y f ef
      obtain ⟨fa, fd, F, hm, kp, hb⟩ := c.ex
      obtain ⟨v, e1, e2⟩ := paired_get sr ev
      cases e2 with
      | some rv =>
        cases rv with
        | fn em =>
          rename_i fb
          have : fa = fb := by
            rw [hm] at em
            injection (Option.some.inj em)
          subst this
          exact (pe_callLS (E := WE W) F (hr.mono hk) hN hv kp hb (fun σ => passAt tk σ) hs hdb hcd he hpl).run pins s σ H Q I ⟨e1, α, hp, env, r, sr, post_bind q fun as h1 α1 H1 vs r1 s1 ra q1 => ⟨α1, h1, as, r1, ra, post_w q1 fun _ _ _ z => z⟩⟩
    · exact q.elim
  · exact q.elim
abbrev KTab := List (Str × A)
structure KdOk (K : PySem.W.Frag) (w : World) (mg : Str → Option Value) (x : Str) (kd : KTab) : Prop where
  ex : ∃ d es n, mg x = some (.ref d) ∧ KDict K w d es n ∧ ∀ z : Str, (kd.lookup z = none → PySem.W.nsIn K d z = some none) ∧ ∀ a, kd.lookup z = some a → ∃ u v, PySem.W.nsIn K d z = some (some u) ∧ RelV v u ∧ ∀ α L H, RA K mg α L H v a
def eKin (neg : Bool) (kd : KTab) (ma : M A) : M A := fun env h => (ma env h).bind fun a h => match a with
  | .str z => .ok (.bl (neg ^^ (kd.lookup z).isSome)) h
  | _ => .bad
def eKix (kd : KTab) (ma : M A) : M A := fun env h => (ma env h).bind fun a h => match a with
  | .str z => match kd.lookup z with
    | some v => .ok v h
    | none => .bad
  | _ => .bad
variable {kd : KTab}
theorem kin_read {K : PySem.W.Frag} {w : World} {mg : Str → Option Value} {d : Addr} {es : Array DictEntry} {n : Nat} (D : ∀ z : Str, (kd.lookup z = none → PySem.W.nsIn K d z = some none) ∧ ∀ a, kd.lookup z = some a → ∃ u v, PySem.W.nsIn K d z = some (some u) ∧ RelV v u ∧ ∀ α L H, RA K mg α L H v a) (z : Str) :
    ∃ r, PySem.W.nsIn K d z = some r ∧ r.isSome = (kd.lookup z).isSome := by
  cases e : kd.lookup z with
  | none => exact ⟨none, (D z).1 e, rfl⟩
  | some a =>
    obtain ⟨u, v, h1, _⟩ := (D z).2 a e
    exact ⟨some u, h1, rfl⟩
theorem ce_kin (D : KdOk X.K X.w X.mg x kd) (hg : Gl X x) (ha : CE X W a ma) (hd : (x == ("__debug__" : Str)) = false := by decide) : CE X W (.Compare a [.In] [.Name x p] pos) (eKin false kd ma) := by
  obtain ⟨d, es, n, hm, kk, dd⟩ := D.ex
  exact ce_of (pe_cmpR (op_in_kd kk) ha (pe_glob (v := .ref d) hg hm rfl hd) rfl) fun σ α h H env Q r s q => ⟨α, h, env, r, s, post_bind q fun a h1 α1 H1 v r1 s1 ra q1 => by
    split at q1
    · rename_i z
      cases ra
      obtain ⟨r', e1, e2⟩ := kin_read (w := X.w) (es := es) (n := n) dd z
      exact ⟨z, r', rfl, rfl, e1, by rw [e2]; rw [Bool.false_xor] at q1; exact post_ok q1 r1 (.bl _)⟩
    · exact q1.elim⟩
theorem ce_kinN (D : KdOk X.K X.w X.mg x kd) (hg : Gl X x) (ha : CE X W a ma) (hd : (x == ("__debug__" : Str)) = false := by decide) : CE X W (.Compare a [.NotIn] [.Name x p] pos) (eKin true kd ma) := by
  obtain ⟨d, es, n, hm, kk, dd⟩ := D.ex
  exact ce_of (pe_cmpR (op_notIn_kd kk) ha (pe_glob (v := .ref d) hg hm rfl hd) rfl) fun σ α h H env Q r s q => ⟨α, h, env, r, s, post_bind q fun a h1 α1 H1 v r1 s1 ra q1 => by
    split at q1
    · rename_i z
      cases ra
      obtain ⟨r', e1, e2⟩ := kin_read (w := X.w) (es := es) (n := n) dd z
      exact ⟨z, r', rfl, rfl, e1, by rw [e2]; rw [Bool.true_xor] at q1; exact post_ok q1 r1 (.bl _)⟩
    · exact q1.elim⟩
theorem ct_kin (D : KdOk X.K X.w X.mg x kd) (hg : Gl X x) (ha : CE X W a ma) (hd : (x == ("__debug__" : Str)) = false := by decide) : CT X W (.Compare a [.In] [.Name x p] pos) (mBool (eKin false kd ma)) := by
  obtain ⟨d, es, n, hm, kk, dd⟩ := D.ex
  refine ct_of (pt_cmpR (op_in_kd kk) ha (pe_glob (v := .ref d) hg hm rfl hd) rfl) fun σ α h H env Q r s q => ?_
  refine ⟨α, h, env, r, s, post_bind (post_bool q) fun a h1 α1 H1 v r1 s1 ra q1 => ?_⟩
  split at q1
  · rename_i z
    cases ra
    obtain ⟨r', e1, e2⟩ := kin_read (w := X.w) (es := es) (n := n) dd z
    exact ⟨z, r', rfl, rfl, e1, by rw [e2]; rw [Bool.false_xor] at q1; exact post_ok q1 r1 (.bl _)⟩
  · exact q1.elim
theorem ct_kinN (D : KdOk X.K X.w X.mg x kd) (hg : Gl X x) (ha : CE X W a ma) (hd : (x == ("__debug__" : Str)) = false := by decide) : CT X W (.Compare a [.NotIn] [.Name x p] pos) (mBool (eKin true kd ma)) := by
  obtain ⟨d, es, n, hm, kk, dd⟩ := D.ex
  refine ct_of (pt_cmpR (op_notIn_kd kk) ha (pe_glob (v := .ref d) hg hm rfl hd) rfl) fun σ α h H env Q r s q => ?_
  refine ⟨α, h, env, r, s, post_bind (post_bool q) fun a h1 α1 H1 v r1 s1 ra q1 => ?_⟩
  split at q1
  · rename_i z
    cases ra
    obtain ⟨r', e1, e2⟩ := kin_read (w := X.w) (es := es) (n := n) dd z
    exact ⟨z, r', rfl, rfl, e1, by rw [e2]; rw [Bool.true_xor] at q1; exact post_ok q1 r1 (.bl _)⟩
  · exact q1.elim
theorem ix_kd {d : Addr} {es : Array DictEntry} {n : Nat} (D : KDict X.K X.w d es n) : IxR X (fun x y H Q => ∃ (z : Str) (u0 : Value) (v0 : V), x = .ref d ∧ y = .str z ∧ PySem.W.nsIn X.K d z = some (some u0) ∧ RelV v0 u0 ∧ Q v0 H) := by
  intro value slice pins s σ H x y v u Q I rx ry h hs
  obtain ⟨z, u0, v0, rfl, rfl, e, r, q⟩ := h
  exact ix_kdict value slice pins s σ H _ _ v u Q I rx ry ⟨d, z, v0, rfl, rfl, ⟨es, n, u0, D.at_, D.lit, e, r⟩, q⟩ hs
theorem ce_kix (D : KdOk X.K X.w X.mg x kd) (hg : Gl X x) (ha : CE X W a ma) (hp : PlainIx a) (hd : (x == ("__debug__" : Str)) = false := by decide) : CE X W (.Subscript (.Name x p) a pos) (eKix kd ma) := by
  obtain ⟨d, es, n, hm, kk, dd⟩ := D.ex
  exact ce_of (pe_ix (ix_kd kk) (pe_glob (v := .ref d) hg hm rfl hd) ha hp) fun σ α h H env Q r s q => ⟨α, h, env, r, s, post_bind q fun a h1 α1 H1 v r1 s1 ra q1 => by
    split at q1
    · rename_i z
      split at q1
      · rename_i b eb
        cases ra
        obtain ⟨u, v0, e1, e2, e3⟩ := (dd z).2 b eb
        exact ⟨z, u, v0, rfl, rfl, e1, e2, post_ok q1 r1 (e3 _ _ _)⟩
      · exact q1.elim
    · exact q1.elim⟩
end
end Cl
namespace Cl
open PySem PySem.Spec PyProof.Rows L2
def eGet1 (mo ma : M A) : M A := fun env h => (mo env h).bind fun d h => if (dctOf h d).isSome then (ma env h).bind fun k h => match dctOf h d with
  | some kvs => if isKey k then .ok ((kvGet kvs k).getD .non) h else .bad
  | none => .bad else .bad
def eGet2 (mo ma mb : M A) : M A := fun env h => (mo env h).bind fun d h => if (dctOf h d).isSome then (ma env h).bind fun k h => (mb env h).bind fun z h => match dctOf h d with
  | some kvs => if isKey k then .ok ((kvGet kvs k).getD z) h else .bad
  | none => .bad else .bad
section
variable {X : Cx} {W : WX} {o e f : Expr} {mo ma mb : M A} {apos cpos : Pos}
theorem ro_getD {K : PySem.W.Frag} {mg : Str → Option Value} {α : Al} {L : Addr → Prop} {H : Hp} {a : Option V} {b : Option A} {v : V} {z : A} (r : RO K mg α L H a b) (rz : RA K mg α L H v z) : RA K mg α L H (a.getD v) (b.getD z) := by
  cases r with
  | none => exact rz
  | some r => exact r
theorem Rel.isD {K : PySem.W.Frag} {mg : Str → Option Value} {α : Al} {h : AH} {H : Hp} (r : Rel K mg α h H) {x : V} {a : A} (ra : RA K mg α (Lv α h) H x a) (e : (dctOf h a).isSome = true) : ∃ p, x = .ref p ∧ IsD H p := by
  cases e1 : dctOf h a with
  | none => rw [e1] at e; cases e
  | some kvs =>
    obtain ⟨p, vs, rfl, x1, x2⟩ := r.dict ra e1
    exact ⟨p, rfl, .inl ⟨vs, x1⟩⟩
theorem ce_get1 (hu : X.A.units + 1 < cLine) (ho : CE X W o mo) (he : CE X W e ma) (m : M1 X o "get" apos e cpos) : CE X W (.Call (.Attribute o "get" apos) [e] [] cpos) (eGet1 mo ma) :=
  ce_of (pe_dget1 hu ho he m) fun σ α h H env Q r s q => ⟨α, h, env, r, s, post_bind q fun d h1 α1 H1 x r1 s1 rd q1 => by
    split at q1
    · rename_i hc
      obtain ⟨p, rfl, isd⟩ := r1.isD rd hc
      refine ⟨p, rfl, isd, α1, h1, env, r1, s.step s1.kp, post_bind q1 fun k h2 α2 H2 y r2 s2 rk q2 => ?_⟩
      split at q2
      · rename_i kvs e
        split at q2
        · rename_i ik
          obtain ⟨p', vs, ep, x1, x2⟩ := r2.dict (rd.step s2.kp) e
          cases ep
          obtain ⟨kk, rfl, rfl⟩ := kV_of rk ik
          exact ⟨valV vs kk, .inl ⟨vs, kk, x1, rfl, rfl⟩, post_ok q2 r2 (ro_getD x2.get .non)⟩
        · exact q2.elim
      · exact q2.elim
    · exact q1.elim⟩
theorem ce_get2 (hu : X.A.units + 1 < cLine) (ho : CE X W o mo) (he : CE X W e ma) (hf : CE X W f mb) (m : M2 X o "get" apos e f cpos) : CE X W (.Call (.Attribute o "get" apos) [e, f] [] cpos) (eGet2 mo ma mb) :=
  ce_of (pe_dget2 hu ho he hf m) fun σ α h H env Q r s q => ⟨α, h, env, r, s, post_bind q fun d h1 α1 H1 x r1 s1 rd q1 => by
    split at q1
    · rename_i hc
      obtain ⟨p, rfl, isd⟩ := r1.isD rd hc
      refine ⟨p, rfl, isd, α1, h1, env, r1, s.step s1.kp, post_bind q1 fun k h2 α2 H2 y r2 s2 rk q2 => ⟨α2, h2, env, r2, (s.step s1.kp).step s2.kp, post_bind q2 fun z h3 α3 H3 u r3 s3 rz q3 => ?_⟩⟩
      split at q3
      · rename_i kvs e
        split at q3
        · rename_i ik
          obtain ⟨p', vs, ep, x1, x2⟩ := r3.dict ((rd.step s2.kp).step s3.kp) e
          cases ep
          obtain ⟨kk, rfl, rfl⟩ := kV_of rk ik
          exact ⟨valV vs kk, .inl ⟨vs, kk, x1, rfl, rfl⟩, post_ok q3 r3 (ro_getD x2.get rz)⟩
        · exact q3.elim
      · exact q3.elim
    · exact q1.elim⟩
end
def sPar (i j : Nat) (ms : M (List A)) : MS := fun env h => (ms env h).st env fun as h => match as with
  | [a, b] => .nx ((env.set i (some a)).set j (some b)) h
  | _ => .bad
section
variable {X : Cx} {W : WX} {a b c : Expr} {ms : M (List A)}
theorem cs_par {i j : Nat} {x y : Str} {px py pt pos : Pos} {kt k2 pt2} (hc : X.calm = true) (hN : X.N.Nodup) (hi : X.N[i]? = some x) (hj : X.N[j]? = some y) (hij : i ≠ j)
    (hx : X.env.scope.names.lookup x = some .local) (hy : X.env.scope.names.lookup y = some .local) (ha : CAs X W [a, b] ms)
    (hw : swappedStores [.Tuple [.Name x px, .Name y py] kt pt] (.Tuple [a, b] k2 pt2) X.env = pure (some [x, y])) : CS X W (.Assign [.Tuple [.Name x px, .Name y py] kt pt] (.Tuple [a, b] k2 pt2) pos) (sPar i j ms) :=
  cs_of (ps_par hc hN hi hj hij hx hy ha hw) fun D σ α h H env r s q => ⟨α, h, env, r, s, st_bind s q fun as h1 α1 H1 vs r1 s1 ra q1 => by
    split at q1
    · obtain ⟨v, w, rfl, r1', r2'⟩ := ra.two
      exact ⟨v, w, rfl, posts_nx q1 r1 (((s.step s1.kp).set i r1').set j r2')⟩
    · exact q1.elim⟩
end
end Cl
namespace Cl
open PySem PySem.Spec PyProof.Rows L2
def dcL (t : Tg) (mt : M Bool) (mk me : M A) (env0 : Env) : List A → List (A × A) → AH → R (List (A × A))
  | [], acc, h => .ok acc h
  | x :: r, acc, h => match t.put x env0 with
    | none => .bad
    | some env => (mt env h).noer.bind fun b h => if b then (mk env h).noer.bind fun k h => (me env h).noer.bind fun y h => if isKey k ∧ acc.length < lim then dcL t mt mk me env0 r (kvPut acc k y) h else .bad else dcL t mt mk me env0 r acc h
def eDc (lv : Bool) (t : Tg) (vs : List Nat) (mi : M (List A)) (mt : M Bool) (mk me : M A) : M A := fun env h => (mi env h).bind fun xs h => (dcL t mt mk me (wipeE env vs) xs [] h).bind fun ys h => mkD lv ys h
section
variable {X : Cx} {W : WX} {tg iter elt kx : Expr} {ifs : List Expr} {mi : M (List A)} {mt : M Bool} {me mk : M A} {t : Tg} {pos : Pos}
theorem dc_read {K : PySem.W.Frag} {mg : Str → Option Value} (lv : Bool) {vs : List Nat} {σ : L2.St} {α : Al} {h : AH} {H : Hp} {env : Env} {Q : VK} {J : It} {xs : List A} (sub : ∀ i ∈ t.slots, i ∈ vs) (r : Rel K mg α h H) (s : SR K mg α (Lv α h) H σ env) (wl : Wlk K mg J xs α h H)
    (q : Post rtA K mg W σ α h H ((dcL t mt mk me (wipeE env vs) xs [] h).bind fun ys h => mkD lv ys h) Q) : ∀ D, H D = none → ∃ W1 : Nat → Nat → Hp → Prop, (∃ m, W1 0 m (upd H D (.dK []))) ∧ ∀ i m H, W1 i m H →
  (J.stop i H ∧ Q (.ref D) H) ∨ (J.go i H ∧ ∃ Nx : Hp → Prop, (∀ H', Nx H' → ∃ m', m' < m ∧ W1 (i + 1) m' H') ∧ ∀ x H', J.yld i H x H' → (t.g K) x (wipe σ vs) H' fun σ2 H2 => wipe σ2 vs = wipe σ vs ∧ tOf rtB K mg W0 mt σ2 H2 fun b H3 =>
    if b = true then tOf rtA K mg W0 mk σ2 H3 fun y H4 => tOf rtA K mg W0 me σ2 H4 fun z H5 => ∃ kvs k, y = kV k ∧ H5 D = some (.dK kvs) ∧ kvs.length < sizeLine ∧ Nx (upd H5 D (.dK (putK kvs k z))) else Nx H3) := by
  intro D nD
  have dz : D ∉ α.z := fun z => by
    obtain ⟨_, u, e⟩ := r.zs D z
    rw [nD] at e; cases e
  let Ok : Nat → Hp → Prop := fun i H' => ∃ (α' : Al) (h' : AH) (ws : List (Key × V)) (acc : List (A × A)), (α'.z = α.z ∧ D ∉ α'.l) ∧ Rel K mg (α'.res D) h' H' ∧ Stp α h H α' h' H' ∧ Kp α (Lv α h) H (α'.res D) (Lv (α'.res D) h') H' ∧ H' D = some (.dK ws) ∧ RKs K mg (α'.res D) (Lv (α'.res D) h') H' ws acc ∧ i ≤ xs.length ∧
    Post rtA K mg W σ α h H ((dcL t mt mk me (wipeE env vs) (xs.drop i) acc h').bind fun ys h => mkD lv ys h) Q
  refine ⟨fun i m H' => m = xs.length - i ∧ Ok i H', ⟨_, rfl, α, h, [], [], ⟨rfl, r.nmem nD⟩, r.res nD _, ⟨fun _ _ e => e, rfl, fun p o e _ => by rw [upd_ne (ne_of_none e nD)]; exact e, fun _ z => .inl z, fun _ z => .inl z⟩, kp_res nD, upd_same, .nil, Nat.zero_le _, by simpa using q⟩, ?_⟩
  rintro i m H2 ⟨rfl, α2, h2, ws, acc, ⟨ez, dl2⟩, r2, st2, kp2, hD, ra, hi, q2⟩
  obtain ⟨w1, w2⟩ := wl (α2.res D) h2 H2 r2 kp2 (fun p o u e n => st2.keep p _ e n) i
  have dz2 : D ∉ α2.z := by rw [ez]; exact dz
  cases hx : xs[i]? with
  | none =>
    have hn := List.getElem?_eq_none_iff.mp hx
    refine .inl ⟨w2 hn, ?_⟩
    rw [List.drop_eq_nil_of_le hn] at q2
    have q3 : Post rtA K mg W σ α h H (mkD lv acc h2) Q := by simpa [dcL, R.bind] using q2
    unfold mkD at q3
    cases lv
    · rw [if_neg Bool.false_ne_true] at q3
      exact q3 α2 H2 _ r2.unres st2 (.dct (.inl hD) (r2.unresNlv dz2) (ra.step kp_unres))
    · rw [if_pos rfl] at q3
      have len2 : α2.l.length = h2.length := r2.len
      refine q3 (α2.push D) H2 _ (r2.unresPush (ao := .dct acc) (fun k => .dct hD (ra.step k)) dz2 dl2) ?_ (.ref (by rw [← len2]; exact get_len))
      refine ⟨fun n p e => get_push_lt (st2.pre n p e), ez, fun p o e nl => st2.keep p o e nl, fun p z => ?_, fun p z => ?_⟩
      · rcases (live_push len2).mp z with y | y
        · exact st2.liv p y
        · exact .inr (y ▸ nD)
      · rcases List.mem_append.mp z with y | y
        · exact st2.new p y
        · have : p = D := by simpa using y
          exact .inr (this ▸ nD)
  | some a =>
    obtain ⟨hlt, _⟩ := List.getElem?_eq_some_iff.mp hx
    obtain ⟨g1, g2⟩ := w1 a hx
    refine .inr ⟨g1, Ok (i + 1), fun H' z => ⟨_, by omega, rfl, z⟩, fun x H3 hy => ?_⟩
    obtain ⟨r3, st3, rx⟩ := g2 x H3 hy
    rw [drop_get hx] at q2
    unfold dcL at q2
    cases et : t.put a (wipeE env vs) with
    | none => rw [et] at q2; exact q2.elim
    | some env3 =>
      rw [et] at q2
      have s3 : SR K mg (α2.res D) (Lv (α2.res D) h2) H3 (wipe σ vs) (wipeE env vs) := sr_wipe ((s.step kp2).step st3.kp) vs
      refine Tg.ok t rx s3 et fun σ3 sr3 ag => ⟨?_, ?_⟩
      · rw [← wipe_wipe (σ := σ) vs]
        exact (wipe_same ag.1 fun j hj => ag.2 j fun z => hj (sub j z)).symm
      · dsimp only at q2
        rw [bind_bind] at q2
        obtain ⟨b, h4, e4, q4⟩ := bind_ok q2
        refine ⟨α2.res D, h2, env3, r3, sr3, ?_⟩
        rw [e4]
        intro α4 H4 b' r4 st4 eb
        cases (show b' = b from eb)
        have z4 : α4.z = D :: α2.z := st4.zeq
        obtain ⟨l4, zz4⟩ := α4
        cases (show zz4 = D :: α2.z from z4)
        have k4 : Kp α (Lv α h) H (Al.res ⟨l4, α2.z⟩ D) (Lv (Al.res ⟨l4, α2.z⟩ D) h4) H4 := (kp2.trans st3.kp).trans st4.kp
        have stp4 : Stp α h H ⟨l4, α2.z⟩ h4 H4 := by
          have c := st3.trans st4
          refine ⟨fun n p e => c.pre n p (st2.pre n p e), ez, fun p o e nl => ?_, fun p z => ?_, fun p z => ?_⟩
          · exact c.keep p o (st2.keep p o e nl) (st2.nliv e nl)
          · rcases c.liv p z with y | y
            · exact st2.liv p y
            · cases eh : H p with
              | none => exact .inr rfl
              | some o =>
                by_cases nl : Live α h p
                · exact .inl nl
                · rw [st2.keep p o eh nl] at y; cases y
          · rcases c.new p z with y | y
            · exact st2.new p y
            · exact lostN st2 y
        have nl2 : ¬ Live (α2.res D) h2 D := (r2.zs D List.mem_cons_self).1
        have dl4 : D ∉ l4 := fun z => by
          rcases (st3.trans st4).new D z with y | y
          · exact dl2 y
          · rw [hD] at y; cases y
        have hD3 : H3 D = some (.dK ws) := st3.keep D _ hD nl2
        have hD4 : H4 D = some (.dK ws) := st4.keep D _ hD3 (r3.zs D List.mem_cons_self).1
        have ra4 : RKs K mg (Al.res ⟨l4, α2.z⟩ D) (Lv (Al.res ⟨l4, α2.z⟩ D) h4) H4 ws acc := (ra.step st3.kp).step st4.kp
        cases b
        · rw [if_neg Bool.false_ne_true] at q4 ⊢
          exact ⟨⟨l4, α2.z⟩, h4, ws, acc, ⟨ez, dl4⟩, r4, stp4, k4, hD4, ra4, hlt, q4⟩
        · rw [if_pos rfl] at q4 ⊢
          rw [bind_bind] at q4
          obtain ⟨y, h5, e5, q5⟩ := bind_ok q4
          refine ⟨_, h4, env3, r4, sr3.step st4.kp, ?_⟩
          rw [e5]
          intro α5 H5 y' r5 st5 ry
          have z5 : α5.z = D :: α2.z := st5.zeq
          obtain ⟨l5, zz5⟩ := α5
          cases (show zz5 = D :: α2.z from z5)
          rw [bind_bind] at q5
          obtain ⟨z, h6, e6, q6⟩ := bind_ok q5
          refine ⟨_, h5, env3, r5, (sr3.step st4.kp).step st5.kp, ?_⟩
          rw [e6]
          intro α6 H6 z' r6 st6 rz
          have z6 : α6.z = D :: α2.z := st6.zeq
          obtain ⟨l6, zz6⟩ := α6
          cases (show zz6 = D :: α2.z from z6)
          split at q6
          · rename_i ik
            obtain ⟨kk, rfl, rfl⟩ := kV_of (ry.step st6.kp) ik.1
            have st56 := st5.trans st6
            have hD6 : H6 D = some (.dK ws) := st56.keep D _ hD4 (r4.zs D List.mem_cons_self).1
            refine ⟨ws, kk, rfl, hD6, by rw [ra4.length]; exact Nat.lt_trans ik.2 lim_line, ?_⟩
            have dl6 : D ∉ l6 := fun z => by
              rcases st56.new D z with y | y
              · exact dl4 y
              · rw [hD4] at y; cases y
            have r6' : Rel K mg (Al.res ⟨l6, α2.z⟩ D) h6 H6 := r6
            have k6 : Kp (Al.res ⟨l6, α2.z⟩ D) (Lv (Al.res ⟨l6, α2.z⟩ D) h6) H6 (Al.res ⟨l6, α2.z⟩ D) (Lv (Al.res ⟨l6, α2.z⟩ D) h6) (upd H6 D (.dK (putK ws kk z'))) := kp_resPut
            refine ⟨⟨l6, α2.z⟩, h6, putK ws kk z', kvPut acc (keyA kk) z, ⟨ez, dl6⟩, r6'.resPut _, ?_, (k4.trans st56.kp).trans k6, upd_same, ((ra4.step st56.kp).put rz).step k6, hlt, q6⟩
            refine ⟨fun n p e => st56.pre n p (stp4.pre n p e), ez, fun p o e nl => ?_, fun p z => ?_, fun p z => ?_⟩
            · have e4' := stp4.keep p o e nl
              have e5' := st56.keep p o e4' (stp4.nliv e nl)
              rw [upd_ne (ne_of_none e nD)]
              exact e5'
            · rcases st56.liv p z with y | y
              · exact stp4.liv p y
              · cases eh : H p with
                | none => exact .inr rfl
                | some o =>
                  by_cases nl : Live α h p
                  · exact .inl nl
                  · rw [stp4.keep p o eh nl] at y; cases y
            · rcases st56.new p z with y | y
              · exact stp4.new p y
              · exact lostN stp4 y
          · exact q6.elim
theorem ce_dc (lv : Bool) {scope : Scope} {own : List (Str × Nat)} (hc : X.calm = true) (hN : X.N.Nodup) (hi : CI X W tg iter mi) (ok : BlkOk X.N X.env.scope scope own) (sub : ∀ i ∈ t.slots, i ∈ own.map (·.2))
    (hg : ∀ (s : Shared) (H : Hp) (C : Addr) (cl : List (Str × Addr)) (fp : List Addr), PG (X.blk s H scope (compEnvC scope cl C X.env) fp) tg (t.g X.K)) (ht : ∀ (s : Shared) (H : Hp) (C : Addr) (cl : List (Str × Addr)) (fp : List Addr), CTs (X.blk s H scope (compEnvC scope cl C X.env) fp) W0 ifs mt)
    (hk : ∀ (s : Shared) (H : Hp) (C : Addr) (cl : List (Str × Addr)) (fp : List Addr), CE (X.blk s H scope (compEnvC scope cl C X.env) fp) W0 kx mk)
    (he : ∀ (s : Shared) (H : Hp) (C : Addr) (cl : List (Str × Addr)) (fp : List Addr), CE (X.blk s H scope (compEnvC scope cl C X.env) fp) W0 elt me) (hs : ∀ x, foldedSetIterable iter X.env x = pure x := by intro _; rfl) :
    CE X W (.DictComp kx elt [⟨tg, iter, ifs, 0⟩] scope pos) (eDc lv t (own.map (·.2)) mi mt mk me) :=
  ce_of (pe_dc (tt := tOf rtB X.K X.mg W0 mt) (tk := tOf rtA X.K X.mg W0 mk) (tv := tOf rtA X.K X.mg W0 me) hc hN hi ok hg ht hk he hs) fun σ α h H env Q r s q => ⟨α, h, env, r, s, by
    unfold eDc at q
    cases e : mi env h with
    | ok xs h1 =>
      rw [e] at q
      intro α1 H1 J r1 s1 wl
      exact dc_read lv sub r1 (s.step s1.kp) wl (Post.rebase s1 q)
    | er c d h1 => rw [e] at q; exact q
    | bad => rw [e] at q; exact q⟩
end
end Cl
namespace Cl
open PySem PySem.Spec PyProof.Rows L2
section
variable {K : PySem.W.Frag} {mg : Str → Option Value} {α α' : Al} {h h' : AH} {H H' : Hp} {d : Addr} {od : Obj} {vs : List (Key × V)} {kvs : List (A × A)} {n : Nat}
theorem rd_eq {u w : HO} (e : H d = some u) (nf : ∀ o x, u ≠ .frz o x) (r : Rd H d w) : w = u := by
  rcases r with r | ⟨o, r⟩
  · rw [e] at r; exact (Option.some.inj r).symm
  · rw [e] at r; exact absurd (Option.some.inj r) (nf _ _)
theorem rd_eqF {u w : HO} (e : H d = some (.frz od u)) (nf : ∀ o x, w ≠ .frz o x) (r : Rd H d w) : w = u := by
  rcases r with r | ⟨o, r⟩
  · rw [e] at r; exact absurd (Option.some.inj r).symm (nf _ _)
  · rw [e] at r
    have := Option.some.inj r
    injection this with _ z
    exact z.symm
def DkAt (H : Hp) (d : Addr) (vs : List (Key × V)) : Prop := H d = some (.dK vs) ∨ ∃ o, H d = some (.frz o (.dK vs))
theorem dkAt_rd {w : HO} (e : DkAt H d vs) (nf : ∀ o x, w ≠ .frz o x) (r : Rd H d w) : w = .dK vs := by
  rcases e with e | ⟨o, e⟩
  · exact rd_eq e (fun _ _ z => by cases z) r
  · exact rd_eqF e nf r
theorem kp_dk {L L' : Addr → Prop} (hl : α'.l = α.l) (off : ∀ p, p ≠ d → H' p = H p) (e : DkAt H d vs) (e' : DkAt H' d vs) (lv : ∀ p, L' p → L p) : Kp α L H α' L' H' where
  pre := fun n p q => by rw [hl]; exact q
  tup := fun p ws r n => by
    by_cases z : p = d
    · subst z; exact absurd (dkAt_rd e (fun _ _ z => by cases z) r) (fun z => by cases z)
    · unfold Rd at r ⊢; rw [off p z]; exact r
  lst := fun p ws r n => by
    by_cases z : p = d
    · subst z; exact absurd (dkAt_rd e (fun _ _ z => by cases z) (.inl r)) (fun z => by cases z)
    · rw [off p z]; exact r
  scr := fun p ws r n => by
    by_cases z : p = d
    · subst z; exact absurd (dkAt_rd e (fun _ _ z => by cases z) r) (fun z => by cases z)
    · unfold Rd at r ⊢; rw [off p z]; exact r
  dct := fun p ws r n => by
    by_cases z : p = d
    · subst z
      have := dkAt_rd e (fun _ _ z => by cases z) r
      rw [this]
      rcases e' with e' | ⟨o, e'⟩
      · exact .inl e'
      · exact .inr ⟨o, e'⟩
    · unfold Rd at r ⊢; rw [off p z]; exact r
  ins := fun p c dx ws r n => by
    by_cases z : p = d
    · subst z; exact absurd (dkAt_rd e (fun _ _ z => by cases z) (.inl r)) (fun z => by cases z)
    · rw [off p z]; exact r
  liv := fun p u r n z => n (lv p z)
  all := fun p u r n => by
    by_cases z : p = d
    · subst z
      rcases e' with e' | ⟨o, e'⟩
      · exact ⟨_, e'⟩
      · exact ⟨_, e'⟩
    · exact ⟨u, by rw [off p z]; exact r⟩
theorem lockD : DkAt (upd H d (.frz od (.dK vs))) d vs := .inr ⟨od, upd_same⟩
theorem unlockD : DkAt (upd H d (.dK vs)) d vs := .inl upd_same
theorem Rel.relock (r : Rel K mg α h H) (k : Kp α (Lv α h) H α (Lv α h) H') (off : ∀ p, p ≠ d → H' p = H p) (nl : ¬ Live α h d) (he : ∃ u, H' d = some u) : Rel K mg α h H' := by
  have any : ∀ p, (∃ u, H p = some u) → ∃ u, H' p = some u := fun p ⟨u, z⟩ => by
    by_cases hd : p = d
    · rw [hd]; exact he
    · exact ⟨u, by rw [off p hd]; exact z⟩
  refine ⟨r.len, r.nd, fun p hp => any p (r.has p hp), fun p hp => ?_, fun m ao e => ?_⟩
  · obtain ⟨y, z⟩ := r.zs p hp
    exact ⟨y, any p z⟩
  · obtain ⟨q, eq, oa⟩ := r.at_ m ao e
    have : q ≠ d := fun y => nl (y ▸ live_of eq e)
    exact ⟨q, eq, oa.step k fun u z => by rw [off q this]; exact z⟩
structure Unl (K : PySem.W.Frag) (mg : Str → Option Value) (α : Al) (h : AH) (H : Hp) (d : Addr) (od : Obj) (vs : List (Key × V)) (α' : Al) (h' : AH) (H' : Hp) (α2 : Al) (h2 : AH) : Prop where
  fr : H' d = some (.frz od (.dK vs))
  rel : Rel K mg α2 h2 (upd H' d (.dK vs))
  stp : Stp α h H α2 h2 (upd H' d (.dK vs))
  kp : Kp α' (Lv α' h') H' α2 (Lv α2 h2) (upd H' d (.dK vs))
theorem lockF (e : H d = some (.dK vs)) (nl : ¬ Lv α h d) (r : Rel K mg α h H) (od : Obj) : Rel K mg α h (upd H d (.frz od (.dK vs))) ∧ Kp α (Lv α h) H α (Lv α h) (upd H d (.frz od (.dK vs))) ∧
    ∀ α' h' H', Rel K mg α' h' H' → Stp α h (upd H d (.frz od (.dK vs))) α' h' H' → Unl K mg α h H d od vs α' h' H' α' h' := by
  have k1 : Kp α (Lv α h) H α (Lv α h) (upd H d (.frz od (.dK vs))) := kp_dk rfl (fun p hp => upd_ne hp) (.inl e) lockD fun _ l => l
  refine ⟨r.relock k1 (fun p hp => upd_ne hp) (Cl.nlv nl) ⟨_, upd_same⟩, k1, fun α' h' H' r' s' => ?_⟩
  have hd : H' d = some (.frz od (.dK vs)) := s'.keep d _ upd_same (Cl.nlv nl)
  have nl' : ¬ Live α' h' d := s'.nliv (o := .frz od (.dK vs)) upd_same (Cl.nlv nl)
  have k2 : Kp α' (Lv α' h') H' α' (Lv α' h') (upd H' d (.dK vs)) := kp_dk rfl (fun p hp => upd_ne hp) (.inr ⟨od, hd⟩) unlockD fun _ l => l
  have back : ∀ p, upd H d (.frz od (.dK vs)) p = none → H p = none := fun p z => by
    by_cases q : p = d
    · rw [q, upd_same] at z; cases z
    · rw [upd_ne q] at z; exact z
  refine ⟨hd, r'.relock k2 (fun p hp => upd_ne hp) nl' ⟨_, upd_same⟩, ⟨s'.pre, s'.zeq, fun p o ep np => ?_, fun p l => ?_, fun p l => ?_⟩, k2⟩
  · by_cases q : p = d
    · subst q
      rw [e] at ep
      cases ep
      exact upd_same
    · rw [upd_ne q]
      exact s'.keep p o (by rw [upd_ne q]; exact ep) np
  · exact (s'.liv p l).imp id (back p)
  · exact (s'.new p l).imp id (back p)
theorem lockL (ep : α.l[n]? = some d) (eh : h[n]? = some (some (.dct kvs))) (r : Rel K mg α h H) : ∃ vs, H d = some (.dK vs) ∧ RKs K mg α (Lv α h) H vs kvs ∧ ∀ od, Rel K mg (α.res d) (h.set n none) (upd H d (.frz od (.dK vs))) ∧
    Kp α (Lv α h) H (α.res d) (Lv (α.res d) (h.set n none)) (upd H d (.frz od (.dK vs))) ∧
    ∀ α' h' H', Rel K mg α' h' H' → Stp (α.res d) (h.set n none) (upd H d (.frz od (.dK vs))) α' h' H' → h'[n]? = some none → Unl K mg α h H d od vs α' h' H' ⟨α'.l, α.z⟩ (h'.set n (some (.dct kvs))) := by
  have oa := r.obj eh ep
  cases oa with
  | dct e rk =>
  rename_i vs
  refine ⟨vs, e, rk, fun od => ?_⟩
  have lvs : ∀ p, Live α (h.set n none) p → Live α h p := fun p ⟨m, o, a, b⟩ => by
    by_cases hm : n = m
    · subst hm
      obtain ⟨hl, _⟩ := List.getElem?_eq_some_iff.mp eh
      rw [List.getElem?_set_self hl] at b
      cases b
    · rw [List.getElem?_set_ne hm] at b
      exact ⟨m, o, a, b⟩
  have nld : ¬ Live α (h.set n none) d := fun ⟨m, o, a, b⟩ => by
    have := r.uniq ep a
    subst this
    obtain ⟨hl, _⟩ := List.getElem?_eq_some_iff.mp eh
    rw [List.getElem?_set_self hl] at b
    cases b
  have lv1 : ∀ p, Lv (α.res d) (h.set n none) p → Lv α h p := fun p l => by
    rcases l with l | l
    · rcases List.mem_cons.mp l with z | z
      · exact .inr (z ▸ live_of ep eh)
      · exact .inl z
    · exact .inr (lvs p l)
  have k1 : Kp α (Lv α h) H (α.res d) (Lv (α.res d) (h.set n none)) (upd H d (.frz od (.dK vs))) := kp_dk rfl (fun p hp => upd_ne hp) (.inl e) lockD lv1
  have any : ∀ p, (∃ u, H p = some u) → ∃ u, upd H d (.frz od (.dK vs)) p = some u := fun p ⟨u, z⟩ => by
    by_cases hd : p = d
    · exact ⟨_, by rw [hd]; exact upd_same⟩
    · exact ⟨u, by rw [upd_ne hd]; exact z⟩
  have r1 : Rel K mg (α.res d) (h.set n none) (upd H d (.frz od (.dK vs))) := by
    refine ⟨by simp [Al.res, r.len], r.nd, fun p hp => any p (r.has p hp), fun p hp => ?_, fun m ao em => ?_⟩
    · rcases List.mem_cons.mp hp with z | z
      · rw [z]; exact ⟨nld, _, upd_same⟩
      · obtain ⟨y, w⟩ := r.zs p z
        exact ⟨fun l => y (lvs p l), any p w⟩
    · have hm : n ≠ m := fun z => by
        subst z
        obtain ⟨hl, _⟩ := List.getElem?_eq_some_iff.mp eh
        rw [List.getElem?_set_self hl] at em
        cases em
      rw [List.getElem?_set_ne hm] at em
      obtain ⟨q, eq, oa⟩ := r.at_ m ao em
      have : q ≠ d := fun y => hm (r.uniq ep (y ▸ eq))
      exact ⟨q, eq, oa.step k1 fun u z => by rw [upd_ne this]; exact z⟩
  refine ⟨r1, k1, fun α' h' H' r' s' en => ?_⟩
  have hd : H' d = some (.frz od (.dK vs)) := s'.keep d _ upd_same nld
  have zz : α'.z = d :: α.z := s'.zeq
  obtain ⟨l', z'⟩ := α'
  cases (show z' = d :: α.z from zz)
  have epd : l'[n]? = some d := s'.pre n d ep
  obtain ⟨hl', _⟩ := List.getElem?_eq_some_iff.mp en
  have lv2 : ∀ p, Lv ⟨l', α.z⟩ (h'.set n (some (.dct kvs))) p → Lv ⟨l', d :: α.z⟩ h' p := fun p l => by
    rcases l with l | ⟨m, o, a, b⟩
    · exact .inl (List.mem_cons_of_mem _ l)
    · by_cases hm : n = m
      · subst hm
        have a' : l'[n]? = some p := a
        rw [epd] at a'
        cases a'
        exact .inl List.mem_cons_self
      · rw [List.getElem?_set_ne hm] at b
        exact .inr ⟨m, o, a, b⟩
  have k2 : Kp ⟨l', d :: α.z⟩ (Lv ⟨l', d :: α.z⟩ h') H' ⟨l', α.z⟩ (Lv ⟨l', α.z⟩ (h'.set n (some (.dct kvs)))) (upd H' d (.dK vs)) := kp_dk rfl (fun p hp => upd_ne hp) (.inr ⟨od, hd⟩) unlockD lv2
  have any2 : ∀ p, (∃ u, H' p = some u) → ∃ u, upd H' d (.dK vs) p = some u := fun p ⟨u, z⟩ => by
    by_cases q : p = d
    · exact ⟨_, by rw [q]; exact upd_same⟩
    · exact ⟨u, by rw [upd_ne q]; exact z⟩
  have nz : d ∉ α.z := fun z => (r.zs d z).1 (live_of ep eh)
  have live2 : ∀ p, Live ⟨l', α.z⟩ (h'.set n (some (.dct kvs))) p → p = d ∨ Live ⟨l', d :: α.z⟩ h' p := fun p ⟨m, o, a, b⟩ => by
    by_cases hm : n = m
    · subst hm
      have a' : l'[n]? = some p := a
      rw [epd] at a'
      cases a'
      exact .inl rfl
    · rw [List.getElem?_set_ne hm] at b
      exact .inr ⟨m, o, a, b⟩
  have back : ∀ p, upd H d (.frz od (.dK vs)) p = none → H p = none := fun p z => by
    by_cases q : p = d
    · rw [q, upd_same] at z; cases z
    · rw [upd_ne q] at z; exact z
  refine ⟨hd, ?_, ⟨s'.pre, rfl, fun p o e1 np => ?_, fun p l => ?_, fun p l => ?_⟩, k2⟩
  · refine ⟨by have := r'.len; simpa using this, r'.nd, fun p hp => any2 p (r'.has p hp), fun p hp => ?_, fun m ao em => ?_⟩
    · obtain ⟨y, w⟩ := r'.zs p (List.mem_cons_of_mem _ hp)
      refine ⟨fun l => ?_, any2 p w⟩
      rcases live2 p l with z | z
      · exact nz (z ▸ hp)
      · exact y z
    · by_cases hm : n = m
      · subst hm
        rw [List.getElem?_set_self hl'] at em
        cases em
        refine ⟨d, epd, .dct upd_same ((rk.step k1).step s'.kp |>.step k2)⟩
      · rw [List.getElem?_set_ne hm] at em
        obtain ⟨q, eq, oa⟩ := r'.at_ m ao em
        have : q ≠ d := fun y => hm (r'.uniq epd (y ▸ eq))
        exact ⟨q, eq, oa.step k2 fun u z => by rw [upd_ne this]; exact z⟩
  · have q : p ≠ d := fun z => np (z ▸ live_of ep eh)
    rw [upd_ne q]
    exact s'.keep p o (by rw [upd_ne q]; exact e1) fun l => np (lvs p l)
  · rcases live2 p l with z | z
    · exact .inl (z ▸ live_of ep eh)
    · rcases s'.liv p z with y | y
      · exact .inl (lvs p y)
      · exact .inr (back p y)
  · exact (s'.new p l).imp id (back p)
end
def dk : Nat → List (A × A) → List A
  | 0, kvs => kvs.map (·.1)
  | 1, kvs => kvs.map (·.2)
  | _, kvs => kvs.map fun kv => .tup [kv.1, kv.2]
def dkI (k : Nat) (d : Addr) (o : Obj) (vs : List (Key × V)) : It := match k with
  | 0 => Itk d o vs
  | 1 => Itd d o vs
  | _ => Iti d o vs
section
variable {K : PySem.W.Frag} {mg : Str → Option Value} {α : Al} {h : AH} {H : Hp} {d : Addr} {od : Obj} {vs : List (Key × V)} {kvs : List (A × A)}
theorem RKs.getI {L : Addr → Prop} : ∀ {vs : List (Key × V)} {xs : List (A × A)} {i : Nat} {kv : A × A}, RKs K mg α L H vs xs → xs[i]? = some kv → ∃ k v, vs[i]? = some (k, v) ∧ kv.1 = keyA k ∧ RA K mg α L H v kv.2
  | _, _, _, _, .nil, e => by simp at e
  | _, _, 0, _, .cons r _, e => by
    simp at e
    subst e
    exact ⟨_, _, rfl, rfl, r⟩
  | _, _, i + 1, kv, .cons _ t, e => by
    obtain ⟨k, v, h1, h2⟩ := RKs.getI (i := i) (kv := kv) t (by simpa using e)
    exact ⟨k, v, by simpa using h1, h2⟩
theorem ra_key (L : Addr → Prop) (k : Key) : RA K mg α L H (kV k) (keyA k) := by
  cases k
  · exact .int _
  · exact .str _
theorem wlk_d (k : Nat) (e : H d = some (.frz od (.dK vs))) (nl : ¬ Live α h d) (r : RKs K mg α (Lv α h) H vs kvs) : Wlk K mg (dkI k d od vs) (dk k kvs) α h H := by
  intro α' h' H' r' kp fz i
  have e' := fz d od _ e nl
  have rk := r.step kp
  have len : vs.length = kvs.length := r.length
  match k with
  | 0 =>
    refine ⟨fun b eb => ?_, fun hl => ⟨e', by simp [dk] at hl; omega⟩⟩
    simp only [dk, List.getElem?_map] at eb
    obtain ⟨kv, e1, rfl⟩ := Option.map_eq_some_iff.mp eb
    obtain ⟨kk, v, h1, h2, h3⟩ := rk.getI e1
    refine ⟨⟨e', (List.getElem?_eq_some_iff.mp h1).1⟩, fun x H2 y => ?_⟩
    obtain ⟨rfl, k2, v2, g1, rfl⟩ := y
    rw [h1] at g1
    cases g1
    rw [h2]
    exact ⟨r', .refl, ra_key _ kk⟩
  | 1 =>
    refine ⟨fun b eb => ?_, fun hl => ⟨e', by simp [dk] at hl; omega⟩⟩
    simp only [dk, List.getElem?_map] at eb
    obtain ⟨kv, e1, rfl⟩ := Option.map_eq_some_iff.mp eb
    obtain ⟨kk, v, h1, h2, h3⟩ := rk.getI e1
    refine ⟨⟨e', (List.getElem?_eq_some_iff.mp h1).1⟩, fun x H2 y => ?_⟩
    obtain ⟨rfl, k2, g1⟩ := y
    rw [h1] at g1
    cases g1
    exact ⟨r', .refl, h3⟩
  | _ + 2 =>
    refine ⟨fun b eb => ?_, fun hl => ⟨e', by simp [dk] at hl; omega⟩⟩
    simp only [dk, List.getElem?_map] at eb
    obtain ⟨kv, e1, rfl⟩ := Option.map_eq_some_iff.mp eb
    obtain ⟨kk, v, h1, h2, h3⟩ := rk.getI e1
    refine ⟨⟨e', (List.getElem?_eq_some_iff.mp h1).1⟩, fun x H2 y => ?_⟩
    obtain ⟨T, k2, v2, g1, rfl, nT, rfl⟩ := y
    rw [h1] at g1
    cases g1
    obtain ⟨a1, a2, a3⟩ := r'.alloc nT (.tup [kV kk, v])
    refine ⟨a1, a2, .tup (.inl ⟨.inl upd_same, a3⟩) (.cons ?_ (.cons (h3.step a2.kp) .nil))⟩
    rw [h2]
    exact ra_key _ kk
end
end Cl
namespace Cl
open PySem PySem.Spec PyProof.Rows L2
def tPath (K : PySem.W.Frag) (i : Nat) : List Str → TE
  | [] => tVar i
  | f :: r => tFld K (tPath K i r) f
abbrev Path := List (Str × List Str)
def pathA (i : Nat) : Path → Env → AH → Option A
  | [], env, _ => match env[i]? with
    | some (some a) => some a
    | _ => none
  | (f, cl) :: r, env, h => match pathA i r env h with
    | some a => match insOf h a with
      | some (C, fs) => if C ∈ cl then fs.lookup f else none
      | none => none
    | none => none
def PathOk (K : PySem.W.Frag) (mg : Str → Option Value) (fs : Path) : Prop := ∀ p ∈ fs, FldOk K mg p.1 p.2
theorem path_nil {K : PySem.W.Frag} {mg : Str → Option Value} : PathOk K mg [] := fun _ z => by cases z
theorem path_cons {K : PySem.W.Frag} {mg : Str → Option Value} {f : Str} {cl : List Str} {r : Path} (F : FldOk K mg f cl) (p : PathOk K mg r) : PathOk K mg ((f, cl) :: r) := fun q z => by
  rcases List.mem_cons.mp z with rfl | z
  · exact F
  · exact p q z
section
variable {K : PySem.W.Frag} {mg : Str → Option Value} {α : Al} {h : AH} {H : Hp} {σ : L2.St} {env : Env} {i : Nat}
theorem path_read (r : Rel K mg α h H) (s : SR K mg α (Lv α h) H σ env) : ∀ (fs : Path) (a : A), PathOk K mg fs → pathA i fs env h = some a → ∃ v, RA K mg α (Lv α h) H v a ∧ ∀ H2, (∀ p c dx l, H p = some (.ins c dx l) → H2 p = some (.ins c dx l)) → ∀ Q : VK, Q v H2 → tPath K i (fs.map (·.1)) σ H2 Q
  | [], a, _, e => by
    unfold pathA at e
    split at e
    · rename_i b eb
      cases e
      obtain ⟨o, e1, e2⟩ := paired_get s eb
      cases e2 with
      | some rv => exact ⟨_, rv, fun H2 _ Q q => ⟨_, e1, q⟩⟩
    · cases e
  | (f, cl) :: r', a, ok, e => by
    unfold pathA at e
    split at e
    · rename_i b eb
      split at e
      · rename_i C fs ei
        split at e
        · rename_i hc
          obtain ⟨v, rv, rd⟩ := path_read r s r' b (fun p z => ok p (List.mem_cons_of_mem _ z)) eb
          obtain ⟨p, c, dx, vs, rfl, x1, x2, x3⟩ := r.ins rv ei
          obtain ⟨k1, k2⟩ := ok (f, cl) List.mem_cons_self C hc c x2
          have g := x3.look (f := f)
          have e' : List.lookup f fs = some a := e
          rw [e'] at g
          generalize hv : vs.lookup f = o1 at g
          cases g with
          | some ra => exact ⟨_, ra, fun H2 hi Q q => rd H2 hi _ ⟨p, c, dx, vs, _, rfl, hi p c dx vs x1, k1, k2, hv, q⟩⟩
        · cases e
      · cases e
    · cases e
end
def iT (k : Nat) (td : TE) : TI := match k with
  | 0 => iKeys td
  | 1 => iVals td
  | _ => iItems td
theorem iT_read {k : Nat} {td : TE} {σ : L2.St} {H : Hp} {R : It → Hp → Prop} {d : Addr} {o : Obj} {vs : List (Key × V)} (rd : ∀ Q : VK, Q (.ref d) H → td σ H Q) (e : H d = some (.frz o (.dK vs))) (q : R (dkI k d o vs) H) : iT k td σ H R := by
  match k with
  | 0 => exact rd _ ⟨d, o, rfl, .inl ⟨vs, e, q⟩⟩
  | 1 => exact rd _ ⟨d, o, vs, rfl, e, q⟩
  | _ + 2 => exact rd _ ⟨d, o, vs, rfl, e, q⟩
def noerS : SR1 → SR1
  | .er _ _ _ _ => .bad
  | .bk _ _ => .bad
  | .ct _ _ => .bad
  | r => r
def restS (n : Nat) (kvs : List (A × A)) : SR1 → SR1
  | .nx e h => match h[n]? with
    | some none => .nx e (h.set n (some (.dct kvs)))
    | _ => .bad
  | .rt a h => match h[n]? with
    | some none => .rt a (h.set n (some (.dct kvs)))
    | _ => .bad
  | _ => .bad
def sForD (k i : Nat) (fs : Path) (t : Tg) (b : MS) : MS := fun env h => match pathA i fs env h with
  | some (.dct kvs) => noerS (forL t b (dk k kvs) env h)
  | some (.ref n) => match h[n]? with
    | some (some (.dct kvs)) => restS n kvs (noerS (forL t b (dk k kvs) env (h.set n none)))
    | _ => .bad
  | _ => .bad
section
variable {X : Cx} {W : WX} {tg iter : Expr} {body : List Stmt} {mb : MS} {t : Tg} {pos : Pos}
theorem for_read {K : PySem.W.Frag} {mg : Str → Option Value} {J : It} {xs : List A} {α1 : Al} {h1 : AH} {H1 : Hp} {σ : L2.St} {env : Env} {D : Ends} (r1 : Rel K mg α1 h1 H1) (sr : SR K mg α1 (Lv α1 h1) H1 σ env) (wl : Wlk K mg J xs α1 h1 H1) (q1 : PostS K mg W α1 h1 H1 (forL t mb xs env h1) D) :
    ∃ W1 : Nat → Nat → L2.St → Hp → Prop, (∃ m, W1 0 m σ H1) ∧ ∀ i m σ H, W1 i m σ H →
  (J.stop i H ∧ D.nx σ H) ∨ (J.go i H ∧ ∃ N : L2.St → Hp → Prop, (∀ σ' H', N σ' H' → ∃ m', m' < m ∧ W1 (i + 1) m' σ' H') ∧ ∀ x H', J.yld i H x H' → (t.g K) x σ H' fun σ2 H2 => tSt K mg W mb { D with nx := N, ct := N, bk := D.nx } σ2 H2) := by
  refine ⟨fun i m σ' H' => ∃ α' h' env', Rel K mg α' h' H' ∧ Stp α1 h1 H1 α' h' H' ∧ SR K mg α' (Lv α' h') H' σ' env' ∧ m = xs.length - i ∧ PostS K mg W α' h' H' (forL t mb (xs.drop i) env' h') D,
    ⟨_, α1, h1, env, r1, .refl, sr, rfl, q1⟩, ?_⟩
  rintro i m σ2 H2 ⟨α2, h2, env2, r2, s2, sr2, rfl, q2⟩
  obtain ⟨w1, w2⟩ := wl α2 h2 H2 r2 s2.kp (fun p o u e n => s2.keep p _ e n) i
  cases hx : xs[i]? with
  | none =>
    have hl := List.getElem?_eq_none_iff.mp hx
    rw [List.drop_eq_nil_of_le hl] at q2
    exact .inl ⟨w2 hl, posts_nx q2 r2 sr2⟩
  | some a =>
    obtain ⟨hl, _⟩ := List.getElem?_eq_some_iff.mp hx
    obtain ⟨g1, g2⟩ := w1 a hx
    rw [drop_get hx] at q2
    refine .inr ⟨g1, fun σ' H' => ∃ α' h' env', Rel K mg α' h' H' ∧ Stp α1 h1 H1 α' h' H' ∧ SR K mg α' (Lv α' h') H' σ' env' ∧ PostS K mg W α' h' H' (forL t mb (xs.drop (i + 1)) env' h') D, ?_, ?_⟩
    · rintro σ' H' ⟨α', h', env', z1, z2, z3, z4⟩
      exact ⟨_, by omega, α', h', env', z1, z2, z3, rfl, z4⟩
    · intro x H3 hy
      obtain ⟨r3, s3, ra⟩ := g2 x H3 hy
      unfold forL at q2
      split at q2
      · exact q2.elim
      · rename_i env3 e3
        refine Tg.ok t ra (sr2.step s3.kp) e3 fun σ3 sr3 _ => ⟨α2, h2, env3, r3, sr3, ?_⟩
        have q3 := PostS.rebase s3 q2
        cases e : mb env3 h2 with
        | nx e4 h4 =>
          rw [e] at q3
          exact fun α4 H4 σ4 r4 s4 sr4 => ⟨α4, h4, e4, r4, (s2.trans s3).trans s4, sr4, PostS.rebase s4 q3⟩
        | ct e4 h4 =>
          rw [e] at q3
          exact fun α4 H4 σ4 r4 s4 sr4 => ⟨α4, h4, e4, r4, (s2.trans s3).trans s4, sr4, PostS.rebase s4 q3⟩
        | bk e4 h4 => rw [e] at q3; exact q3
        | rt a4 h4 => rw [e] at q3; exact q3
        | er c4 d4 e4 h4 => rw [e] at q3; exact q3
        | bad => rw [e] at q3; exact q3.elim
abbrev lkE (D : Ends) (d : Addr) (od : Obj) (u : HO) : Ends := ⟨fun σ' H' => H' d = some (.frz od u) ∧ D.nx σ' (upd H' d u), fun v H' => H' d = some (.frz od u) ∧ D.rt v (upd H' d u), fun σ' H' => H' d = some (.frz od u) ∧ D.bk σ' (upd H' d u), fun σ' H' => H' d = some (.frz od u) ∧ D.ct σ' (upd H' d u)⟩
theorem PS.or {st : Stmt} {t t' : TS} (p : PS X st t) (q : PS X st t') : PS X st (fun D σ H => t D σ H ∨ t' D σ H) := ⟨fun a b c d f I z => z.elim (p.run a b c d f I) (q.run a b c d f I)⟩
theorem cs_forD (k i : Nat) (fs : Path) (hp : PassesOwn (model X.prog X.w) X.A X.env X.xe) (hc : X.calm = true) (P : PI X tg iter (iT k (tPath X.K i (fs.map (·.1))))) (ok : PathOk X.K X.mg fs) (hg : PG X tg (t.g X.K)) (hb : CSs X W body mb)
    (hs : ∀ x, foldedSetIterable iter X.env x = pure x := by intro _; rfl) : CS X W (.For tg iter body [] pos) (sForD k i fs t mb) :=
  cs_of (PS.or (ps_lock (ps_for hp hc P hg hb hs)) (ps_for hp hc P hg hb hs)) fun D σ α h H env r s q => by
    unfold sForD at q
    split at q
    · rename_i kvs e
      obtain ⟨v, rv, rd⟩ := path_read r s fs _ ok e
      cases rv with
      | dct h1 h2 h3 =>
        rename_i d vs
        rcases h1 with h1 | ⟨o, h1⟩
        · left
          refine ⟨d, .dK vs, h1, True.intro, fun od => ?_⟩
          obtain ⟨r1, k1, un⟩ := lockF h1 h2 r od
          refine iT_read (rd _ (fun p c dx l e => by rw [upd_ne (ne_of e h1 (by intro z; cases z))]; exact e)) upd_same ?_
          refine for_read (W := W) r1 (s.step k1) (wlk_d k upd_same (nlv h2) (h3.step k1)) ?_
          cases er : forL t mb (dk k kvs) env h with
          | nx e' h' =>
            rw [er] at q
            intro α' H' σ' r' s' sr'
            have u := un α' h' H' r' s'
            exact ⟨u.fr, q α' _ σ' u.rel u.stp (sr'.step u.kp)⟩
          | rt a h' =>
            rw [er] at q
            intro α' H' v r' s' ra
            have u := un α' h' H' r' s'
            exact ⟨u.fr, q α' _ v u.rel u.stp (ra.step u.kp)⟩
          | bk e' h' => rw [er] at q; exact q.elim
          | ct e' h' => rw [er] at q; exact q.elim
          | er c d e' h' => rw [er] at q; exact q.elim
          | bad => rw [er] at q; exact q.elim
        · right
          refine iT_read (rd _ (fun p c dx l e => e)) h1 ?_
          refine for_read (W := W) r s (wlk_d k h1 (nlv h2) h3) ?_
          cases er : forL t mb (dk k kvs) env h with
          | nx e' h' => rw [er] at q; exact q
          | rt a h' => rw [er] at q; exact q
          | bk e' h' => rw [er] at q; exact q.elim
          | ct e' h' => rw [er] at q; exact q.elim
          | er c d e' h' => rw [er] at q; exact q.elim
          | bad => rw [er] at q; exact q.elim
    · rename_i n e
      split at q
      · rename_i kvs eh
        obtain ⟨v, rv, rd⟩ := path_read r s fs _ ok e
        cases rv with
        | ref ep =>
          rename_i d
          obtain ⟨vs, h1, rk, all⟩ := lockL ep eh r
          left
          refine ⟨d, .dK vs, h1, True.intro, fun od => ?_⟩
          obtain ⟨r1, k1, un⟩ := all od
          have nl : ¬ Live (α.res d) (h.set n none) d := (r1.zs d List.mem_cons_self).1
          refine iT_read (rd _ (fun p c dx l e => by rw [upd_ne (ne_of e h1 (by intro z; cases z))]; exact e)) upd_same ?_
          refine for_read (W := W) r1 (s.step k1) (wlk_d k upd_same nl (rk.step k1)) ?_
          cases er : forL t mb (dk k kvs) env (h.set n none) with
          | nx e' h' =>
            rw [er] at q
            dsimp only [noerS, restS] at q
            split at q
            · rename_i en
              intro α' H' σ' r' s' sr'
              have u := un α' h' H' r' s' en
              exact ⟨u.fr, q _ _ σ' u.rel u.stp (sr'.step u.kp)⟩
            · exact q.elim
          | rt a h' =>
            rw [er] at q
            dsimp only [noerS, restS] at q
            split at q
            · rename_i en
              intro α' H' v r' s' ra
              have u := un α' h' H' r' s' en
              exact ⟨u.fr, q _ _ v u.rel u.stp (ra.step u.kp)⟩
            · exact q.elim
          | bk e' h' => rw [er] at q; exact q.elim
          | ct e' h' => rw [er] at q; exact q.elim
          | er c d e' h' => rw [er] at q; exact q.elim
          | bad => rw [er] at q; exact q.elim
      · exact q.elim
    · exact q.elim
def restR {β : Type} (n : Nat) (kvs : List (A × A)) : R β → R β
  | .ok a h => match h[n]? with
    | some none => .ok a (h.set n (some (.dct kvs)))
    | _ => .bad
  | _ => .bad
def overD (k i : Nat) (fs : Path) (f : List A → Env → AH → R A) : M A := fun env h => match pathA i fs env h with
  | some (.dct kvs) => (f (dk k kvs) env h).noer
  | some (.ref n) => match h[n]? with
    | some (some (.dct kvs)) => restR n kvs (f (dk k kvs) env (h.set n none)).noer
    | _ => .bad
  | _ => .bad
theorem ce_overD {e : Expr} {T : TI → TE} {f : List A → Env → AH → R A} (k i : Nat) (fs : Path) (p : PE X e (T (iT k (tPath X.K i (fs.map (·.1)))))) (ok : PathOk X.K X.mg fs)
    (rd : ∀ (wi : TI) (J : It) (xs : List A) (σ : L2.St) (α : Al) (h : AH) (H : Hp) (env : Env) (Q : VK), (∀ R : It → Hp → Prop, R J H → wi σ H R) → Rel X.K X.mg α h H → SR X.K X.mg α (Lv α h) H σ env → Wlk X.K X.mg J xs α h H → Post rtA X.K X.mg W σ α h H (f xs env h) Q → T wi σ H Q) :
    CE X W e (overD k i fs f) :=
  ce_of (Cl.PE.or (pe_lock p) p) fun σ α h H env Q r s q => by
    unfold overD at q
    split at q
    · rename_i kvs e
      obtain ⟨v, rv, rdp⟩ := path_read r s fs _ ok e
      cases rv with
      | dct h1 h2 h3 =>
        rename_i d vs
        rcases h1 with h1 | ⟨o, h1⟩
        · left
          refine ⟨d, .dK vs, h1, True.intro, fun od => ?_⟩
          obtain ⟨r1, k1, un⟩ := lockF h1 h2 r od
          refine rd _ (dkI k d od vs) (dk k kvs) σ α h _ env _ (fun R q => iT_read (rdp _ (fun p c dx l e => by rw [upd_ne (ne_of e h1 (by intro z; cases z))]; exact e)) upd_same q) r1 (s.step k1) (wlk_d k upd_same (nlv h2) (h3.step k1)) ?_
          cases er : f (dk k kvs) env h with
          | ok a h' =>
            rw [er] at q
            intro α' H' v r' s' ra
            have u := un α' h' H' r' s'
            exact ⟨u.fr, q α' _ v u.rel u.stp (ra.step u.kp)⟩
          | er c d h' => rw [er] at q; exact q.elim
          | bad => rw [er] at q; exact q.elim
        · right
          refine rd _ (dkI k d o vs) (dk k kvs) σ α h _ env _ (fun R q => iT_read (rdp _ (fun p c dx l e => e)) h1 q) r s (wlk_d k h1 (nlv h2) h3) ?_
          cases er : f (dk k kvs) env h with
          | ok a h' => rw [er] at q; exact q
          | er c d h' => rw [er] at q; exact q.elim
          | bad => rw [er] at q; exact q.elim
    · rename_i n e
      split at q
      · rename_i kvs eh
        obtain ⟨v, rv, rdp⟩ := path_read r s fs _ ok e
        cases rv with
        | ref ep =>
          rename_i d
          obtain ⟨vs, h1, rk, all⟩ := lockL ep eh r
          left
          refine ⟨d, .dK vs, h1, True.intro, fun od => ?_⟩
          obtain ⟨r1, k1, un⟩ := all od
          have nl : ¬ Live (α.res d) (h.set n none) d := (r1.zs d List.mem_cons_self).1
          refine rd _ (dkI k d od vs) (dk k kvs) σ _ _ _ env _ (fun R q => iT_read (rdp _ (fun p c dx l e => by rw [upd_ne (ne_of e h1 (by intro z; cases z))]; exact e)) upd_same q) r1 (s.step k1) (wlk_d k upd_same nl (rk.step k1)) ?_
          cases er : f (dk k kvs) env (h.set n none) with
          | ok a h' =>
            rw [er] at q
            dsimp only [R.noer, restR] at q
            split at q
            · rename_i en
              intro α' H' v r' s' ra
              have u := un α' h' H' r' s' en
              exact ⟨u.fr, q _ _ v u.rel u.stp (ra.step u.kp)⟩
            · exact q.elim
          | er c d h' => rw [er] at q; exact q.elim
          | bad => rw [er] at q; exact q.elim
      · exact q.elim
    · exact q.elim
end
end Cl
namespace Cl
open PySem PySem.Spec PyProof.Rows L2
section
variable {X : Cx} {W : WX} {tg iter elt kx : Expr} {ifs : List Expr} {mt : M Bool} {me mk : M A} {t : Tg} {pos : Pos}
theorem ce_dcD (lv : Bool) (k i : Nat) (fs : Path) {scope : Scope} {own : List (Str × Nat)} (hc : X.calm = true) (hN : X.N.Nodup) (P : PI X tg iter (iT k (tPath X.K i (fs.map (·.1))))) (pok : PathOk X.K X.mg fs) (ok : BlkOk X.N X.env.scope scope own) (sub : ∀ i ∈ t.slots, i ∈ own.map (·.2))
    (hg : ∀ (s : Shared) (H : Hp) (C : Addr) (cl : List (Str × Addr)) (fp : List Addr), PG (X.blk s H scope (compEnvC scope cl C X.env) fp) tg (t.g X.K)) (ht : ∀ (s : Shared) (H : Hp) (C : Addr) (cl : List (Str × Addr)) (fp : List Addr), CTs (X.blk s H scope (compEnvC scope cl C X.env) fp) W0 ifs mt)
    (hk : ∀ (s : Shared) (H : Hp) (C : Addr) (cl : List (Str × Addr)) (fp : List Addr), CE (X.blk s H scope (compEnvC scope cl C X.env) fp) W0 kx mk)
    (he : ∀ (s : Shared) (H : Hp) (C : Addr) (cl : List (Str × Addr)) (fp : List Addr), CE (X.blk s H scope (compEnvC scope cl C X.env) fp) W0 elt me) (hs : ∀ x, foldedSetIterable iter X.env x = pure x := by intro _; rfl) :
    CE X W (.DictComp kx elt [⟨tg, iter, ifs, 0⟩] scope pos) (overD k i fs fun xs env h => (dcL t mt mk me (wipeE env (own.map (·.2))) xs [] h).bind fun ys h => mkD lv ys h) :=
  ce_overD (T := fun wi => tDc wi (t.g X.K) (tOf rtB X.K X.mg W0 mt) (tOf rtA X.K X.mg W0 mk) (tOf rtA X.K X.mg W0 me) (own.map (·.2))) k i fs (pe_dc (tt := tOf rtB X.K X.mg W0 mt) (tk := tOf rtA X.K X.mg W0 mk) (tv := tOf rtA X.K X.mg W0 me) hc hN P ok hg ht hk he hs) pok
    fun wi J xs σ α h H env Q run r s wl q => run _ (dc_read lv sub r s wl q)
theorem ce_lcD (lv : Bool) (k i : Nat) (fs : Path) {scope : Scope} {own : List (Str × Nat)} (hc : X.calm = true) (hN : X.N.Nodup) (P : PI X tg iter (iT k (tPath X.K i (fs.map (·.1))))) (pok : PathOk X.K X.mg fs) (ok : BlkOk X.N X.env.scope scope own) (sub : ∀ i ∈ t.slots, i ∈ own.map (·.2))
    (hg : ∀ (s : Shared) (H : Hp) (C : Addr) (cl : List (Str × Addr)) (fp : List Addr), PG (X.blk s H scope (compEnvC scope cl C X.env) fp) tg (t.g X.K)) (ht : ∀ (s : Shared) (H : Hp) (C : Addr) (cl : List (Str × Addr)) (fp : List Addr), CTs (X.blk s H scope (compEnvC scope cl C X.env) fp) W0 ifs mt)
    (he : ∀ (s : Shared) (H : Hp) (C : Addr) (cl : List (Str × Addr)) (fp : List Addr), CE (X.blk s H scope (compEnvC scope cl C X.env) fp) W0 elt me) (hs : ∀ x, foldedSetIterable iter X.env x = pure x := by intro _; rfl) :
    CE X W (.ListComp elt [⟨tg, iter, ifs, 0⟩] scope pos) (overD k i fs fun xs env h => if xs.length ≤ lim then (lcL t mt me (wipeE env (own.map (·.2))) xs h).bind fun ys h => mkL lv ys h else .bad) :=
  ce_overD (T := fun wi => tLc wi (t.g X.K) (tOf rtB X.K X.mg W0 mt) (tOf rtA X.K X.mg W0 me) (own.map (·.2))) k i fs (pe_lc (tt := tOf rtB X.K X.mg W0 mt) (te := tOf rtA X.K X.mg W0 me) hc hN P ok hg ht he hs) pok
    fun wi J xs σ α h H env Q run r s wl q => run _ (by
      split at q
      · rename_i hl
        exact lc_read lv sub r s wl hl q
      · exact q.elim)
end
def pairsM : List (M A × M A) → M (List (A × A))
  | [], _, h => .ok [] h
  | (mk, mv) :: r, env, h => (mk env h).noer.bind fun k h => (mv env h).noer.bind fun v h => (pairsM r env h).bind fun ps h => .ok ((k, v) :: ps) h
def mergeA (kvs more : List (A × A)) : List (A × A) := more.foldl (fun acc kv => kvPut acc kv.1 kv.2) kvs
def eDisp (lv : Bool) (ms : List (M A × M A)) : M A := fun env h => (pairsM ms env h).bind fun ps h => if ps.all (fun p => isKey p.1) && decide (ps.length ≤ 15) then mkD lv (mergeA [] ps) h else .bad
def trsOf (K : PySem.W.Frag) (mg : Str → Option Value) (ms : List (M A × M A)) : List (TE × TE) := ms.map fun p => (tOf rtA K mg W0 p.1, tOf rtA K mg W0 p.2)
def CPs (X : Cx) (pos : Pos) (ks : List (Option Expr)) (vs : List Expr) (ms : List (M A × M A)) : Prop := PPs X pos ks vs (trsOf X.K X.mg ms)
section
variable {X : Cx} {W : WX} {pos : Pos} {k v : Expr} {ks : List (Option Expr)} {vs : List Expr} {mk mv : M A} {ms : List (M A × M A)}
theorem cps_nil : CPs X pos [] [] [] := pps_nil
theorem cps_cons (hk : CE X W0 k mk) (hv : CE X W0 v mv) (hr : CPs X pos ks vs ms) : CPs X pos (some k :: ks) (v :: vs) ((mk, mv) :: ms) := pps_cons hk hv hr
theorem pairs_read {K : PySem.W.Frag} {mg : Str → Option Value} {D : Addr} : ∀ (ms : List (M A × M A)) {σ : L2.St} {env : Env} {α : Al} {h h' : AH} {H : Hp} {ps : List (A × A)} {Q : List (V × V) → Hp → Prop}, Rel K mg (α.res D) h H → SR K mg (α.res D) (Lv (α.res D) h) H σ env → D ∉ α.l → pairsM ms env h = .ok ps h' →
    (∀ (α' : Al) (H' : Hp) (qs : List (V × V)), α'.z = α.z → D ∉ α'.l → Rel K mg (α'.res D) h' H' → Stp (α.res D) h H (α'.res D) h' H' → Paired (fun p q => RA K mg (α'.res D) (Lv (α'.res D) h') H' p.1 q.1 ∧ RA K mg (α'.res D) (Lv (α'.res D) h') H' p.2 q.2) qs ps → Q qs H') → tPairs (trsOf K mg ms) σ H Q
  | [], σ, env, α, h, h', H, ps, Q, r, s, nD, e, q => by
    unfold pairsM at e
    cases e
    exact q α H [] rfl nD r .refl .nil
  | (mk, mv) :: ms, σ, env, α, h, h', H, ps, Q, r, s, nD, e, q => by
    unfold pairsM at e
    cases e1 : mk env h with
    | er c d h1 => rw [e1] at e; cases e
    | bad => rw [e1] at e; cases e
    | ok k h1 =>
      rw [e1] at e
      have e2' : ((mv env h1).noer.bind fun v h => (pairsM ms env h).bind fun ps h => R.ok ((k, v) :: ps) h) = .ok ps h' := e
      cases e2 : mv env h1 with
      | er c d h2 => rw [e2] at e2'; cases e2'
      | bad => rw [e2] at e2'; cases e2'
      | ok v h2 =>
        rw [e2] at e2'
        have e3' : ((pairsM ms env h2).bind fun ps h => R.ok ((k, v) :: ps) h) = .ok ps h' := e2'
        cases e3 : pairsM ms env h2 with
        | er c d h3 => rw [e3] at e3'; cases e3'
        | bad => rw [e3] at e3'; cases e3'
        | ok ps' h3 =>
          rw [e3] at e3'
          cases e3'
          obtain ⟨oD, hD⟩ := (r.zs D List.mem_cons_self).2
          refine ⟨_, h, env, r, s, ?_⟩
          show Post rtA K mg W0 σ (α.res D) h H (mk env h) _
          rw [e1]
          intro α1 H1 x r1 s1 rx
          obtain ⟨l1, z1⟩ := α1
          cases (show z1 = D :: α.z from s1.zeq)
          have nD1 : D ∉ l1 := fun z => by
            rcases s1.new D z with y | y
            · exact nD y
            · rw [hD] at y; cases y
          have hD1 := s1.keep D _ hD (r.zs D List.mem_cons_self).1
          refine ⟨_, h1, env, r1, s.step s1.kp, ?_⟩
          show Post rtA K mg W0 σ _ h1 H1 (mv env h1) _
          rw [e2]
          intro α2 H2 y r2 s2 ry
          obtain ⟨l2, z2⟩ := α2
          cases (show z2 = D :: α.z from s2.zeq)
          have nD2 : D ∉ l2 := fun z => by
            rcases s2.new D z with w | w
            · exact nD1 w
            · rw [hD1] at w; cases w
          refine pairs_read (α := ⟨l2, α.z⟩) ms r2 ((s.step s1.kp).step s2.kp) nD2 e3 fun α' H' qs ez nD' r' s' pq => ?_
          exact q α' H' ((x, y) :: qs) ez nD' r' ((s1.trans s2).trans s') (.cons ⟨(rx.step s2.kp).step s'.kp, ry.step s'.kp⟩ pq)
theorem keyed {K : PySem.W.Frag} {mg : Str → Option Value} {α : Al} {L : Addr → Prop} {H : Hp} : ∀ {qs : List (V × V)} {ps : List (A × A)}, Paired (fun p q => RA K mg α L H p.1 q.1 ∧ RA K mg α L H p.2 q.2) qs ps → ps.all (fun p => isKey p.1) = true →
    ∃ kvs : List (Key × V), qs = kvs.map (fun kv => (kV kv.1, kv.2)) ∧ kvs.length = ps.length ∧ ∀ (vs : List (Key × V)) (xs : List (A × A)), RKs K mg α L H vs xs → RKs K mg α L H (mergeK vs kvs) (mergeA xs ps)
  | [], [], .nil, _ => ⟨[], rfl, rfl, fun vs xs r => r⟩
  | x :: _, y :: _, .cons ⟨r1, r2⟩ t, f => by
    rw [List.all_cons, Bool.and_eq_true] at f
    obtain ⟨kvs, e1, e2, e3⟩ := keyed t f.2
    obtain ⟨k, h1, h2⟩ := kV_of r1 f.1
    refine ⟨(k, x.2) :: kvs, ?_, by simp [e2], fun vs xs r => ?_⟩
    · rw [List.map_cons, ← e1]
      obtain ⟨x1, x2⟩ := x
      cases (show x1 = kV k from h1)
      rfl
    · show RKs K mg α L H (mergeK (putK vs k x.2) kvs) (mergeA (kvPut xs y.1 y.2) _)
      rw [h2]
      exact e3 _ _ (r.put r2)
theorem ce_disp (lv : Bool) {keys : List (Option Expr)} {values : List Expr} (h : CPs X pos keys values ms) (hall : keys.all (·.isSome) = true) (hl : keys.length = values.length) (h0 : keys ≠ []) (h15 : keys.length ≤ 15) : CE X W (.Dict keys values pos) (eDisp lv ms) :=
  ce_of (pe_disp h hall hl h0 h15) fun σ α h H env Q r s q => by
    unfold eDisp at q
    intro D nD
    cases e : pairsM ms env h with
    | ok ps h' =>
      rw [e] at q
      have q1 : Post rtA X.K X.mg W σ α h H (if (ps.all (fun p => isKey p.1) && decide (ps.length ≤ 15)) = true then mkD lv (mergeA [] ps) h' else .bad) Q := q
      split at q1
      · rename_i hc
        rw [Bool.and_eq_true] at hc
        refine pairs_read ms (r.res nD (.dK [])) (s.step (kp_res nD)) (r.nmem nD) e fun α' H' qs ez nD' r' s' pq => ?_
        obtain ⟨kvs, e1, e2, e3⟩ := keyed pq hc.1
        have hD : H' D = some (.dK []) := s'.keep D _ upd_same ((r.res nD (.dK [])).zs D List.mem_cons_self).1
        refine ⟨hD, kvs, e1, by rw [e2]; exact of_decide_eq_true hc.2, ?_⟩
        have rk := e3 [] [] .nil
        have r2 := r'.resPut (.dK (mergeK [] kvs))
        have rk2 := rk.step (kp_resPut (α := α') (D := D) (h := h') (H := H') (o := .dK (mergeK [] kvs)))
        have dz : D ∉ α'.z := by
          rw [ez]
          intro z
          obtain ⟨_, u, w⟩ := r.zs D z
          rw [nD] at w; cases w
        have st : Stp α h H α' h' (upd H' D (.dK (mergeK [] kvs))) := by
          refine ⟨s'.pre, ez, fun p o ep np => ?_, fun p l => ?_, fun p l => ?_⟩
          · have : p ≠ D := ne_of_none ep nD
            rw [upd_ne this]
            exact s'.keep p o (by rw [upd_ne this]; exact ep) np
          · rcases s'.liv p l with z | z
            · exact .inl z
            · by_cases hd : p = D
              · rw [hd]; exact .inr nD
              · rw [upd_ne hd] at z; exact .inr z
          · rcases s'.new p l with z | z
            · exact .inl z
            · by_cases hd : p = D
              · rw [hd]; exact .inr nD
              · rw [upd_ne hd] at z; exact .inr z
        unfold mkD at q1
        cases lv
        · rw [if_neg Bool.false_ne_true] at q1
          exact q1 α' _ _ r2.unres st (.dct (.inl upd_same) (r2.unresNlv dz) (rk2.step kp_unres))
        · rw [if_pos rfl] at q1
          have len2 : α'.l.length = h'.length := r2.len
          refine q1 (α'.push D) _ _ (r2.unresPush (ao := .dct _) (fun k => .dct upd_same (rk2.step k)) dz nD') ?_ (.ref (by rw [← len2]; exact get_len))
          refine ⟨fun n p e => get_push_lt (st.pre n p e), st.zeq, fun p o e nl => st.keep p o e nl, fun p z => ?_, fun p z => ?_⟩
          · rcases (live_push len2).mp z with y | y
            · exact st.liv p y
            · exact .inr (y ▸ nD)
          · rcases List.mem_append.mp z with y | y
            · exact st.new p y
            · have : p = D := by simpa using y
              exact .inr (this ▸ nD)
      · exact q1.elim
    | er c d h' =>
      exfalso
      have : ∀ (ms : List (M A × M A)) (h : AH), pairsM ms env h ≠ .er c d h' := by
        intro ms
        induction ms with
        | nil => intro h z; cases z
        | cons p r ih =>
          intro h z
          obtain ⟨mk, mv⟩ := p
          unfold pairsM at z
          cases e1 : mk env h with
          | ok k h1 =>
            rw [e1] at z
            have z2 : ((mv env h1).noer.bind fun v h => (pairsM r env h).bind fun ps h => R.ok ((k, v) :: ps) h) = .er c d h' := z
            cases e2 : mv env h1 with
            | ok v h2 =>
              rw [e2] at z2
              have z3 : ((pairsM r env h2).bind fun ps h => R.ok ((k, v) :: ps) h) = .er c d h' := z2
              cases e3 : pairsM r env h2 with
              | ok ps h3 => rw [e3] at z3; cases z3
              | er c2 d2 h3 =>
                rw [e3] at z3
                cases z3
                exact ih h2 e3
              | bad => rw [e3] at z3; cases z3
            | er c2 d2 h2 => rw [e2] at z2; cases z2
            | bad => rw [e2] at z2; cases z2
          | er c2 d2 h1 => rw [e1] at z; cases z
          | bad => rw [e1] at z; cases z
      exact this ms h e
    | bad => rw [e] at q; exact q.elim
end
end Cl
namespace Cl
open PySem PySem.Spec PyProof.Rows L2
def eDcD (lv : Bool) (k i : Nat) (fs : Path) (t : Tg) (vs : List Nat) (mt : M Bool) (mk me : M A) : M A := overD k i fs fun xs env h => (dcL t mt mk me (wipeE env vs) xs [] h).bind fun ys h => mkD lv ys h
def eLcD (lv : Bool) (k i : Nat) (fs : Path) (t : Tg) (vs : List Nat) (mt : M Bool) (me : M A) : M A := overD k i fs fun xs env h => if xs.length ≤ lim then (lcL t mt me (wipeE env vs) xs h).bind fun ys h => mkL lv ys h else .bad
section
variable {X : Cx} {W : WX}
abbrev InC (X : Cx) (scope : Scope) (p : Cx → Prop) : Prop := ∀ (s : Shared) (H : Hp) (C : Addr) (cl : List (Str × Addr)) (fp : List Addr), p (X.blk s H scope (compEnvC scope cl C X.env) fp)
theorem sw_trueD {kx vx : Expr} {gs : List Comprehension} {scope : Scope} {pos py : Pos} {y : Str} {l : Nat} {env : PySem.Env} (fn1 : env.scope.kind = .function) (loc1 : env.scope.names.lookup y = some .local) (row1 : (py.line == pos.line) = true)
    (out : (scope.names.any fun (n, k) => n == y && (k == .local || k == .cell)) = false) : swapsWith (.DictComp kx vx gs scope pos) (some (.Name y py)) l env = pure true := by
  have block : env.blockKind = .function := by unfold PySem.Env.blockKind; rw [fn1]; rfl
  have kind : env.kindOf y = some .local := loc1
  unfold swapsWith
  simp only [block, kind, out, row1, Expr.pos]
  rfl
theorem ps_setDc {i : Nat} {y : Str} {py pos spos : Pos} {kx vx tg iter : Expr} {ifs : List Expr} {scope : Scope} {own : List (Str × Nat)} {wi : TI} {g : TG} {tt : TT} {tk tv : TE} (hc : X.calm = true) (hN : X.N.Nodup) (hy : X.N[i]? = some y) (hyl : X.env.scope.names.lookup y = some .local)
    (hsw : swapsWith (.DictComp kx vx [⟨tg, iter, ifs, 0⟩] scope pos) (some (.Name y py)) spos.line X.env = pure true) (hi : PI X tg iter wi) (ok : BlkOk X.N X.env.scope scope own)
    (hg : InC X scope fun Y => PG Y tg g) (ht : InC X scope fun Y => PTs Y ifs tt) (hk : InC X scope fun Y => PE Y kx tk) (he : InC X scope fun Y => PE Y vx tv) (hs : ∀ x, foldedSetIterable iter X.env x = pure x := by intro _; rfl) :
    PS X (.Assign [.Name y py] (.DictComp kx vx [⟨tg, iter, ifs, 0⟩] scope pos) spos) (tAsg (tDc wi g tt tk tv (own.map (·.2))) (gName i)) := by
  constructor
  intro pins s σ H D I h
  have made := dc_core (Qf := fun _ s' => SP X pins D .next s') (pos := pos) (pos' := firstIterPos [⟨tg, iter, ifs, 0⟩] pos) (use := some (assign (.Name y py) X.env)) hc hN I hi ok hg ht hk he hs (show tDc wi g tt tk tv (own.map (·.2)) σ H (fun x H1 => gName i x σ H1 D.nx) from h) fun L C s' m H' J q names free => ?_
  · rw [exec_Assign_Name_used (hs := hsw)]
    exact wpAny_bind (wpAny_standAt (wpAny_bind (wpAny_bind (thn made fun _ _ z => wpAny_pure (wpAny_pure z)))))
  · refine wpAny_assign_Name (store_ok2 (v := V.ref L) J hN hy (.inl hyl) rfl (fun s2 J2 z => ?_) (.inr hyl))
    obtain ⟨a, only, at1⟩ := z
    obtain ⟨g0, g1, _, g3, g4, g5⟩ := id free
    have other : C ≠ a := at1.elim (fun z => z ▸ g1) fun z e => g4 y a z e.symm
    exact ⟨m, names.sameBut only other, fun h3 same => ⟨_, H', J2.turned (t' := s2.toks) (fun b o hb e => (same.2 b hb).trans e) g0 g1 g3 g4 g5, q⟩⟩
theorem cs_setOf {st : Stmt} {te : TE} {i : Nat} {m : M A} (p : PS X st (tAsg te (gName i))) (rd : ∀ σ α h H env Q, Rel X.K X.mg α h H → SR X.K X.mg α (Lv α h) H σ env → Post rtA X.K X.mg W σ α h H (m env h) Q → te σ H Q) : CS X W st (sAsg (.name i) m) :=
  cs_of p fun D σ α h H env r s q => rd σ α h H env (fun x H1 => gName i x σ H1 D.nx) r s (st_bind s q fun b h1 α1 H1 v r1 s1 rb q1 => by
    split at q1
    · rename_i env' e'
      have := Tg.ok (K := X.K) (.name i) rb (s.step s1.kp) e' (Q := D.nx) fun σ' s' _ => posts_nx q1 r1 s'
      unfold Tg.g at this
      exact this
    · exact q1.elim)
end
section
variable {X : Cx} {W : WX} {tg iter elt kx : Expr} {ifs : List Expr} {mt : M Bool} {me mk : M A} {mi : M (List A)} {t : Tg} {pos spos py : Pos} {y : Str}
theorem cs_setDc (lv : Bool) {i : Nat} {scope : Scope} {own : List (Str × Nat)} (hc : X.calm = true) (hN : X.N.Nodup) (hi : CI X W tg iter mi) (ok : BlkOk X.N X.env.scope scope own) (sub : ∀ i ∈ t.slots, i ∈ own.map (·.2))
    (hg : ∀ (s : Shared) (H : Hp) (C : Addr) (cl : List (Str × Addr)) (fp : List Addr), PG (X.blk s H scope (compEnvC scope cl C X.env) fp) tg (t.g X.K)) (ht : ∀ (s : Shared) (H : Hp) (C : Addr) (cl : List (Str × Addr)) (fp : List Addr), CTs (X.blk s H scope (compEnvC scope cl C X.env) fp) W0 ifs mt)
    (hk : ∀ (s : Shared) (H : Hp) (C : Addr) (cl : List (Str × Addr)) (fp : List Addr), CE (X.blk s H scope (compEnvC scope cl C X.env) fp) W0 kx mk)
    (he : ∀ (s : Shared) (H : Hp) (C : Addr) (cl : List (Str × Addr)) (fp : List Addr), CE (X.blk s H scope (compEnvC scope cl C X.env) fp) W0 elt me)
    (hy : X.N[i]? = some y) (hyl : X.env.scope.names.lookup y = some .local) (hsw : swapsWith (.DictComp kx elt [⟨tg, iter, ifs, 0⟩] scope pos) (some (.Name y py)) spos.line X.env = pure true) (hs : ∀ x, foldedSetIterable iter X.env x = pure x := by intro _; rfl) :
    CS X W (.Assign [.Name y py] (.DictComp kx elt [⟨tg, iter, ifs, 0⟩] scope pos) spos) (sAsg (.name i) (eDc lv t (own.map (·.2)) mi mt mk me)) :=
  cs_setOf (ps_setDc (tt := tOf rtB X.K X.mg W0 mt) (tk := tOf rtA X.K X.mg W0 mk) (tv := tOf rtA X.K X.mg W0 me) hc hN hy hyl hsw hi ok hg ht hk he hs) fun σ α h H env Q r s q => ⟨α, h, env, r, s, by
    unfold eDc at q
    cases e : mi env h with
    | ok xs h1 =>
      rw [e] at q
      intro α1 H1 J r1 s1 wl
      exact dc_read lv sub r1 (s.step s1.kp) wl (Post.rebase s1 q)
    | er c d h1 => rw [e] at q; exact q
    | bad => rw [e] at q; exact q⟩
theorem cs_setOver {st : Stmt} {j : Nat} {T : TI → TE} {f : List A → Env → AH → R A} (k i : Nat) (fs : Path) (p : PS X st (tAsg (T (iT k (tPath X.K i (fs.map (·.1))))) (gName j))) (ok : PathOk X.K X.mg fs)
    (rd : ∀ (wi : TI) (J : It) (xs : List A) (σ : L2.St) (α : Al) (h : AH) (H : Hp) (env : Env) (Q : VK), (∀ R : It → Hp → Prop, R J H → wi σ H R) → Rel X.K X.mg α h H → SR X.K X.mg α (Lv α h) H σ env → Wlk X.K X.mg J xs α h H → Post rtA X.K X.mg W σ α h H (f xs env h) Q → T wi σ H Q) :
    CS X W st (sAsg (.name j) (overD k i fs f)) :=
  cs_of (PS.or (ps_lock p) p) fun D σ α h H env r s q => by
    unfold sAsg overD at q
    split at q
    · rename_i kvs e
      obtain ⟨v, rv, rdp⟩ := path_read r s fs _ ok e
      cases rv with
      | dct h1 h2 h3 =>
        rename_i d vs
        rcases h1 with h1 | ⟨o, h1⟩
        · left
          refine ⟨d, .dK vs, h1, True.intro, fun od => ?_⟩
          obtain ⟨r1, k1, un⟩ := lockF h1 h2 r od
          refine rd _ (dkI k d od vs) (dk k kvs) σ α h _ env _ (fun R q => iT_read (rdp _ (fun p c dx l e => by rw [upd_ne (ne_of e h1 (by intro z; cases z))]; exact e)) upd_same q) r1 (s.step k1) (wlk_d k upd_same (nlv h2) (h3.step k1)) ?_
          cases er : f (dk k kvs) env h with
          | ok a h' =>
            rw [er] at q
            intro α' H' v r' s' ra
            have u := un α' h' H' r' s'
            dsimp only [R.noer, R.st] at q
            split at q
            · rename_i env' e'
              have := Tg.ok (K := X.K) (.name j) ra ((s.step k1).step s'.kp) e' (Q := (lkE D d od (.dK vs)).nx) fun σ' s2 _ => ⟨u.fr, q α' _ σ' u.rel u.stp (s2.step u.kp)⟩
              unfold Tg.g at this
              exact this
            · exact q.elim
          | er c d h' => rw [er] at q; exact q.elim
          | bad => rw [er] at q; exact q.elim
        · right
          refine rd _ (dkI k d o vs) (dk k kvs) σ α h _ env _ (fun R q => iT_read (rdp _ (fun p c dx l e => e)) h1 q) r s (wlk_d k h1 (nlv h2) h3) ?_
          cases er : f (dk k kvs) env h with
          | ok a h' =>
            rw [er] at q
            intro α' H' v r' s' ra
            dsimp only [R.noer, R.st] at q
            split at q
            · rename_i env' e'
              have := Tg.ok (K := X.K) (.name j) ra (s.step s'.kp) e' (Q := D.nx) fun σ' s2 _ => q α' _ σ' r' s' s2
              unfold Tg.g at this
              exact this
            · exact q.elim
          | er c d h' => rw [er] at q; exact q.elim
          | bad => rw [er] at q; exact q.elim
    · rename_i n e
      split at q
      · rename_i kvs eh
        obtain ⟨v, rv, rdp⟩ := path_read r s fs _ ok e
        cases rv with
        | ref ep =>
          rename_i d
          obtain ⟨vs, h1, rk, all⟩ := lockL ep eh r
          left
          refine ⟨d, .dK vs, h1, True.intro, fun od => ?_⟩
          obtain ⟨r1, k1, un⟩ := all od
          have nl : ¬ Live (α.res d) (h.set n none) d := (r1.zs d List.mem_cons_self).1
          refine rd _ (dkI k d od vs) (dk k kvs) σ _ _ _ env _ (fun R q => iT_read (rdp _ (fun p c dx l e => by rw [upd_ne (ne_of e h1 (by intro z; cases z))]; exact e)) upd_same q) r1 (s.step k1) (wlk_d k upd_same nl (rk.step k1)) ?_
          cases er : f (dk k kvs) env (h.set n none) with
          | ok a h' =>
            rw [er] at q
            intro α' H' v r' s' ra
            dsimp only [R.noer, restR] at q
            split at q
            · rename_i en
              have u := un α' h' H' r' s' en
              dsimp only [R.st] at q
              split at q
              · rename_i env' e'
                have := Tg.ok (K := X.K) (.name j) ra ((s.step k1).step s'.kp) e' (Q := (lkE D d od (.dK vs)).nx) fun σ' s2 _ => ⟨u.fr, q _ _ σ' u.rel u.stp (s2.step u.kp)⟩
                unfold Tg.g at this
                exact this
              · exact q.elim
            · exact q.elim
          | er c d h' => rw [er] at q; exact q.elim
          | bad => rw [er] at q; exact q.elim
      · exact q.elim
    · exact q.elim
theorem cs_setDcD (lv : Bool) (k i : Nat) (fs : Path) {j : Nat} {scope : Scope} {own : List (Str × Nat)} (hc : X.calm = true) (hN : X.N.Nodup) (P : PI X tg iter (iT k (tPath X.K i (fs.map (·.1))))) (pok : PathOk X.K X.mg fs) (ok : BlkOk X.N X.env.scope scope own) (sub : ∀ i ∈ t.slots, i ∈ own.map (·.2))
    (hg : ∀ (s : Shared) (H : Hp) (C : Addr) (cl : List (Str × Addr)) (fp : List Addr), PG (X.blk s H scope (compEnvC scope cl C X.env) fp) tg (t.g X.K)) (ht : ∀ (s : Shared) (H : Hp) (C : Addr) (cl : List (Str × Addr)) (fp : List Addr), CTs (X.blk s H scope (compEnvC scope cl C X.env) fp) W0 ifs mt)
    (hk : ∀ (s : Shared) (H : Hp) (C : Addr) (cl : List (Str × Addr)) (fp : List Addr), CE (X.blk s H scope (compEnvC scope cl C X.env) fp) W0 kx mk)
    (he : ∀ (s : Shared) (H : Hp) (C : Addr) (cl : List (Str × Addr)) (fp : List Addr), CE (X.blk s H scope (compEnvC scope cl C X.env) fp) W0 elt me)
    (hy : X.N[j]? = some y) (hyl : X.env.scope.names.lookup y = some .local) (hsw : swapsWith (.DictComp kx elt [⟨tg, iter, ifs, 0⟩] scope pos) (some (.Name y py)) spos.line X.env = pure true) (hs : ∀ x, foldedSetIterable iter X.env x = pure x := by intro _; rfl) :
    CS X W (.Assign [.Name y py] (.DictComp kx elt [⟨tg, iter, ifs, 0⟩] scope pos) spos) (sAsg (.name j) (eDcD lv k i fs t (own.map (·.2)) mt mk me)) :=
  cs_setOver (T := fun wi => tDc wi (t.g X.K) (tOf rtB X.K X.mg W0 mt) (tOf rtA X.K X.mg W0 mk) (tOf rtA X.K X.mg W0 me) (own.map (·.2))) k i fs (ps_setDc (tt := tOf rtB X.K X.mg W0 mt) (tk := tOf rtA X.K X.mg W0 mk) (tv := tOf rtA X.K X.mg W0 me) hc hN hy hyl hsw P ok hg ht hk he hs) pok
    fun wi J xs σ α h H env Q run r s wl q => run _ (dc_read lv sub r s wl q)
theorem cs_setLcD (lv : Bool) (k i : Nat) (fs : Path) {j : Nat} {scope : Scope} {own : List (Str × Nat)} (hc : X.calm = true) (hN : X.N.Nodup) (P : PI X tg iter (iT k (tPath X.K i (fs.map (·.1))))) (pok : PathOk X.K X.mg fs) (ok : BlkOk X.N X.env.scope scope own) (sub : ∀ i ∈ t.slots, i ∈ own.map (·.2))
    (hg : ∀ (s : Shared) (H : Hp) (C : Addr) (cl : List (Str × Addr)) (fp : List Addr), PG (X.blk s H scope (compEnvC scope cl C X.env) fp) tg (t.g X.K)) (ht : ∀ (s : Shared) (H : Hp) (C : Addr) (cl : List (Str × Addr)) (fp : List Addr), CTs (X.blk s H scope (compEnvC scope cl C X.env) fp) W0 ifs mt)
    (he : ∀ (s : Shared) (H : Hp) (C : Addr) (cl : List (Str × Addr)) (fp : List Addr), CE (X.blk s H scope (compEnvC scope cl C X.env) fp) W0 elt me)
    (hy : X.N[j]? = some y) (hyl : X.env.scope.names.lookup y = some .local) (hsw : swapsWith (.ListComp elt [⟨tg, iter, ifs, 0⟩] scope pos) (some (.Name y py)) spos.line X.env = pure true) (hs : ∀ x, foldedSetIterable iter X.env x = pure x := by intro _; rfl) :
    CS X W (.Assign [.Name y py] (.ListComp elt [⟨tg, iter, ifs, 0⟩] scope pos) spos) (sAsg (.name j) (eLcD lv k i fs t (own.map (·.2)) mt me)) :=
  cs_setOver (T := fun wi => tLc wi (t.g X.K) (tOf rtB X.K X.mg W0 mt) (tOf rtA X.K X.mg W0 me) (own.map (·.2))) k i fs (ps_setLc (tt := tOf rtB X.K X.mg W0 mt) (te := tOf rtA X.K X.mg W0 me) hc hN hy hyl hsw P ok hg ht he hs) pok
    fun wi J xs σ α h H env Q run r s wl q => run _ (by
      split at q
      · rename_i hl
        exact lc_read lv sub r s wl hl q
      · exact q.elim)
end
end Cl
namespace Cl
open PySem PySem.Spec PyProof.Rows L2
section
open PySem.SeqAt (EqIn)
open AutoSeq1 (wpAny_loadPart')
open MeetsSeq MeetsSeq2 MeetsSeq3 SeqRoads2 SeqAt
variable {prog : Program} {w : World}
abbrev lob (d : Option Addr) (xs : Array Value) (n : Nat) (sl : Array (Option Value)) : Obj := { cls := .type "list", dict := d, data := .seq xs n, slots := sl }
theorem ne_turns {l b : Addr} {xs ys : Array Value} {n m : Nat} {d1 d2 : Option Addr} {s1 s2 : Array (Option Value)} (same : xs.size = ys.size) : ∀ (k i : Nat), xs.size = i + k →
    MeetsIn prog w (Builtin.«list.__eq__.loop» ⟨[.ref l, .ref b, rawInt i, rawInt 3], []⟩) (fun A R s => s.heap.get? l = some (lob d1 xs n s1) ∧ s.heap.get? b = some (lob d2 ys m s2) ∧ (∀ (j : Nat) (h1 : j < xs.size) (h2 : j < ys.size), EqIn prog w A.in1 s xs[j] ys[j] true) ∧ R (.ok (.ret (.bool false))) s)
  | 0, i, e, A, R, s, ⟨a1, a2, _, q⟩ => by
    have x1 : xs[((i : Nat) : Int).toNat]? = none := by rw [Int.toNat_natCast]; exact Array.getElem?_eq_none (by omega)
    have x2 : ys[((i : Nat) : Int).toNat]? = none := by rw [Int.toNat_natCast]; exact Array.getElem?_eq_none (by omega)
    have z : (xs.size != ys.size) = false := by rw [same]; simp
    obtain ⟨hp, g, d, tk, os⟩ := s
    wp_walk using wpAny_loadPart' a1, wpAny_loadPart' a2
    rw [x1, x2]
    wp_walk using wpAny_loadPart' a1, wpAny_loadPart' a2
    show R (.ok (.ret (.bool (xs.size != ys.size)))) _
    rw [z]
    exact q
  | k + 1, i, e, A, R, s, ⟨a1, a2, each, q⟩ => by
    have i1 : i < xs.size := by omega
    have i2 : i < ys.size := by omega
    have x1 : xs[((i : Nat) : Int).toNat]? = some xs[i] := by rw [Int.toNat_natCast]; exact Array.getElem?_eq_getElem i1
    have x2 : ys[((i : Nat) : Int).toNat]? = some ys[i] := by rw [Int.toNat_natCast]; exact Array.getElem?_eq_getElem i2
    have up : ((i : Nat) : Int) + 1 = ((i + 1 : Nat) : Int) := by omega
    have rest := ne_turns (n := n) (m := m) (d1 := d1) (d2 := d2) (s1 := s1) (s2 := s2) same k (i + 1) (by omega) A R s ⟨a1, a2, each, q⟩
    have here := each i i1 i2
    obtain ⟨hp, g, d, tk, os⟩ := s
    wp_walk using wpAny_loadPart' a1, wpAny_loadPart' a2
    rw [x1, x2]
    refine wpAny_bind (here _ _ ?_)
    wp_walk
    rw [up]
    refine ⟨plainId_quiet plain_eq_loop _, codeAny_builtin entry_eq_loop ?_⟩
    rw [Around.under_plainId plain_eq_loop _]
    exact rest
theorem ne_whole {l b : Addr} {xs ys : Array Value} {n m : Nat} {d1 d2 : Option Addr} {s1 s2 : Array (Option Value)} (same : xs.size = ys.size) :
    MeetsIn prog w (Builtin.«list.__ne__» ⟨[.ref l, .ref b], []⟩) (fun A R s => s.heap.get? l = some (lob d1 xs n s1) ∧ s.heap.get? b = some (lob d2 ys m s2) ∧ (∀ (j : Nat) (h1 : j < xs.size) (h2 : j < ys.size), EqIn prog w A.in1 s xs[j] ys[j] true) ∧ R (.ok (.ret (.bool false))) s) := by
  intro A R s ⟨a1, a2, each, q⟩
  have turns := ne_turns (prog := prog) (w := w) (n := n) (m := m) (d1 := d1) (d2 := d2) (s1 := s1) (s2 := s2) same xs.size 0 (by omega) A R s ⟨a1, a2, each, q⟩
  have kind := AutoSeq1.sub_list_list
  have size1 : ¬ (xs.size != ys.size) = true := by rw [same]; simp
  obtain ⟨hp, g, d, tk, os⟩ := s
  wp_walk using wpAny_loadPart' a1, wpAny_loadPart' a2
  refine ⟨plainId_quiet plain_eq_loop _, codeAny_builtin entry_eq_loop ?_⟩
  rw [Around.under_plainId plain_eq_loop _]
  exact turns
theorem ne_lists {A : Around} {s : Shared} {l b : Addr} {xs ys : Array Value} (il : s.heap.IsList l xs) (ib : s.heap.IsList b ys) (same : xs.size = ys.size) (room : A.units < cLine) (each : ∀ (j : Nat) (h1 : j < xs.size) (h2 : j < ys.size), EqIn prog w A.in1 s xs[j] ys[j] true) {E Q : Value → Shared → Prop}
    (q : Q (.bool false) s) : wpAny (model prog w) A (richCompare .NotEq (.ref l) (.ref b)) Q E s := by
  obtain ⟨⟨c1, d1, t1, s1⟩, e1, k1, n, v1⟩ := id il
  obtain ⟨⟨c2, d2, t2, s2⟩, e2, k2, m, v2⟩ := id ib
  obtain rfl : c1 = .type "list" := k1
  obtain rfl : c2 = .type "list" := k2
  obtain rfl : t1 = .seq xs n := v1
  obtain rfl : t2 = .seq ys m := v2
  have ty1 : s.TypeIs (.ref l) "list" := ⟨_, e1, rfl⟩
  have ty2 : s.TypeIs (.ref b) "list" := ⟨_, e2, rfl⟩
  have ans : Value.bool false ≠ Value.notImplemented := fun z => nomatch z
  exact wpAny_richCompare_same_room (op := .NotEq) ty1 ty2 F.slot_list_ne (call_meetsIn F.slot_list_ne ty1 F.entry_list_ne (F.args_list_ne_2 _ _) (ne_whole same) ⟨e1, e2, each, show _ ∧ Q (.bool false) s from ⟨ans, q⟩⟩) room
end
section
variable (K : PySem.W.Frag) (H : Hp)
def Alike (F : V → V → Prop) (x y : V) : Prop :=
  (∃ a b xs ys, x = .ref a ∧ y = .ref b ∧ SqL K H a xs ∧ SqL K H b ys ∧ Paired F xs ys) ∨ (∃ a b xs ys, x = .ref a ∧ y = .ref b ∧ SqT K H a xs ∧ SqT K H b ys ∧ Paired F xs ys) ∨
    ∃ a b ks ls, x = .ref a ∧ y = .ref b ∧ Rd H a (.dK ks) ∧ Rd H b (.dK ls) ∧ ks.length = ls.length ∧ ∀ p ∈ ks, ∃ u, valV ls p.1 = some u ∧ F p.2 u
def VSame : Nat → V → V → Prop
  | 0 => fun _ _ => False
  | n + 1 => fun x y => (x = y ∧ flatB x = true) ∨ Alike K H (VSame n) x y
end
section
open PySem.W (EqTree)
variable {X : Cx} {pins : List (Addr × Obj)} {σ : L2.St} {H : Hp} {s : Shared}
theorem all_true (n : Nat) : ((List.range n).all fun _ => true) = true := List.all_eq_true.mpr fun _ _ => rfl
theorem pair_at {F : V → V → Prop} {G : Value → Value → Prop} (f : ∀ x y v u, F x y → RelV x v → RelV y u → G v u) : ∀ {xs ys : List V} {vs us : List Value}, Paired F xs ys → Vals xs vs → Vals ys us → vs.length = us.length ∧ ∀ (j : Nat) (h1 : j < vs.toArray.size) (h2 : j < us.toArray.size), G vs.toArray[j] us.toArray[j]
  | _, _, _, _, .nil, .nil, .nil => ⟨rfl, fun j h => absurd h (Nat.not_lt_zero j)⟩
  | _, _, _, _, .cons z t, .cons r1 t1, .cons r2 t2 => by
    obtain ⟨e, k⟩ := pair_at f t t1 t2
    refine ⟨congrArg (· + 1) e, fun j h1 h2 => ?_⟩
    cases j with
    | zero => exact f _ _ _ _ z r1 r2
    | succ j => exact k j (by simpa using h1) (by simpa using h2)
theorem dict_at (I : Inv X pins σ H s) {a : Addr} {ks : List (Key × V)} (d : Rd H a (.dK ks)) : (a == sysModules) = false ∧ ∃ va, KV ks va ∧ s.heap.DictOf (mixKind X.prog X.w) a va :=
  let ⟨_, y, va, r, o⟩ := (show ObjOk X.prog X.w H s.heap a (.dK ks) from d.ok I.hok)
  ⟨y, va, r, o⟩
theorem kv_len {ks : List (Key × V)} {va : List (Key × Value)} (r : KV ks va) : ks.length = va.length := Paired.length r
theorem kv_at {F : V → V → Prop} {G : Value → Value → Prop} (f : ∀ x y v u, F x y → RelV x v → RelV y u → G v u) {ks ls : List (Key × V)} {va vb : List (Key × Value)} (ra : KV ks va) (rb : KV ls vb) (h : ∀ p ∈ ks, ∃ u, valV ls p.1 = some u ∧ F p.2 u) :
    (va.all fun p => (valueAt vb p.1).isSome && true) = true ∧ ∀ (k : Key) (v y : Value), (k, v) ∈ va → valueAt vb k = some y → G v y := by
  have look : ∀ (p : Key × Value), p ∈ va → ∃ y, valueAt vb p.1 = some y ∧ G p.2 y := by
    unfold KV at ra
    induction ra with
    | nil => intro p hp; cases hp
    | @cons p q ps qs e t ih =>
      intro z hz
      rcases List.mem_cons.mp hz with hz | hz
      · obtain ⟨u, e1, fu⟩ := h p List.mem_cons_self
        have ro : RelO (some u) (valueAt vb p.1) := e1 ▸ rb.val p.1
        obtain ⟨y, e2, ry⟩ := ro.some_of
        obtain ⟨k1, k2⟩ := e
        rw [hz, ← (show p.1 = q.1 from k1)]
        exact ⟨y, e2, f _ _ _ _ fu k2 ry⟩
      · exact ih (fun p hp => h p (List.mem_cons_of_mem _ hp)) z hz
  refine ⟨List.all_eq_true.mpr fun p hp => ?_, fun k v y hm e => ?_⟩
  · obtain ⟨y, e, _⟩ := look p hp
    rw [e]; rfl
  · obtain ⟨y2, e2, g⟩ := look (k, v) hm
    rw [show valueAt vb k = some y2 from e2] at e
    cases e
    exact g
theorem same_tree (I : Inv X pins σ H s) : ∀ (n : Nat) (x y : V) (v u : Value), VSame X.K H n x y → RelV x v → RelV y u → EqTree X.prog X.w s n v u true
  | 0, _, _, _, _, h, _, _ => (show False from h).elim
  | n + 1, x, y, v, u, h, rx, ry => by
    have below := same_tree I n
    rcases h with ⟨rfl, fl⟩ | ⟨a, b, xs, ys, rfl, rfl, ha, hb, pr⟩ | ⟨a, b, xs, ys, rfl, rfl, ha, hb, pr⟩ | ⟨a, b, ks, ls, rfl, rfl, ha, hb, len, pr⟩
    · exact .leaf fun A _ => eqAt_same rx ry fl
    all_goals
      obtain rfl : v = Value.ref a := rx
      obtain rfl : u = Value.ref b := ry
      by_cases ab : a = b
      · exact ab ▸ .same
    · obtain ⟨vs, r1, p1, _⟩ := I.list ha
      obtain ⟨us, r2, p2, _⟩ := I.list hb
      obtain ⟨size, each⟩ := pair_at (G := fun v u => EqTree X.prog X.w s n v u true) below pr r1 r2
      have := EqTree.lists (prog := X.prog) (w := X.w) (e := fun _ => true) ab p1.isList p2.isList (by simpa using size) each
      rwa [all_true] at this
    · obtain ⟨vs, r1, p1, _⟩ := I.tuple ha
      obtain ⟨us, r2, p2, _⟩ := I.tuple hb
      obtain ⟨size, each⟩ := pair_at (G := fun v u => EqTree X.prog X.w s n v u true) below pr r1 r2
      have := EqTree.tuples (prog := X.prog) (w := X.w) (e := fun _ => true) ab (show s.heap.IsTuple a vs.toArray from p1) (show s.heap.IsTuple b us.toArray from p2) each
      have len : (vs.toArray.size == us.toArray.size) = true := by simpa using size
      rwa [all_true, len] at this
    · obtain ⟨y1, va, ra, d1⟩ := dict_at I ha
      obtain ⟨y2, vb, rb, d2⟩ := dict_at I hb
      obtain ⟨all, each⟩ := kv_at (G := fun v u => EqTree X.prog X.w s n v u true) below ra rb pr
      have := EqTree.dicts (prog := X.prog) (w := X.w) (e := fun _ => true) ab y1 y2 d1 d2 each
      have len : (va.length == vb.length) = true := by rw [← kv_len ra, ← kv_len rb, len]; exact beq_self_eq_true _
      rwa [all, len] at this
def rSame (K : PySem.W.Frag) : R2 := fun x y H Q => ∃ n, n ≤ 50 ∧ Alike K H (VSame K H n) x y ∧ Q (.bl true) H
def rSameN (K : PySem.W.Frag) : R2 := fun x y H Q => ∃ n, n ≤ 50 ∧ (∃ a b xs ys, x = .ref a ∧ y = .ref b ∧ SqL K H a xs ∧ SqL K H b ys ∧ Paired (VSame K H n) xs ys) ∧ Q (.bl false) H
theorem op_eqS (room : X.A.units + 64 < cLine) : OpR X (compareOp .Eq) (rSame X.K) := by
  rintro pins s σ H x y v u Q I rx ry ⟨n, hn, al, q⟩
  have deep : X.A.units + (n + 1) < cLine := by omega
  have below := same_tree I n
  rcases al with ⟨a, b, xs, ys, rfl, rfl, ha, hb, pr⟩ | ⟨a, b, xs, ys, rfl, rfl, ha, hb, pr⟩ | ⟨a, b, ks, ls, rfl, rfl, ha, hb, len, pr⟩
  all_goals
    obtain rfl : v = Value.ref a := rx
    obtain rfl : u = Value.ref b := ry
  · obtain ⟨vs, r1, p1, _⟩ := I.list ha
    obtain ⟨us, r2, p2, _⟩ := I.list hb
    obtain ⟨size, each⟩ := pair_at (G := fun v u => EqTree X.prog X.w s n v u true) below pr r1 r2
    exact PySem.W.eq_listsT (e := fun _ => true) p1.isList p2.isList (by simpa using size) each deep ⟨.bl true, H, I, by rw [all_true]; rfl, q⟩
  · obtain ⟨vs, r1, p1, _⟩ := I.tuple ha
    obtain ⟨us, r2, p2, _⟩ := I.tuple hb
    obtain ⟨size, each⟩ := pair_at (G := fun v u => EqTree X.prog X.w s n v u true) below pr r1 r2
    have len : (vs.toArray.size == us.toArray.size) = true := by simpa using size
    exact PySem.W.eq_tuplesT (e := fun _ => true) (show s.heap.IsTuple a vs.toArray from p1) (show s.heap.IsTuple b us.toArray from p2) each deep ⟨.bl true, H, I, by rw [all_true, len]; rfl, q⟩
  · obtain ⟨y1, va, ra, d1⟩ := dict_at I ha
    obtain ⟨y2, vb, rb, d2⟩ := dict_at I hb
    obtain ⟨all, each⟩ := kv_at (G := fun v u => EqTree X.prog X.w s n v u true) below ra rb pr
    have len : (va.length == vb.length) = true := by rw [← kv_len ra, ← kv_len rb, len]; exact beq_self_eq_true _
    exact PySem.W.eq_dictsT (e := fun _ => true) y1 y2 d1 d2 each deep ⟨.bl true, H, I, by rw [all, len]; rfl, q⟩
theorem op_neS (room : X.A.units + 64 < cLine) : OpR X (compareOp .NotEq) (rSameN X.K) := by
  rintro pins s σ H x y v u Q I rx ry ⟨n, hn, ⟨a, b, xs, ys, rfl, rfl, ha, hb, pr⟩, q⟩
  obtain rfl : v = Value.ref a := rx
  obtain rfl : u = Value.ref b := ry
  obtain ⟨vs, r1, p1, _⟩ := I.list ha
  obtain ⟨us, r2, p2, _⟩ := I.list hb
  obtain ⟨size, each⟩ := pair_at (G := fun v u => EqTree X.prog X.w s n v u true) (same_tree I n) pr r1 r2
  have deep : X.A.in1.units + n < cLine := by show X.A.units + 1 + n < cLine; omega
  exact ne_lists p1.isList p2.isList (by simpa using size) (by omega) (fun j h1 h2 => (each j h1 h2).at X.A.in1 deep) ⟨.bl false, H, I, rfl, q⟩
end
end Cl
namespace Cl
open PySem PySem.Spec PyProof.Rows L2
def sameF : A → A → Bool
  | .non, .non => true
  | .bl a, .bl b => a == b
  | .int a, .int b => decide (a = b)
  | .str a, .str b => decide (a = b)
  | _, _ => false
def sameL (f : A → A → Bool) : List A → List A → Bool
  | [], [] => true
  | a :: r, b :: t => f a b && sameL f r t
  | _, _ => false
def sameD (f : A → A → Bool) (ks ls : List (A × A)) : Bool := decide (ks.length = ls.length) && ks.all fun p => match kvGet ls p.1 with
  | some u => f p.2 u
  | none => false
inductive Shp where
  | l (xs : List A) | t (xs : List A) | d (ks : List (A × A))
def shpA : A → Option Shp
  | .tup xs => some (.t xs)
  | .lst xs => some (.l xs)
  | .scr xs => some (.l xs)
  | .dct ks => some (.d ks)
  | _ => none
def shp (h : AH) : A → Option Shp
  | .ref n => match h[n]? with
    | some (some (.lst xs)) => some (.l xs)
    | some (some (.dct ks)) => some (.d ks)
    | _ => none
  | a => shpA a
def alikeA (f : A → A → Bool) : Option Shp → Option Shp → Bool
  | some (.l xs), some (.l ys) => sameL f xs ys
  | some (.t xs), some (.t ys) => sameL f xs ys
  | some (.d xs), some (.d ys) => sameD f xs ys
  | _, _ => false
def sameA : Nat → A → A → Bool
  | 0, _, _ => false
  | n + 1, a, b => sameF a b || alikeA (sameA n) (shpA a) (shpA b)
def vSame : F2 := fun a b h => if alikeA (sameA 40) (shp h a) (shp h b) then .ok (.bl true) h else .bad
def vSameN : F2 := fun a b h => match shp h a, shp h b with
  | some (.l xs), some (.l ys) => if sameL (sameA 40) xs ys then .ok (.bl false) h else .bad
  | _, _ => .bad
section
variable {K : PySem.W.Frag} {mg : Str → Option Value} {α : Al} {L : Addr → Prop} {H : Hp} {h : AH}
def ShpOk (K : PySem.W.Frag) (mg : Str → Option Value) (α : Al) (L : Addr → Prop) (H : Hp) (v : V) : Shp → Prop
  | .l xs => ∃ p vs, v = .ref p ∧ SqL K H p vs ∧ RAs K mg α L H vs xs
  | .t xs => ∃ p vs, v = .ref p ∧ SqT K H p vs ∧ RAs K mg α L H vs xs
  | .d xs => ∃ p vs, v = .ref p ∧ Rd H p (.dK vs) ∧ RKs K mg α L H vs xs
theorem RA.shp {v : V} {a : A} {z : Shp} (r : RA K mg α L H v a) (e : shpA a = some z) : ShpOk K mg α L H v z := by
  cases r <;> first | (simp only [shpA] at e; cases e; done) | skip
  · simp only [shpA] at e; cases e
    rename_i h1 h2
    exact ⟨_, _, rfl, h1.sq, h2⟩
  · simp only [shpA] at e; cases e
    rename_i h1 h2 h3
    exact ⟨_, _, rfl, .inl (.inl h1), h3⟩
  · simp only [shpA] at e; cases e
    rename_i h1 h3
    exact ⟨_, _, rfl, h1.sq, h3⟩
  · simp only [shpA] at e; cases e
    rename_i h1 h2 h3
    exact ⟨_, _, rfl, h1, h3⟩
theorem Rel.shp (r : Rel K mg α h H) {v : V} {a : A} {z : Shp} (ra : RA K mg α (Lv α h) H v a) (e : shp h a = some z) : ShpOk K mg α (Lv α h) H v z := by
  unfold Cl.shp at e
  split at e
  · cases ra with
    | ref ep =>
      split at e
      · rename_i e1
        cases e
        cases r.obj e1 ep with
        | lst h1 h2 => exact ⟨_, _, rfl, .inl (.inl h1), h2⟩
      · rename_i e1
        cases e
        cases r.obj e1 ep with
        | dct h1 h2 => exact ⟨_, _, rfl, .inl h1, h2⟩
      · cases e
  · exact ra.shp e
theorem RA.sameF {v u : V} {a b : A} (r : RA K mg α L H v a) (t : RA K mg α L H u b) (e : sameF a b = true) : v = u ∧ flatB v = true := by
  cases r <;> cases t <;> simp only [Cl.sameF, Bool.false_eq_true, beq_iff_eq, decide_eq_true_eq] at e <;> first | (subst e; exact ⟨rfl, rfl⟩) | exact ⟨rfl, rfl⟩
theorem RAs.sameL {f : A → A → Bool} {F : V → V → Prop} (k : ∀ v u a b, RA K mg α L H v a → RA K mg α L H u b → f a b = true → F v u) : ∀ {vs us : List V} {xs ys : List A}, RAs K mg α L H vs xs → RAs K mg α L H us ys → sameL f xs ys = true → Paired F vs us
  | _, _, _, _, .nil, .nil, _ => .nil
  | _, _, _, _, .cons r1 t1, .cons r2 t2, e => by
    unfold Cl.sameL at e
    rw [Bool.and_eq_true] at e
    exact .cons (k _ _ _ _ r1 r2 e.1) (RAs.sameL k t1 t2 e.2)
  | _, _, _, _, .nil, .cons _ _, e => by unfold Cl.sameL at e; cases e
  | _, _, _, _, .cons _ _, .nil, e => by unfold Cl.sameL at e; cases e
theorem RKs.memK : ∀ {vs : List (Key × V)} {xs : List (A × A)} {p : Key × V}, RKs K mg α L H vs xs → p ∈ vs → ∃ a, (keyA p.1, a) ∈ xs ∧ RA K mg α L H p.2 a
  | _, _, _, .cons r t, z => by
    rcases List.mem_cons.mp z with y | y
    · exact y ▸ ⟨_, List.mem_cons_self, r⟩
    · obtain ⟨a, m, ra⟩ := RKs.memK t y
      exact ⟨a, List.mem_cons_of_mem _ m, ra⟩
theorem alike_read {f : A → A → Bool} {F : V → V → Prop} (k : ∀ v u a b, RA K mg α L H v a → RA K mg α L H u b → f a b = true → F v u) {v u : V} {y z : Shp} (r : ShpOk K mg α L H v y) (t : ShpOk K mg α L H u z) (e : alikeA f (some y) (some z) = true) : Alike K H F v u := by
  cases y <;> cases z <;> first | (simp only [alikeA] at e; cases e; done) | skip
  · obtain ⟨p, vs, rfl, s1, r1⟩ := r
    obtain ⟨q, us, rfl, s2, r2⟩ := t
    exact .inl ⟨_, _, _, _, rfl, rfl, s1, s2, r1.sameL k r2 e⟩
  · obtain ⟨p, vs, rfl, s1, r1⟩ := r
    obtain ⟨q, us, rfl, s2, r2⟩ := t
    exact .inr (.inl ⟨_, _, _, _, rfl, rfl, s1, s2, r1.sameL k r2 e⟩)
  · obtain ⟨p, vs, rfl, s1, r1⟩ := r
    obtain ⟨q, us, rfl, s2, r2⟩ := t
    simp only [alikeA, sameD, Bool.and_eq_true, decide_eq_true_eq] at e
    refine .inr (.inr ⟨_, _, _, _, rfl, rfl, s1, s2, by rw [r1.length, r2.length]; exact e.1, fun z hz => ?_⟩)
    obtain ⟨a, m, ra⟩ := r1.memK hz
    have g := List.all_eq_true.mp e.2 _ m
    have ro := r2.get (k := z.1)
    split at g
    · rename_i u hu
      rw [hu] at ro
      cases hv : valV us z.1 with
      | none => rw [hv] at ro; cases ro
      | some w =>
        rw [hv] at ro
        cases ro with
        | some rw1 => exact ⟨w, rfl, k _ _ _ _ ra rw1 g⟩
    · cases g
theorem RA.same : ∀ (n : Nat) (v u : V) (a b : A), RA K mg α L H v a → RA K mg α L H u b → sameA n a b = true → VSame K H n v u
  | 0, _, _, _, _, _, _, e => by unfold sameA at e; cases e
  | n + 1, v, u, a, b, r, t, e => by
    unfold sameA at e
    rw [Bool.or_eq_true] at e
    rcases e with e | e
    · exact .inl (r.sameF t e)
    · cases ha : shpA a with
      | none => rw [ha] at e; simp only [alikeA] at e; cases e
      | some y =>
        cases hb : shpA b with
        | none => rw [ha, hb] at e; cases y <;> (simp only [alikeA] at e; cases e)
        | some z =>
          rw [ha, hb] at e
          exact .inr (alike_read (RA.same n) (r.shp ha) (t.shp hb) e)
end
theorem ab_same {X : Cx} : Ab2 X.K X.mg (rSame X.K) vSame := by
  intro W σ α h H x y a b Q r ra rb q
  unfold vSame at q
  split at q
  · rename_i e
    cases ha : shp h a with
    | none => rw [ha] at e; simp only [alikeA] at e; cases e
    | some z1 =>
      cases hb : shp h b with
      | none => rw [ha, hb] at e; cases z1 <;> (simp only [alikeA] at e; cases e)
      | some z2 =>
        rw [ha, hb] at e
        exact ⟨40, by decide, alike_read (RA.same 40) (r.shp ra ha) (r.shp rb hb) e, post_ok q r (.bl _)⟩
  · exact q.elim
theorem ab_sameN {X : Cx} : Ab2 X.K X.mg (rSameN X.K) vSameN := by
  intro W σ α h H x y a b Q r ra rb q
  unfold vSameN at q
  split at q
  · rename_i xs ys ha hb
    split at q
    · rename_i e
      obtain ⟨p, vs, rfl, s1, r1⟩ := r.shp ra ha
      obtain ⟨p2, us, rfl, s2, r2⟩ := r.shp rb hb
      exact ⟨40, by decide, ⟨p, p2, vs, us, rfl, rfl, s1, s2, r1.sameL (RA.same 40) r2 e⟩, post_ok q r (.bl _)⟩
    · exact q.elim
  · exact q.elim
end Cl
namespace Cl
open PySem PySem.Spec PyProof.Rows L2 GenW
section
variable {M : Model} {A : Around} {R : GenEnd} {Y : Protocol} {n : Nat} {s₀ s : Shared} {c : Code} {fs : List Frame}
theorem seg_step {α β : Type} {m : Sem α} {f : α → Sem β} {K : β → Sem PySem.Fin} {J : Value → Sem PySem.Fin} {gd : Bool → Bool} {lv : List Value → List Value}
    (h : wpAny M (A.over c fs) m (fun a s' => Seg M A R Y n s₀ c ((f a).wrap K J gd lv) fs s') (fun e s' => Seg M A R Y n s₀ c (J e) fs s') s) : Seg M A R Y n s₀ c ((m >>= f).wrap K J gd lv) fs s := by
  rw [Sem.bind_eq_wrap', Sem.wrap_wrap]
  exact seg_wrap h
end
def tGFor (wi : TI) (g : TG) (tb : TGn) : TGn := fun D ys σ H => wi σ H fun J H2 => ∃ W : Nat → Nat → List V → L2.St → Hp → Prop, (∃ m, W 0 m ys σ H2) ∧ ∀ i m ys σ H, W i m ys σ H → (J.stop i H ∧ D.nx ys σ H) ∨
  (J.go i H ∧ ∃ N : List V → L2.St → Hp → Prop, (∀ ys' σ' H', N ys' σ' H' → ∃ m', m' < m ∧ W (i + 1) m' ys' σ' H') ∧ ∀ x H', J.yld i H x H' → g x σ H' fun σ2 H2 => tb { D with nx := N, ct := N, bk := D.nx } ys σ2 H2)
section
variable {X : Cx} {tg iter : Expr} {body : List Stmt} {wi : TI} {g : TG} {tb : TGn} {pos : Pos}
theorem gs_for (hp : PassesOwn (model X.prog X.w) X.A X.env X.xe) (hc : X.calm = true) (hi : PI X tg iter wi) (hg : PG X tg g) (hb : GSs X body tb) (hs : ∀ x, foldedSetIterable iter X.env x = pure x := by intro _; rfl) : GS X (.For tg iter body [] pos) (tGFor wi g tb) := by
  constructor
  intro A S ip R n ys s₀ c fs K J gd lv s σ H D at1 hn k gi asks
  obtain ⟨acc0, c0, rel0, I⟩ := gi
  have lost : ∀ (e : Value) (s' : Shared), X.xe e s' → Seg (model X.prog X.w) A R (GY X S) n s₀ c (J e) fs s' := fun e s' x => k.exc n s₀ e s' x
  rw [exec_For]
  refine seg_step (wpAny_standAt (seg_step ?_))
  rw [at1.over]
  refine wpAny_mono (hi.run _ s σ H _ I asks) (fun v s1 begun => ?_) lost
  refine seg_step ?_
  rw [hs v, at1.over]
  refine wpAny_pure (seg_step (wpAny_standAt (seg_step ?_)))
  rw [at1.over]
  refine wpAny_holding (wpAny_mono begun (fun itv s2 z => ?_) lost)
  obtain ⟨it, fp, tn, Jt, H2, rfl, I2, T, st2, free2, W, ⟨m0, w0⟩, turn⟩ := z
  have apartS : ∀ b ∈ fp, S ≠ b := fun b hb => (free2 b hb).2.2.2.2.2 (S, lstObj acc0 c0) (List.mem_append_right _ List.mem_cons_self)
  have still : ∀ {acc : Array Value} {cc : Nat} {H' : Hp}, (∀ b ∈ fp, H' b = none) → ∀ b ∈ fp, FpOk X ((S, lstObj acc cc) :: ip) H' b := fun {acc cc H'} none1 b hb => by
    obtain ⟨_, f1, f2, f3, f4, f5⟩ := free2 b hb
    refine ⟨none1 b hb, f1, f2, f3, f4, fun p hm => ?_⟩
    rcases List.mem_append.mp hm with z | z
    · exact f5 p (List.mem_append_left _ z)
    · rcases List.mem_cons.mp z with y | y
      · rw [y]; exact apartS b hb
      · exact f5 p (List.mem_append_right _ (List.mem_cons_of_mem _ y))
  refine seg_call fun p => ?_
  have at2 := fun (kk : Result → Sem PySem.Fin) => gc_loop (k := kk) (c' := .forLoop tg (.ref it) body [] X.env) (l := lv []) (kp := []) (p := p) at1 rfl rfl
  have loop : ∀ (m i n : Nat) (ys : List V) (s₀ s : Shared) (σ : L2.St) (H : Hp), n + ys.length = sizeLine → W i m ys σ H → GI X S ip ys σ H s → tn i s.heap → (∀ b ∈ fp, H b = none) →
      Seg (model X.prog X.w) A R (GY X S) n s₀ (.forLoop tg (.ref it) body [] X.env) ((model X.prog X.w).den (.forLoop tg (.ref it) body [] X.env))
        (.ret (fun r => ((match r with | .ok f => (.pure f : Sem Flow) | .error e => .raise e).onRaise (cameBack X.env)).wrap K J gd lv) none (gd false) (lv []) c p [] :: fs) s := by
    intro m
    induction m using Nat.strongRecOn with
    | ind m ih =>
      intro i n ys s₀ s σ H hn w gi st none1
      have gone : ∀ (n : Nat) (s₀ : Shared) (e : Value) (s' : Shared), X.xe e s' → Seg (model X.prog X.w) A R (GY X S) n s₀ (.forLoop tg (.ref it) body [] X.env) ((do noteFrame e X.env; theTreesLotGoes e : Sem Unit).bind fun _ => .raise e)
          (.ret (fun r => ((match r with | .ok f => (.pure f : Sem Flow) | .error e => .raise e).onRaise (cameBack X.env)).wrap K J gd lv) none (gd false) (lv []) c p [] :: fs) s' := fun n s₀ e s' x => by
        refine seg_bind ?_
        rw [(at2 _).over]
        refine wpAny_bind (wpAny_mono (hp e s' x) (fun _ s2 back => wpAny_theTreesLotGoes ?_) fun y s2 back => ?_)
        · exact seg_leaf (.error e) (seg_cameBack at1 k back)
        · exact seg_leaf (.error y) (seg_cameBack at1 k back)
      obtain ⟨acc, cc, rel, I⟩ := gi
      show Seg _ _ _ _ _ _ _ ((forTurn tg (.ref it) body [] X.env).onRaise (fun x => do noteFrame x X.env; theTreesLotGoes x)) _ _
      rw [Sem.onRaise_eq_wrap]
      unfold forTurn
      refine seg_step (wpAny_standAt (seg_step ?_))
      rw [(at2 _).over]
      rcases turn i m ys σ H w with ⟨stop, q⟩ | ⟨go, N, down, step⟩
      · refine wpAny_onRaise (wpAny_mono (T.done X rfl rfl rfl hc i _ s σ H X.xe I (still none1) st stop) (fun r s2 z => ?_) fun e s2 x => wpAny_standAt (gone n s₀ e s2 x))
        obtain ⟨rfl, I2⟩ := z
        refine seg_again rfl ?_
        exact seg_leaf (.ok .next) (k.ok n ys s₀ s2 .next hn ⟨σ, H, ⟨acc, cc, rel, I2⟩, q⟩)
      · refine wpAny_onRaise (wpAny_mono (T.item X rfl rfl rfl hc i _ s σ H X.xe I (still none1) st go) (fun r s2 z => ?_) fun e s2 x => wpAny_standAt (gone n s₀ e s2 x))
        obtain ⟨u, rfl, own⟩ := z
        refine seg_step ?_
        rw [(at2 _).over]
        refine wpAny_mono own (fun _ s3 z => ?_) fun e s3 x => gone n s₀ e s3 x
        obtain ⟨x, H3, I3, ru, yld, st3, none3⟩ := z
        have I3' := I3.pinned (still none3) (T.obj _ _ st3)
        refine seg_step ?_
        rw [(at2 _).over]
        refine wpAny_mono (hg.run _ s3 σ H3 x u _ I3' ru (step x H3 yld)) (fun _ s4 z => ?_) fun e s4 x => gone n s₀ e s4 x
        obtain ⟨σ4, H4, I4, q⟩ := z
        rw [Sem.bind_eq_wrap', Sem.wrap_wrap]
        have at3 : GC X S (ip ++ pinsAt fp s3.heap) A (.forLoop tg (.ref it) body [] X.env) (.ret (fun r => ((match r with | .ok f => (.pure f : Sem Flow) | .error e => .raise e).onRaise (cameBack X.env)).wrap K J gd lv) none (gd false) (lv []) c p [] :: fs) id :=
          ⟨at1.pn, fun p hm => (List.mem_append.mp hm).elim (at1.ip p) fun z => Ne.symm (apartS p.1 (of_pinsAt z).1), at1.apart, (at2 _).over, (at2 _).split, (at2 _).guard, rfl⟩
        have pins : ((S, lstObj acc cc) :: ip) ++ pinsAt fp s3.heap = (S, lstObj acc cc) :: (ip ++ pinsAt fp s3.heap) := rfl
        rw [pins] at I4
        have back : ∀ {ys' : List V} {σ' : L2.St} {H' : Hp} {s' : Shared}, GI X S (ip ++ pinsAt fp s3.heap) ys' σ' H' s' → GI X S ip ys' σ' H' s' ∧ tn (i + 1) s'.heap ∧ ∀ b ∈ fp, H' b = none := by
          rintro ys' σ' H' s' ⟨acc', cc', rel', J'⟩
          have pin : ∀ (b : Addr) (o : Obj), b ∈ fp → s3.heap.get? b = some o → s'.heap.get? b = some o ∧ H' b = none := fun b o hb e => by
            have z := J'.pin (b, o) (List.mem_append_right _ (List.mem_cons_of_mem _ (List.mem_append_right _ (mem_pinsAt hb e))))
            exact ⟨z.1, z.2.1⟩
          refine ⟨⟨acc', cc', rel', Inv.unpinned (pl := pinsAt fp s3.heap) (show Inv X (((S, lstObj acc' cc') :: ip) ++ pinsAt fp s3.heap) σ' H' s' from J')⟩, T.keep _ _ _ st3 fun b hb o e => (pin b o hb e).1, fun b hb => ?_⟩
          obtain ⟨o, e, _⟩ := T.obj _ _ st3 b hb
          exact (pin b o hb e).2
        refine hb.run A S (ip ++ pinsAt fp s3.heap) R n ys s₀ _ _ _ _ id id s4 σ4 H4 { D with nx := N, ct := N, bk := D.nx } at3 hn ⟨fun n' ys' s' s5 f hn' z => ?_, fun n' s' e s5 x => gone n' s' e s5 x⟩ ⟨acc, cc, rel, I4⟩ q
        have again : ∀ {σ5 : L2.St} {H5 : Hp}, GI X S (ip ++ pinsAt fp s3.heap) ys' σ5 H5 s5 → N ys' σ5 H5 → Seg (model X.prog X.w) A R (GY X S) n' s' (.forLoop tg (.ref it) body [] X.env) (.pure (.again (.forLoop tg (.ref it) body [] X.env)))
            (.ret (fun r => ((match r with | .ok f => (.pure f : Sem Flow) | .error e => .raise e).onRaise (cameBack X.env)).wrap K J gd lv) none (gd false) (lv []) c p [] :: fs) s5 := fun gi5 n5 => by
          obtain ⟨m', lt, w5⟩ := down _ _ _ n5
          obtain ⟨b1, b2, b3⟩ := back gi5
          exact seg_again rfl (ih m' lt (i + 1) n' ys' s' s5 _ _ hn' w5 b1 b2 b3)
        cases f with
        | next => obtain ⟨σ5, H5, gi5, n5⟩ := z; exact again gi5 n5
        | cont => obtain ⟨σ5, H5, gi5, n5⟩ := z; exact again gi5 n5
        | brk =>
          obtain ⟨σ5, H5, gi5, q5⟩ := z
          exact seg_leaf (.ok .next) (k.ok n' ys' s' s5 .next hn' ⟨σ5, H5, (back gi5).1, q5⟩)
        | ret v =>
          obtain ⟨x5, σ5, H5, gi5, r5, q5⟩ := z
          exact seg_leaf (.ok (.ret v)) (k.ok n' ys' s' s5 (.ret v) hn' ⟨x5, σ5, H5, (back gi5).1, r5, q5⟩)
  exact loop m0 0 n ys s₀ s2 σ H2 hn w0 ⟨acc0, c0, rel0, I2⟩ st2 fun b hb => (free2 b hb).1
end
end Cl
namespace Cl
open PySem PySem.Spec PyProof.Rows L2
inductive SRG where
  | nx (ys : List A) (env : Env) (h : AH) | rt (ys : List A) (h : AH) | bk (ys : List A) (env : Env) (h : AH) | ct (ys : List A) (env : Env) (h : AH) | bad
abbrev MGS := List A → Env → AH → SRG
section
variable (K : PySem.W.Frag) (mg : Str → Option Value) (α : Al) (h : AH) (H : Hp)
def PoG (ys : List A) (env' : Env) (h' : AH) (Q : List V → L2.St → Hp → Prop) : Prop := ∀ α' H' σ' us, Rel K mg α' h' H' → Stp α h H α' h' H' → SR K mg α' (Lv α' h') H' σ' env' → RAs K mg α' (Lv α' h') H' us ys → Q us σ' H'
def PostG (r : SRG) (D : GEnds) : Prop := match r with
  | .nx ys env' h' => PoG K mg α h H ys env' h' D.nx
  | .bk ys env' h' => PoG K mg α h H ys env' h' D.bk
  | .ct ys env' h' => PoG K mg α h H ys env' h' D.ct
  | .rt ys h' => ∀ α' H' us, Rel K mg α' h' H' → Stp α h H α' h' H' → RAs K mg α' (Lv α' h') H' us ys → D.rt us .non H'
  | .bad => False
end
def tG (K : PySem.W.Frag) (mg : Str → Option Value) (m : MGS) : TGn := fun D us σ H => ∃ α h env ys, Rel K mg α h H ∧ SR K mg α (Lv α h) H σ env ∧ RAs K mg α (Lv α h) H us ys ∧ PostG K mg α h H (m ys env h) D
def CG (X : Cx) (st : Stmt) (m : MGS) : Prop := GS X st (tG X.K X.mg m)
def CGs (X : Cx) (st : List Stmt) (m : MGS) : Prop := GSs X st (tG X.K X.mg m)
def gNext : MGS := fun ys env h => .nx ys env h
def gSeq (a b : MGS) : MGS := fun ys env h => match a ys env h with
  | .nx ys env h => b ys env h
  | r => r
def gPlain (m : MS) : MGS := fun ys env h => match m env h with
  | .nx env h => .nx ys env h
  | .bk env h => .bk ys env h
  | .ct env h => .ct ys env h
  | .rt a h => if isNon a then .rt ys h else .bad
  | _ => .bad
def gYield (ma : M A) : MGS := fun ys env h => match ma env h with
  | .ok a h => if ys.length < lim then .nx (ys ++ [a]) env h else .bad
  | _ => .bad
def forG (t : Tg) (b : MGS) : List A → MGS
  | [], ys, env, h => .nx ys env h
  | x :: r, ys, env, h => match t.put x env with
    | none => .bad
    | some env => match b ys env h with
      | .nx ys env h => forG t b r ys env h
      | .ct ys env h => forG t b r ys env h
      | .bk ys env h => .nx ys env h
      | z => z
def gFor (t : Tg) (mi : M (List A)) (b : MGS) : MGS := fun ys env h => match mi env h with
  | .ok xs h => forG t b xs ys env h
  | _ => .bad
section
variable {X : Cx} {K : PySem.W.Frag} {mg : Str → Option Value} {α α' : Al} {h h' : AH} {H H' : Hp}
theorem PoG.rebase {ys : List A} {env' : Env} {h2 : AH} {Q : List V → L2.St → Hp → Prop} (s : Stp α h H α' h' H') (p : PoG K mg α h H ys env' h2 Q) : PoG K mg α' h' H' ys env' h2 Q := fun a b c u d e f g => p a b c u d (s.trans e) f g
theorem PostG.rebase {r : SRG} {D : GEnds} (s : Stp α h H α' h' H') (p : PostG K mg α h H r D) : PostG K mg α' h' H' r D := by
  cases r with
  | nx ys e h1 => exact PoG.rebase s p
  | bk ys e h1 => exact PoG.rebase s p
  | ct ys e h1 => exact PoG.rebase s p
  | rt ys h1 => exact fun α2 H2 us a b c => p α2 H2 us a (s.trans b) c
  | bad => exact p
theorem postg_nx {ys : List A} {us : List V} {env : Env} {D : GEnds} {σ : L2.St} (p : PostG K mg α h H (.nx ys env h) D) (r : Rel K mg α h H) (s : SR K mg α (Lv α h) H σ env) (o : RAs K mg α (Lv α h) H us ys) : D.nx us σ H := p α H σ us r .refl s o
theorem GS.imp {st : Stmt} {t t' : TGn} (p : GS X st t) (i : ∀ D us σ H, t' D us σ H → t D us σ H) : GS X st t' := ⟨fun a b c d e f g hh ii j k l m n o q D r s u v z => p.run a b c d e f g hh ii j k l m n o q D r s u v (i _ _ _ _ z)⟩
theorem GSs.imp {st : List Stmt} {t t' : TGn} (p : GSs X st t) (i : ∀ D us σ H, t' D us σ H → t D us σ H) : GSs X st t' := ⟨fun a b c d e f g hh ii j k l m n o q D r s u v z => p.run a b c d e f g hh ii j k l m n o q D r s u v (i _ _ _ _ z)⟩
theorem cgs_nil : CGs X [] gNext := GSs.imp gss_nil fun D us σ H ⟨α, h, env, ys, r, s, o, q⟩ => postg_nx q r s o
theorem cgs_cons {st : Stmt} {rest : List Stmt} {a b : MGS} (p : CG X st a) (q : CGs X rest b) : CGs X (st :: rest) (gSeq a b) :=
  GSs.imp (gss_cons p q) fun D us σ H ⟨α, h, env, ys, r, s, o, x⟩ => ⟨α, h, env, ys, r, s, o, by
    unfold gSeq at x
    cases e : a ys env h with
    | nx ys1 e1 h1 =>
      rw [e] at x
      exact fun α' H' σ' us' r' s' sr' o' => ⟨α', h1, e1, ys1, r', sr', o', PostG.rebase s' x⟩
    | bk ys1 e1 h1 => rw [e] at x; exact x
    | ct ys1 e1 h1 => rw [e] at x; exact x
    | rt ys1 h1 => rw [e] at x; exact x
    | bad => rw [e] at x; exact x⟩
theorem cg_plain {st : Stmt} {m : MS} (p : CS X W0 st m) : CG X st (gPlain m) :=
  GS.imp (gs_ps p) fun D us σ H ⟨α, h, env, ys, r, s, o, x⟩ => ⟨α, h, env, r, s, by
    unfold gPlain at x
    cases e : m env h with
    | nx e1 h1 => rw [e] at x; exact fun α' H' σ' r' s' sr' => x α' H' σ' us r' s' sr' (o.step s'.kp)
    | bk e1 h1 => rw [e] at x; exact fun α' H' σ' r' s' sr' => x α' H' σ' us r' s' sr' (o.step s'.kp)
    | ct e1 h1 => rw [e] at x; exact fun α' H' σ' r' s' sr' => x α' H' σ' us r' s' sr' (o.step s'.kp)
    | rt a h1 =>
      rw [e] at x
      dsimp only at x
      split at x
      · rename_i en
        intro α' H' v r' s' rv
        have : v = .non := by
          cases a <;> first | exact absurd en Bool.false_ne_true | (cases rv; rfl)
        exact this ▸ x α' H' us r' s' (o.step s'.kp)
      · exact x.elim
    | er c d e1 h1 => rw [e] at x; exact x.elim
    | bad => rw [e] at x; exact x.elim⟩
theorem cg_yield {e : Expr} {ma : M A} {yp pos : Pos} (he : CE X W0 e ma) (hco : X.env.scope.isCoroutine = false := by rfl) (hi : interactive X.env = false := by rfl) : CG X (.Expr (.Yield (some e) yp) pos) (gYield ma) :=
  GS.imp (gs_yield he hco hi) fun D us σ H ⟨α, h, env, ys, r, s, o, x⟩ => by
    unfold gYield at x
    cases e : ma env h with
    | ok a h1 =>
      rw [e] at x
      dsimp only at x
      split at x
      · rename_i small
        refine ⟨by rw [o.length]; exact Nat.lt_of_lt_of_le small (by unfold lim sizeLine; decide), α, h, env, r, s, ?_⟩
        rw [e]
        exact fun α' H' v r' s' rv => x α' H' σ _ r' s' (s.step s'.kp) ((o.step s'.kp).append (.cons rv .nil))
      · exact x.elim
    | er c d h1 => rw [e] at x; exact x.elim
    | bad => rw [e] at x; exact x.elim
theorem cg_for {tg iter : Expr} {body : List Stmt} {mi : M (List A)} {mb : MGS} {t : Tg} {pos : Pos} (hp : PassesOwn (model X.prog X.w) X.A X.env X.xe) (hc : X.calm = true) (hi : CI X W0 tg iter mi) (hg : PG X tg (t.g X.K)) (hb : CGs X body mb)
    (hs : ∀ x, foldedSetIterable iter X.env x = pure x := by intro _; rfl) : CG X (.For tg iter body [] pos) (gFor t mi mb) :=
  GS.imp (gs_for hp hc hi hg hb hs) fun D us σ H ⟨α, h, env, ys, r, s, o, x⟩ => ⟨α, h, env, r, s, by
    unfold gFor at x
    cases e : mi env h with
    | er c d h1 => rw [e] at x; exact x.elim
    | bad => rw [e] at x; exact x.elim
    | ok xs h1 =>
      rw [e] at x
      intro α1 H1 J r1 s1 wl
      have x1 := PostG.rebase s1 x
      dsimp only at x1
      refine ⟨fun i m us' σ' H' => ∃ α' h' env' ys', Rel X.K X.mg α' h' H' ∧ Stp α1 h1 H1 α' h' H' ∧ SR X.K X.mg α' (Lv α' h') H' σ' env' ∧ RAs X.K X.mg α' (Lv α' h') H' us' ys' ∧ m = xs.length - i ∧ PostG X.K X.mg α' h' H' (forG t mb (xs.drop i) ys' env' h') D,
        ⟨_, α1, h1, env, ys, r1, .refl, s.step s1.kp, o.step s1.kp, rfl, x1⟩, ?_⟩
      rintro i m us2 σ2 H2 ⟨α2, h2, env2, ys2, r2, s2, sr2, o2, rfl, q2⟩
      obtain ⟨w1, w2⟩ := wl α2 h2 H2 r2 s2.kp (fun p o u e n => s2.keep p _ e n) i
      cases hx : xs[i]? with
      | none =>
        have hl := List.getElem?_eq_none_iff.mp hx
        rw [List.drop_eq_nil_of_le hl] at q2
        exact .inl ⟨w2 hl, postg_nx q2 r2 sr2 o2⟩
      | some a =>
        obtain ⟨hl, _⟩ := List.getElem?_eq_some_iff.mp hx
        obtain ⟨g1, g2⟩ := w1 a hx
        rw [drop_get hx] at q2
        refine .inr ⟨g1, fun us' σ' H' => ∃ α' h' env' ys', Rel X.K X.mg α' h' H' ∧ Stp α1 h1 H1 α' h' H' ∧ SR X.K X.mg α' (Lv α' h') H' σ' env' ∧ RAs X.K X.mg α' (Lv α' h') H' us' ys' ∧ PostG X.K X.mg α' h' H' (forG t mb (xs.drop (i + 1)) ys' env' h') D, ?_, ?_⟩
        · rintro us' σ' H' ⟨α', h', env', ys', z1, z2, z3, z4, z5⟩
          exact ⟨_, by omega, α', h', env', ys', z1, z2, z3, z4, rfl, z5⟩
        · intro v H3 hy
          obtain ⟨r3, s3, ra⟩ := g2 v H3 hy
          unfold forG at q2
          split at q2
          · exact q2.elim
          · rename_i env3 e3
            refine Tg.ok t ra (sr2.step s3.kp) e3 fun σ3 sr3 _ => ⟨α2, h2, env3, ys2, r3, sr3, o2.step s3.kp, ?_⟩
            have q3 := PostG.rebase s3 q2
            cases e : mb ys2 env3 h2 with
            | nx ys4 e4 h4 =>
              rw [e] at q3
              exact fun α4 H4 σ4 us4 r4 s4 sr4 o4 => ⟨α4, h4, e4, ys4, r4, (s2.trans s3).trans s4, sr4, o4, PostG.rebase s4 q3⟩
            | ct ys4 e4 h4 =>
              rw [e] at q3
              exact fun α4 H4 σ4 us4 r4 s4 sr4 o4 => ⟨α4, h4, e4, ys4, r4, (s2.trans s3).trans s4, sr4, o4, PostG.rebase s4 q3⟩
            | bk ys4 e4 h4 => rw [e] at q3; exact q3
            | rt ys4 h4 => rw [e] at q3; exact q3
            | bad => rw [e] at q3; exact q3.elim⟩
end
end Cl
namespace Cl
open PySem PySem.Spec PyProof.Rows L2
def genOf (n : Nat) (m : MGS) : List A → AH → R (List A) := fun as h => match m [] (envOf n as) h with
  | .nx ys _ h => .ok ys h
  | .rt ys h => .ok ys h
  | _ => .bad
def spG (K : PySem.W.Frag) (mg : Str → Option Value) (n : Nat) (f : List A → AH → R (List A)) : SpG := fun vs H Q _ => ∃ α h as, Rel K mg α h H ∧ RAs K mg α (Lv α h) H vs as ∧ as.length = n ∧ match f as h with
  | .ok ys h' => ∀ α' H' us, Rel K mg α' h' H' → Stp α h H α' h' H' → RAs K mg α' (Lv α' h') H' us ys → Q us H'
  | _ => False
section
variable {P : Program} {w : World} {K : PySem.W.Frag} {mg : Str → Option Value} {base : Heap}
theorem gfn_ok {x qual : Str} {st : Stmt} {f : Addr} {fd : FuncData} {N ps : List Str} {k : Nat} {m : MGS} (F : Fun K x qual st f fd) (S : GScope N ps (defScope st))
    (hb : ∀ (cdv : Value) (A : Around) (outer : List PySem.Env) (s : Shared) (H : Hp) (E : XK) (pn : List (Addr × Obj)), Room k (A.deeper (envOfC qual (defScope st) s.heap.objs.size f cdv)) →
      CGs (gcxOf P w K mg base N qual (defScope st) f cdv A outer s H E pn) (defBody st) m) : GFn P w K mg base (k + 1) f fd ps (spG K mg ps.length (genOf N.length m)) := by
  obtain ⟨oc, od, kV, doc, pm, an, cdv, ct, osl, rfl, lk, hcd⟩ := F.ex
  refine gfn_of lk hcd S (fun vs H Q E ⟨α, h, as, r, ra, n, _⟩ => by rw [ra.length]; exact n) fun A outer s H vs Q E pn hr ⟨α, h, as, r, ra, n, q⟩ => ⟨_, hb cdv A outer s H E pn hr, α, h, envOf N.length as, [], r, sr_start ra, .nil, ?_⟩
  unfold genOf at q
  cases e : m [] (envOf N.length as) h with
  | nx ys e1 h1 => rw [e] at q; exact fun α' H' σ' us a b c d => q α' H' us a b d
  | rt ys h1 => rw [e] at q; exact fun α' H' us a b d => ⟨rfl, q α' H' us a b d⟩
  | bk ys e1 h1 => rw [e] at q; exact q.elim
  | ct ys e1 h1 => rw [e] at q; exact q.elim
  | bad => rw [e] at q; exact q.elim
end
end Cl
namespace Cl
open PySem PySem.Spec PyProof.Rows L2
structure MetG (P : Program) (w : World) (K : PySem.W.Frag) (mg : Str → Option Value) (base : Heap) (k : Nat) (C m : Str) (ps : List Str) (f : List A → AH → R (List A)) : Prop where
  ex : ∃ (c fa : Addr) (fd : FuncData), mg C = some (.ref c) ∧ Cls K c ∧ Meth K c m fa ∧ GFn P w K mg base k fa fd ps (spG K mg ps.length f) ∧ Binds K fd ps []
abbrev noX : XK := fun _ _ _ => False
theorem noX_passes {X : Cx} : Passes (L2.CX X.prog X.w) X noX := fun _ _ _ _ _ _ _ z => by
  obtain ⟨_, _, _, _, _, _, _, _, _, _, _, _, no⟩ := z
  exact no.elim
def eListM (lv : Bool) (C m : Str) (n : Nat) (f : List A → AH → R (List A)) (mo : M A) (ms : M (List A)) : M A := fun env h => (mo env h).bind fun a h => match insOf h a with
  | some (C', fs) => if C' = C ∧ (fs.lookup m).isNone then (ms env h).bind fun as h => if as.length + 1 = n then (f (a :: as) h).noer.bind fun ys h => mkL lv ys h else .bad else .bad
  | none => .bad
section
variable {X : Cx} {W : WX} {o e : Expr} {es : List Expr} {mo : M A} {ms : M (List A)} {k : Nat} {C m nm : Str} {ps : List Str} {f : List A → AH → R (List A)} {p pos pos' apos : Pos}
theorem ce_listM (lv : Bool) {pl : Sem Bool} (c : MetG X.prog X.w X.K X.mg X.base k C m ps f) (hr : Room (k + 3) X.A) (hg : Gl X nm) (hmg : X.mg nm = none) (hv : bootBuiltins nm = some (.type "list")) (ho : CE X W o mo) (hs : CAs X W (e :: es) ms)
    (hnm : nm ≠ "__name__" := by decide) (hdb : (nm == ("__debug__" : Str)) = false := by decide)
    (hst : starEach (e :: es) X.env = (false, eval e X.env) :: starEach es X.env := by rfl) (hpl : (backTo pos' (starEach es X.env)).any (·.1) = false := by rfl)
    (ht : eval (.Call (.Attribute o m apos) (e :: es) [] pos') X.env = (do
      let ov ← eval o X.env
      standAt apos.atName
      let (f, first) ← holding [ov] (getMethod ov m pl)
      callWith pos' f first (backTo pos' (starEach (e :: es) X.env)) (backToKw pos' (keywordEach [] X.env))) := by rfl)
    (he : starEach [.Call (.Attribute o m apos) (e :: es) [] pos'] X.env = (false, eval (.Call (.Attribute o m apos) (e :: es) [] pos') X.env) :: starEach [] X.env := by rfl) :
    CE X W (.Call (.Name nm p) [.Call (.Attribute o m apos) (e :: es) [] pos'] [] pos) (eListM lv C m ps.length f mo ms) := by
  obtain ⟨cc, fa, fd, h1, h2, h3, F, hb⟩ := c.ex
  refine ce_of (pe_listG (pgen_meth (E := noX) (pl := pl) ho h2 h3 F (hr.mono (Nat.le_add_right k 3)) hb .nil hs hst hpl ht) noX_passes (fun _ _ _ z => z.elim) hr hg hmg hv hnm hdb he) fun σ α h H env Q r s q => ⟨α, h, env, r, s, post_bind q fun a h1' α1 H1 x r1 s1 ra q1 => ?_⟩
  split at q1
  · rename_i C' fs e1
    split at q1
    · rename_i hc
      obtain ⟨rfl, hl⟩ := hc
      obtain ⟨p0, c', dx, vs, rfl, x1, x2, x3⟩ := r1.ins ra e1
      have ec : c' = cc := by
        rw [h1] at x2
        injection (Option.some.inj x2) with z
        exact z.symm
      subst ec
      refine ⟨p0, dx, vs, rfl, x1, ro_none x3.look hl, α1, _, env, r1, s.step s1.kp, post_bind q1 fun as hh2 α2 H2 xs r2 s2 ras q2 => ?_⟩
      split at q2
      · rename_i len
        rw [List.append_nil]
        refine ⟨α2, hh2, a :: as, r2, .cons (ra.step s2.kp) ras, len, ?_⟩
        cases ef : f (a :: as) hh2 with
        | ok ys h3 =>
          rw [ef] at q2
          exact fun α' H' us r' s' o' p1 n1 => post_mkL (Post.rebase s' q2) r' n1 o'
        | er c d h3 => rw [ef] at q2; exact q2.elim
        | bad => rw [ef] at q2; exact q2.elim
      · exact q2.elim
    · exact q1.elim
  · exact q1.elim
end
end Cl
namespace Cl
open PySem PySem.Spec PyProof.Rows L2
def forR (t : Tg) (b : MS) (n : Nat) : Nat → Nat → MS
  | 0, _, _, _ => .bad
  | k + 1, i, env, h => match h[n]? with
    | some (some (.lst xs)) => match xs[i]? with
      | none => .nx env h
      | some x => match t.put x env with
        | none => .bad
        | some env1 => match b env1 h with
          | .nx e h' => forR t b n k (i + 1) e h'
          | .ct e h' => forR t b n k (i + 1) e h'
          | .bk e h' => .nx e h'
          | z => z
    | _ => .bad
def forV (t : Tg) (b : MS) (a : A) : MS := fun env h => match a with
  | .ref n => match h[n]? with
    | some (some (.lst xs)) => forR t b n (xs.length + 1) 0 env h
    | _ => .bad
  | a => match itemsA a with
    | some xs => forL t b xs env h
    | none => .bad
def sForS (t : Tg) (me : M A) (b : MS) : MS := fun env h => (me env h).st env fun a h => forV t b a env h
section
variable {X : Cx} {W : WX} {tg iter : Expr} {body : List Stmt} {mb : MS} {me : M A} {t : Tg} {pos : Pos}
theorem forR_read {K : PySem.W.Frag} {mg : Str → Option Value} {n p : Nat} {k : Nat} {α1 : Al} {h1 : AH} {H1 : Hp} {σ : L2.St} {env : Env} {D : Ends} (ep : α1.l[n]? = some p) (r1 : Rel K mg α1 h1 H1) (sr : SR K mg α1 (Lv α1 h1) H1 σ env) (q1 : PostS K mg W α1 h1 H1 (forR t mb n k 0 env h1) D) :
    ∃ W1 : Nat → Nat → L2.St → Hp → Prop, (∃ m, W1 0 m σ H1) ∧ ∀ i m σ H, W1 i m σ H →
  ((Itl K p).stop i H ∧ D.nx σ H) ∨ ((Itl K p).go i H ∧ ∃ N : L2.St → Hp → Prop, (∀ σ' H', N σ' H' → ∃ m', m' < m ∧ W1 (i + 1) m' σ' H') ∧ ∀ x H', (Itl K p).yld i H x H' → (t.g K) x σ H' fun σ2 H2 => tSt K mg W mb { D with nx := N, ct := N, bk := D.nx } σ2 H2) := by
  refine ⟨fun i m σ' H' => ∃ α' h' env', Rel K mg α' h' H' ∧ Stp α1 h1 H1 α' h' H' ∧ SR K mg α' (Lv α' h') H' σ' env' ∧ PostS K mg W α' h' H' (forR t mb n m i env' h') D, ⟨k, α1, h1, env, r1, .refl, sr, q1⟩, ?_⟩
  rintro i m σ2 H2 ⟨α2, h2, env2, r2, s2, sr2, q2⟩
  cases m with
  | zero => exact q2.elim
  | succ m =>
    unfold forR at q2
    split at q2
    · rename_i xs eh
      cases r2.obj eh (s2.pre n p ep) with
      | lst hp ras =>
        have sq : SqL K H2 p _ := .inl (.inl hp)
        cases hx : xs[i]? with
        | none =>
          rw [hx] at q2
          have le := List.getElem?_eq_none_iff.mp hx
          exact .inl ⟨⟨_, sq, by rw [ras.length]; exact le⟩, posts_nx q2 r2 sr2⟩
        | some a =>
          rw [hx] at q2
          obtain ⟨v, ev, rv⟩ := ras.get hx
          refine .inr ⟨⟨_, v, sq, ev⟩, fun σ' H' => ∃ α' h' env', Rel K mg α' h' H' ∧ Stp α1 h1 H1 α' h' H' ∧ SR K mg α' (Lv α' h') H' σ' env' ∧ PostS K mg W α' h' H' (forR t mb n m (i + 1) env' h') D, ?_, ?_⟩
          · rintro σ' H' ⟨α', h', env', z1, z2, z3, z4⟩
            exact ⟨m, Nat.lt_succ_self m, α', h', env', z1, z2, z3, z4⟩
          · rintro x H3 ⟨rfl, y⟩
            have ex := y _ sq
            rw [ev] at ex
            cases ex
            dsimp only at q2
            split at q2
            · exact q2.elim
            · rename_i env3 e3
              refine Tg.ok t rv sr2 e3 fun σ3 sr3 _ => ⟨α2, h2, env3, r2, sr3, ?_⟩
              cases e : mb env3 h2 with
              | nx e4 h4 =>
                rw [e] at q2
                exact fun α4 H4 σ4 r4 s4 sr4 => ⟨α4, h4, e4, r4, s2.trans s4, sr4, PostS.rebase s4 q2⟩
              | ct e4 h4 =>
                rw [e] at q2
                exact fun α4 H4 σ4 r4 s4 sr4 => ⟨α4, h4, e4, r4, s2.trans s4, sr4, PostS.rebase s4 q2⟩
              | bk e4 h4 => rw [e] at q2; exact q2
              | rt a4 h4 => rw [e] at q2; exact q2
              | er c4 d4 e4 h4 => rw [e] at q2; exact q2
              | bad => rw [e] at q2; exact q2.elim
    · exact q2.elim
abbrev ForW (K : PySem.W.Frag) (mg : Str → Option Value) (W : WX) (t : Tg) (mb : MS) (D : Ends) (σ : L2.St) (J : It) (H1 : Hp) : Prop := ∃ W1 : Nat → Nat → L2.St → Hp → Prop, (∃ m, W1 0 m σ H1) ∧ ∀ i m σ H, W1 i m σ H →
      (J.stop i H ∧ D.nx σ H) ∨ (J.go i H ∧ ∃ N : L2.St → Hp → Prop, (∀ σ' H', N σ' H' → ∃ m', m' < m ∧ W1 (i + 1) m' σ' H') ∧ ∀ x H', J.yld i H x H' → (t.g K) x σ H' fun σ2 H2 => tSt K mg W mb { D with nx := N, ct := N, bk := D.nx } σ2 H2)
theorem forV_read {K : PySem.W.Frag} {mg : Str → Option Value} {a : A} {v : V} {α1 : Al} {h1 : AH} {H1 : Hp} {σ : L2.St} {env : Env} {D : Ends} (r1 : Rel K mg α1 h1 H1) (sr : SR K mg α1 (Lv α1 h1) H1 σ env) (ra : RA K mg α1 (Lv α1 h1) H1 v a) (q1 : PostS K mg W α1 h1 H1 (forV t mb a env h1) D) :
    (∃ p, v = .ref p ∧ (((∃ xs, SqL K H1 p xs) ∧ ForW K mg W t mb D σ (Itl K p) H1) ∨ ((∃ xs, SqT K H1 p xs) ∧ ForW K mg W t mb D σ (Itt K p) H1))) ∨ ∃ z, v = .str z ∧ ForW K mg W t mb D σ (Its z) H1 := by
  unfold forV at q1
  split at q1
  · rename_i n
    cases ra with
    | ref ep =>
      split at q1
      · rename_i xs eh
        cases r1.obj eh ep with
        | lst hp ras => exact .inl ⟨_, rfl, .inl ⟨⟨_, .inl (.inl hp)⟩, forR_read ep r1 sr q1⟩⟩
      · exact q1.elim
  · split at q1
    · rename_i xs e
      unfold itemsA at e
      split at e
      · cases e
        cases ra
        exact .inr ⟨_, rfl, for_read r1 sr (wlk_s _) q1⟩
      · obtain ⟨p, rfl, w⟩ := frz_walk ra e
        refine .inl ⟨p, rfl, ?_⟩
        rcases w with ⟨w1, w2⟩ | ⟨w1, w2⟩
        · exact .inl ⟨w1, for_read r1 sr w2 q1⟩
        · exact .inr ⟨w1, for_read r1 sr w2 q1⟩
    · exact q1.elim
theorem cs_forS (hp : PassesOwn (model X.prog X.w) X.A X.env X.xe) (hc : X.calm = true) (he : CE X W iter me) (hg : PG X tg (t.g X.K)) (hb : CSs X W body mb) (hs : ∀ x, foldedSetIterable iter X.env x = pure x := by intro _; rfl) : CS X W (.For tg iter body [] pos) (sForS t me mb) :=
  cs_of (ps_for hp hc (pi_sq he) hg hb hs) fun D σ α h H env r s q => ⟨α, h, env, r, s, st_bind s q fun a h1 α1 H1 v r1 s1 ra q1 =>
    forV_read r1 (s.step s1.kp) ra q1⟩
end
end Cl
namespace Cl
open PySem PySem.Spec PyProof.Rows L2
section
variable {K : PySem.W.Frag} {mg : Str → Option Value} {α α' : Al} {h h' : AH} {H H' : Hp} {d : Addr} {od : Obj} {vs : List V} {xs : List A} {n : Nat}
theorem kp_at {L L' : Addr → Prop} (hl : α'.l = α.l) (off : ∀ p, p ≠ d → H' p = H p) (ld : L d) (lv : ∀ p, L' p → L p) : Kp α L H α' L' H' := by
  have same : ∀ p, ¬ L p → H' p = H p := fun p n => off p fun z => n (z ▸ ld)
  refine ⟨fun n p q => by rw [hl]; exact q, fun p ws r n => ?_, fun p ws r n => ?_, fun p ws r n => ?_, fun p ws r n => ?_, fun p c x ws r n => ?_, fun p u r n z => n (lv p z), fun p u r n => ⟨u, by rw [same p n]; exact r⟩⟩
  · unfold Rd at r ⊢; rw [same p n]; exact r
  · rw [same p n]; exact r
  · unfold Rd at r ⊢; rw [same p n]; exact r
  · unfold Rd at r ⊢; rw [same p n]; exact r
  · rw [same p n]; exact r
structure UnL (K : PySem.W.Frag) (mg : Str → Option Value) (α : Al) (h : AH) (H : Hp) (d : Addr) (od : Obj) (vs : List V) (α' : Al) (h' : AH) (H' : Hp) (α2 : Al) (h2 : AH) : Prop where
  fr : H' d = some (.frz od (.lst vs))
  rel : Rel K mg α2 h2 (upd H' d (.lst vs))
  stp : Stp α h H α2 h2 (upd H' d (.lst vs))
  kp : Kp α' (Lv α' h') H' α2 (Lv α2 h2) (upd H' d (.lst vs))
theorem lockS (ep : α.l[n]? = some d) (eh : h[n]? = some (some (.lst xs))) (r : Rel K mg α h H) : ∃ vs, H d = some (.lst vs) ∧ RAs K mg α (Lv α h) H vs xs ∧ ∀ od, Rel K mg (α.res d) (h.set n none) (upd H d (.frz od (.lst vs))) ∧
    Kp α (Lv α h) H (α.res d) (Lv (α.res d) (h.set n none)) (upd H d (.frz od (.lst vs))) ∧
    ∀ α' h' H', Rel K mg α' h' H' → Stp (α.res d) (h.set n none) (upd H d (.frz od (.lst vs))) α' h' H' → h'[n]? = some none → UnL K mg α h H d od vs α' h' H' ⟨α'.l, α.z⟩ (h'.set n (some (.lst xs))) := by
  have oa := r.obj eh ep
  cases oa with
  | lst e rk =>
  rename_i vs
  refine ⟨vs, e, rk, fun od => ?_⟩
  obtain ⟨hl, _⟩ := List.getElem?_eq_some_iff.mp eh
  have lvs : ∀ p, Live α (h.set n none) p → Live α h p := fun p ⟨m, o, a, b⟩ => by
    by_cases hm : n = m
    · subst hm
      rw [List.getElem?_set_self hl] at b
      cases b
    · rw [List.getElem?_set_ne hm] at b
      exact ⟨m, o, a, b⟩
  have nld : ¬ Live α (h.set n none) d := fun ⟨m, o, a, b⟩ => by
    have := r.uniq ep a
    subst this
    rw [List.getElem?_set_self hl] at b
    cases b
  have lv1 : ∀ p, Lv (α.res d) (h.set n none) p → Lv α h p := fun p l => by
    rcases l with l | l
    · rcases List.mem_cons.mp l with z | z
      · exact .inr (z ▸ live_of ep eh)
      · exact .inl z
    · exact .inr (lvs p l)
  have k1 : Kp α (Lv α h) H (α.res d) (Lv (α.res d) (h.set n none)) (upd H d (.frz od (.lst vs))) := kp_at rfl (fun p hp => upd_ne hp) (.inr (live_of ep eh)) lv1
  have any : ∀ p, (∃ u, H p = some u) → ∃ u, upd H d (.frz od (.lst vs)) p = some u := fun p ⟨u, z⟩ => by
    by_cases hd : p = d
    · exact ⟨_, by rw [hd]; exact upd_same⟩
    · exact ⟨u, by rw [upd_ne hd]; exact z⟩
  have r1 : Rel K mg (α.res d) (h.set n none) (upd H d (.frz od (.lst vs))) := by
    refine ⟨by simp [Al.res, r.len], r.nd, fun p hp => any p (r.has p hp), fun p hp => ?_, fun m ao em => ?_⟩
    · rcases List.mem_cons.mp hp with z | z
      · rw [z]; exact ⟨nld, _, upd_same⟩
      · obtain ⟨y, w⟩ := r.zs p z
        exact ⟨fun l => y (lvs p l), any p w⟩
    · have hm : n ≠ m := fun z => by
        subst z
        rw [List.getElem?_set_self hl] at em
        cases em
      rw [List.getElem?_set_ne hm] at em
      obtain ⟨q, eq, oa⟩ := r.at_ m ao em
      have : q ≠ d := fun y => hm (r.uniq ep (y ▸ eq))
      exact ⟨q, eq, oa.step k1 fun u z => by rw [upd_ne this]; exact z⟩
  refine ⟨r1, k1, fun α' h' H' r' s' en => ?_⟩
  have hd : H' d = some (.frz od (.lst vs)) := s'.keep d _ upd_same nld
  have zz : α'.z = d :: α.z := s'.zeq
  obtain ⟨l', z'⟩ := α'
  cases (show z' = d :: α.z from zz)
  have epd : l'[n]? = some d := s'.pre n d ep
  obtain ⟨hl', _⟩ := List.getElem?_eq_some_iff.mp en
  have lv2 : ∀ p, Lv ⟨l', α.z⟩ (h'.set n (some (.lst xs))) p → Lv ⟨l', d :: α.z⟩ h' p := fun p l => by
    rcases l with l | ⟨m, o, a, b⟩
    · exact .inl (List.mem_cons_of_mem _ l)
    · by_cases hm : n = m
      · subst hm
        have a' : l'[n]? = some p := a
        rw [epd] at a'
        cases a'
        exact .inl List.mem_cons_self
      · rw [List.getElem?_set_ne hm] at b
        exact .inr ⟨m, o, a, b⟩
  have k2 : Kp ⟨l', d :: α.z⟩ (Lv ⟨l', d :: α.z⟩ h') H' ⟨l', α.z⟩ (Lv ⟨l', α.z⟩ (h'.set n (some (.lst xs)))) (upd H' d (.lst vs)) := kp_at rfl (fun p hp => upd_ne hp) (.inl List.mem_cons_self) lv2
  have any2 : ∀ p, (∃ u, H' p = some u) → ∃ u, upd H' d (.lst vs) p = some u := fun p ⟨u, z⟩ => by
    by_cases q : p = d
    · exact ⟨_, by rw [q]; exact upd_same⟩
    · exact ⟨u, by rw [upd_ne q]; exact z⟩
  have nz : d ∉ α.z := fun z => (r.zs d z).1 (live_of ep eh)
  have live2 : ∀ p, Live ⟨l', α.z⟩ (h'.set n (some (.lst xs))) p → p = d ∨ Live ⟨l', d :: α.z⟩ h' p := fun p ⟨m, o, a, b⟩ => by
    by_cases hm : n = m
    · subst hm
      have a' : l'[n]? = some p := a
      rw [epd] at a'
      cases a'
      exact .inl rfl
    · rw [List.getElem?_set_ne hm] at b
      exact .inr ⟨m, o, a, b⟩
  have back : ∀ p, upd H d (.frz od (.lst vs)) p = none → H p = none := fun p z => by
    by_cases q : p = d
    · rw [q, upd_same] at z; cases z
    · rw [upd_ne q] at z; exact z
  refine ⟨hd, ?_, ⟨s'.pre, rfl, fun p o e1 np => ?_, fun p l => ?_, fun p l => ?_⟩, k2⟩
  · refine ⟨by have := r'.len; simpa using this, r'.nd, fun p hp => any2 p (r'.has p hp), fun p hp => ?_, fun m ao em => ?_⟩
    · obtain ⟨y, w⟩ := r'.zs p (List.mem_cons_of_mem _ hp)
      refine ⟨fun l => ?_, any2 p w⟩
      rcases live2 p l with z | z
      · exact nz (z ▸ hp)
      · exact y z
    · by_cases hm : n = m
      · subst hm
        rw [List.getElem?_set_self hl'] at em
        cases em
        refine ⟨d, epd, .lst upd_same ((rk.step k1).step s'.kp |>.step k2)⟩
      · rw [List.getElem?_set_ne hm] at em
        obtain ⟨q, eq, oa⟩ := r'.at_ m ao em
        have : q ≠ d := fun y => hm (r'.uniq epd (y ▸ eq))
        exact ⟨q, eq, oa.step k2 fun u z => by rw [upd_ne this]; exact z⟩
  · have q : p ≠ d := fun z => np (z ▸ live_of ep eh)
    rw [upd_ne q]
    exact s'.keep p o (by rw [upd_ne q]; exact e1) fun l => np (lvs p l)
  · rcases live2 p l with z | z
    · exact .inl (z ▸ live_of ep eh)
    · rcases s'.liv p z with y | y
      · exact .inl (lvs p y)
      · exact .inr (back p y)
  · exact (s'.new p l).imp id (back p)
theorem wlk_ls (e : H d = some (.frz od (.lst vs))) (nl : ¬ Live α h d) (r : RAs K mg α (Lv α h) H vs xs) : Wlk K mg (Itl K d) xs α h H := fun α' h' H' r' kp fz i => ⟨fun b e1 => by
  have q : SqL K H' d vs := .inl (.inr ⟨od, fz d od _ e nl⟩)
  obtain ⟨v, e2, e3⟩ := r.get e1
  refine ⟨⟨vs, v, q, e2⟩, fun x H2 y => ?_⟩
  obtain ⟨rfl, y⟩ := y
  have e4 := y vs q
  rw [e2] at e4
  cases e4
  exact ⟨r', .refl, e3.step kp⟩, fun le => ⟨vs, .inl (.inr ⟨od, fz d od _ e nl⟩), by rw [r.length]; exact le⟩⟩
end
end Cl
namespace Cl
open PySem PySem.Spec PyProof.Rows L2
def restL {β : Type} (n : Nat) (xs : List A) : R β → R β
  | .ok a h => match h[n]? with
    | some none => .ok a (h.set n (some (.lst xs)))
    | _ => .bad
  | _ => .bad
def overS (i : Nat) (fs : Path) (f : List A → Env → AH → R A) : M A := fun env h => match pathA i fs env h with
  | some (.ref n) => match h[n]? with
    | some (some (.lst xs)) => restL n xs (f xs env (h.set n none)).noer
    | _ => .bad
  | some a => match itemsA a with
    | some xs => (f xs env h).noer
    | none => .bad
  | none => .bad
def eLcS (lv : Bool) (i : Nat) (fs : Path) (t : Tg) (vs : List Nat) (mt : M Bool) (me : M A) : M A := overS i fs fun xs env h => if xs.length ≤ lim then (lcL t mt me (wipeE env vs) xs h).bind fun ys h => mkL lv ys h else .bad
def eDcS (lv : Bool) (i : Nat) (fs : Path) (t : Tg) (vs : List Nat) (mt : M Bool) (mk me : M A) : M A := overS i fs fun xs env h => (dcL t mt mk me (wipeE env vs) xs [] h).bind fun ys h => mkD lv ys h
section
variable {X : Cx} {W : WX}
theorem overS_read {T : TI → TE} {f : List A → Env → AH → R A} (i : Nat) (fs : Path) (ok : PathOk X.K X.mg fs)
    (rd : ∀ (wi : TI) (J : It) (xs : List A) (σ : L2.St) (α : Al) (h : AH) (H : Hp) (env : Env) (Q : VK), (∀ R : It → Hp → Prop, R J H → wi σ H R) → Rel X.K X.mg α h H → SR X.K X.mg α (Lv α h) H σ env → Wlk X.K X.mg J xs α h H → Post rtA X.K X.mg W σ α h H (f xs env h) Q → T wi σ H Q)
    {σ : L2.St} {α : Al} {h : AH} {H : Hp} {env : Env} {Q : VK} (r : Rel X.K X.mg α h H) (s : SR X.K X.mg α (Lv α h) H σ env) (q : Post rtA X.K X.mg W σ α h H (overS i fs f env h) Q) :
    (∃ d u, H d = some u ∧ Mut (some u) ∧ ∀ od, T (iSq X.K (tPath X.K i (fs.map (·.1)))) σ (upd H d (.frz od u)) fun v H' => H' d = some (.frz od u) ∧ Q v (upd H' d u)) ∨ T (iSq X.K (tPath X.K i (fs.map (·.1)))) σ H Q := by
  unfold overS at q
  split at q
  · rename_i n e
    split at q
    · rename_i xs eh
      obtain ⟨v, rv, rdp⟩ := path_read r s fs _ ok e
      cases rv with
      | ref ep =>
        rename_i d
        obtain ⟨vs, h1, rk, all⟩ := lockS ep eh r
        left
        refine ⟨d, .lst vs, h1, True.intro, fun od => ?_⟩
        obtain ⟨r1, k1, un⟩ := all od
        have nl : ¬ Live (α.res d) (h.set n none) d := (r1.zs d List.mem_cons_self).1
        have sq : SqL X.K (upd H d (.frz od (.lst vs))) d vs := .inl (.inr ⟨od, upd_same⟩)
        refine rd _ (Itl X.K d) xs σ _ _ _ env _ (fun R q => rdp _ (fun p c dx l e => by rw [upd_ne (ne_of e h1 (by intro z; cases z))]; exact e) _ (.inl ⟨d, rfl, .inl ⟨⟨vs, sq⟩, q⟩⟩)) r1 (s.step k1) (wlk_ls upd_same nl (rk.step k1)) ?_
        cases er : f xs env (h.set n none) with
        | ok a h' =>
          rw [er] at q
          intro α' H' v r' s' ra
          dsimp only [R.noer, restL] at q
          split at q
          · rename_i en
            have u := un α' h' H' r' s' en
            exact ⟨u.fr, q _ _ v u.rel u.stp (ra.step u.kp)⟩
          · exact q.elim
        | er c d h' => rw [er] at q; exact q.elim
        | bad => rw [er] at q; exact q.elim
    · exact q.elim
  · rename_i a na e
    split at q
    · rename_i xs ei
      obtain ⟨v, rv, rdp⟩ := path_read r s fs _ ok e
      right
      have go : ∀ J, (∀ R : It → Hp → Prop, R J H → iSq X.K (tPath X.K i (fs.map (·.1))) σ H R) → Wlk X.K X.mg J xs α h H → T (iSq X.K (tPath X.K i (fs.map (·.1)))) σ H Q := fun J run wl => by
        refine rd _ J xs σ α h H env Q run r s wl ?_
        cases er : f xs env h with
        | ok a h' => rw [er] at q; exact q
        | er c d h' => rw [er] at q; exact q.elim
        | bad => rw [er] at q; exact q.elim
      unfold itemsA at ei
      split at ei
      · cases ei
        cases rv
        exact go _ (fun R q => rdp _ (fun p c dx l e => e) _ (.inr ⟨_, rfl, q⟩)) (wlk_s _)
      · obtain ⟨p, rfl, w⟩ := frz_walk rv ei
        rcases w with ⟨w1, w2⟩ | ⟨w1, w2⟩
        · exact go _ (fun R q => rdp _ (fun p c dx l e => e) _ (.inl ⟨p, rfl, .inl ⟨w1, q⟩⟩)) w2
        · exact go _ (fun R q => rdp _ (fun p c dx l e => e) _ (.inl ⟨p, rfl, .inr ⟨w1, q⟩⟩)) w2
    · exact q.elim
  · exact q.elim
end
end Cl
namespace Cl
open PySem PySem.Spec PyProof.Rows L2
section
variable {X : Cx} {W : WX} {tg iter elt kx : Expr} {ifs : List Expr} {mt : M Bool} {me mk : M A} {t : Tg} {pos spos py : Pos} {y : Str}
theorem ce_overS {e : Expr} {T : TI → TE} {f : List A → Env → AH → R A} (i : Nat) (fs : Path) (p : PE X e (T (iSq X.K (tPath X.K i (fs.map (·.1)))))) (ok : PathOk X.K X.mg fs)
    (rd : ∀ (wi : TI) (J : It) (xs : List A) (σ : L2.St) (α : Al) (h : AH) (H : Hp) (env : Env) (Q : VK), (∀ R : It → Hp → Prop, R J H → wi σ H R) → Rel X.K X.mg α h H → SR X.K X.mg α (Lv α h) H σ env → Wlk X.K X.mg J xs α h H → Post rtA X.K X.mg W σ α h H (f xs env h) Q → T wi σ H Q) :
    CE X W e (overS i fs f) := ce_of (Cl.PE.or (pe_lock p) p) fun σ α h H env Q r s q => overS_read i fs ok rd r s q
theorem cs_setOverS {st : Stmt} {j : Nat} {T : TI → TE} {f : List A → Env → AH → R A} (i : Nat) (fs : Path) (p : PS X st (tAsg (T (iSq X.K (tPath X.K i (fs.map (·.1))))) (gName j))) (ok : PathOk X.K X.mg fs)
    (rd : ∀ (wi : TI) (J : It) (xs : List A) (σ : L2.St) (α : Al) (h : AH) (H : Hp) (env : Env) (Q : VK), (∀ R : It → Hp → Prop, R J H → wi σ H R) → Rel X.K X.mg α h H → SR X.K X.mg α (Lv α h) H σ env → Wlk X.K X.mg J xs α h H → Post rtA X.K X.mg W σ α h H (f xs env h) Q → T wi σ H Q) :
    CS X W st (sAsg (.name j) (overS i fs f)) :=
  cs_of (PS.or (ps_lock p) p) fun D σ α h H env r s q => overS_read (Q := fun x H' => gName j x σ H' D.nx) i fs ok rd r s (st_bind s q fun b h1 α1 H1 v r1 s1 rb q1 => by
    split at q1
    · rename_i env' e'
      have := Tg.ok (K := X.K) (.name j) rb (s.step s1.kp) e' (Q := D.nx) fun σ' s' _ => posts_nx q1 r1 s'
      unfold Tg.g at this
      exact this
    · exact q1.elim)
variable (lv : Bool) (i : Nat) (fs : Path) {scope : Scope} {own : List (Str × Nat)} (hc : X.calm = true) (hN : X.N.Nodup) (P : PE X iter (tPath X.K i (fs.map (·.1)))) (pok : PathOk X.K X.mg fs) (ok : BlkOk X.N X.env.scope scope own) (sub : ∀ i ∈ t.slots, i ∈ own.map (·.2))
  (hg : InC X scope fun Y => PG Y tg (t.g X.K)) (ht : InC X scope fun Y => CTs Y W0 ifs mt)
include hc hN P pok ok sub hg ht
theorem ce_lcS (he : InC X scope fun Y => CE Y W0 elt me) (hs : ∀ x, foldedSetIterable iter X.env x = pure x := by intro _; rfl) : CE X W (.ListComp elt [⟨tg, iter, ifs, 0⟩] scope pos) (eLcS lv i fs t (own.map (·.2)) mt me) :=
  ce_overS (T := fun wi => tLc wi (t.g X.K) (tOf rtB X.K X.mg W0 mt) (tOf rtA X.K X.mg W0 me) (own.map (·.2))) i fs (pe_lc (tt := tOf rtB X.K X.mg W0 mt) (te := tOf rtA X.K X.mg W0 me) hc hN (pi_sq P) ok hg ht he hs) pok
    fun wi J xs σ α h H env Q run r s wl q => run _ (by
      split at q
      · rename_i hl
        exact lc_read lv sub r s wl hl q
      · exact q.elim)
theorem cs_setLcS {j : Nat} (he : InC X scope fun Y => CE Y W0 elt me) (hy : X.N[j]? = some y) (hyl : X.env.scope.names.lookup y = some .local) (hsw : swapsWith (.ListComp elt [⟨tg, iter, ifs, 0⟩] scope pos) (some (.Name y py)) spos.line X.env = pure true)
    (hs : ∀ x, foldedSetIterable iter X.env x = pure x := by intro _; rfl) : CS X W (.Assign [.Name y py] (.ListComp elt [⟨tg, iter, ifs, 0⟩] scope pos) spos) (sAsg (.name j) (eLcS lv i fs t (own.map (·.2)) mt me)) :=
  cs_setOverS (T := fun wi => tLc wi (t.g X.K) (tOf rtB X.K X.mg W0 mt) (tOf rtA X.K X.mg W0 me) (own.map (·.2))) i fs (ps_setLc (tt := tOf rtB X.K X.mg W0 mt) (te := tOf rtA X.K X.mg W0 me) hc hN hy hyl hsw (pi_sq P) ok hg ht he hs) pok
    fun wi J xs σ α h H env Q run r s wl q => run _ (by
      split at q
      · rename_i hl
        exact lc_read lv sub r s wl hl q
      · exact q.elim)
theorem ce_dcS (hk : InC X scope fun Y => CE Y W0 kx mk) (he : InC X scope fun Y => CE Y W0 elt me) (hs : ∀ x, foldedSetIterable iter X.env x = pure x := by intro _; rfl) : CE X W (.DictComp kx elt [⟨tg, iter, ifs, 0⟩] scope pos) (eDcS lv i fs t (own.map (·.2)) mt mk me) :=
  ce_overS (T := fun wi => tDc wi (t.g X.K) (tOf rtB X.K X.mg W0 mt) (tOf rtA X.K X.mg W0 mk) (tOf rtA X.K X.mg W0 me) (own.map (·.2))) i fs (pe_dc (tt := tOf rtB X.K X.mg W0 mt) (tk := tOf rtA X.K X.mg W0 mk) (tv := tOf rtA X.K X.mg W0 me) hc hN (pi_sq P) ok hg ht hk he hs) pok
    fun wi J xs σ α h H env Q run r s wl q => run _ (dc_read lv sub r s wl q)
theorem cs_setDcS {j : Nat} (hk : InC X scope fun Y => CE Y W0 kx mk) (he : InC X scope fun Y => CE Y W0 elt me) (hy : X.N[j]? = some y) (hyl : X.env.scope.names.lookup y = some .local)
    (hsw : swapsWith (.DictComp kx elt [⟨tg, iter, ifs, 0⟩] scope pos) (some (.Name y py)) spos.line X.env = pure true) (hs : ∀ x, foldedSetIterable iter X.env x = pure x := by intro _; rfl) : CS X W (.Assign [.Name y py] (.DictComp kx elt [⟨tg, iter, ifs, 0⟩] scope pos) spos) (sAsg (.name j) (eDcS lv i fs t (own.map (·.2)) mt mk me)) :=
  cs_setOverS (T := fun wi => tDc wi (t.g X.K) (tOf rtB X.K X.mg W0 mt) (tOf rtA X.K X.mg W0 mk) (tOf rtA X.K X.mg W0 me) (own.map (·.2))) i fs (ps_setDc (tt := tOf rtB X.K X.mg W0 mt) (tk := tOf rtA X.K X.mg W0 mk) (tv := tOf rtA X.K X.mg W0 me) hc hN hy hyl hsw (pi_sq P) ok hg ht hk he hs) pok
    fun wi J xs σ α h H env Q run r s wl q => run _ (dc_read lv sub r s wl q)
end
end Cl
namespace Cl
open PySem PySem.Spec PyProof.Rows L2
def PE1 (X : Cx) (e : Expr) (t : TE) : Prop := ∀ (pins : List (Addr × Obj)) (s : Shared) (σ : L2.St) (H : Hp) (Q : VK), Inv X pins σ H s → t σ H Q → wpAny (model X.prog X.w) X.A (eval e X.env) (fun v s' => 1 ≤ s'.toks ∧ EP X pins σ Q v s') X.xe s
abbrev LoopAsks (g : TG) (tb : TS) (D : Ends) (σ : L2.St) (J : It) (H1 : Hp) : Prop := ∃ W : Nat → Nat → L2.St → Hp → Prop, (∃ m, W 0 m σ H1) ∧ ∀ i m σ H, W i m σ H →
  (J.stop i H ∧ D.nx σ H) ∨ (J.go i H ∧ ∃ N : L2.St → Hp → Prop, (∀ σ' H', N σ' H' → ∃ m', m' < m ∧ W (i + 1) m' σ' H') ∧ ∀ x H', J.yld i H x H' → g x σ H' fun σ2 H2 => tb { D with nx := N, ct := N, bk := D.nx } σ2 H2)
section
variable {X : Cx} {W : WX} {tg iter : Expr} {body : List Stmt} {te : TE} {g : TG} {tb : TS} {pos : Pos}
theorem ps_forT (hp : PassesOwn (model X.prog X.w) X.A X.env X.xe) (hc : X.calm = true) (he : PE1 X iter te) (hg : PG X tg g) (hb : PSsT X body tb) (hs : ∀ x, foldedSetIterable iter X.env x = pure x := by intro _; rfl) :
    PS X (.For tg iter body [] pos) (tFor (fun σ H R => te σ H fun x H1 => ∃ a, x = .ref a ∧ (((∃ xs, SqL X.K H1 a xs) ∧ R (Itl X.K a) H1) ∨ ((∃ xs, SqT X.K H1 a xs) ∧ R (Itt X.K a) H1))) g tb) := by
  constructor
  intro pins s σ H D I h
  refine wpAny_For (wpAny_mono (he pins s σ H _ I h) (fun v s1 z => ?_) fun _ _ x => x) hs
  obtain ⟨tok1, x, H1, I1, rx, a, rfl, q⟩ := z
  obtain rfl : v = Value.ref a := rx
  refine wpAny_mono (PySem.wpAny_toks_of tok1 (Dg.seq_begins (tg := tg) (R := LoopAsks g tb D σ) I1 q)) (fun itv s2 z => ?_) fun _ _ x => x.2
  obtain ⟨tok2, it, fp, tn, J, H2, rfl, I2, T, st2, free, W1, ⟨m0, w0⟩, turn⟩ := z
  have still : ∀ {H' : Hp}, (∀ b ∈ fp, H' b = none) → ∀ b ∈ fp, FpOk X pins H' b := fun none1 b hb => ⟨none1 b hb, (free b hb).2⟩
  refine codeAny_forLoop_any (fun n s' => 1 ≤ s'.toks ∧ ∃ i σ' H', Inv X pins σ' H' s' ∧ tn i s'.heap ∧ (∀ b ∈ fp, H' b = none) ∧ W1 i n σ' H') ?_ m0 ⟨tok2, 0, σ, H2, I2, st2, fun b hb => (free b hb).1, w0⟩
  rintro n s3 ⟨tok3, i, σ3, H3, I3, st3, none3, w3⟩
  rcases turn i n σ3 H3 w3 with ⟨stop, fin⟩ | ⟨go, N, down, step⟩
  · refine wpAny_passesOwn hp (wpAny_mono (T.done X rfl rfl rfl hc i pins s3 σ3 H3 X.xe I3 (still none3) st3 stop) (fun r s4 z => ?_) fun _ _ x => x)
    obtain ⟨rfl, I4⟩ := z
    exact wpAny_execs_nil ⟨σ3, H3, I4, fin⟩
  · refine wpAny_passesOwn hp (wpAny_mono (PySem.wpAny_toks_of tok3 (T.item X rfl rfl rfl hc i pins s3 σ3 H3 X.xe I3 (still none3) st3 go)) (fun r s4 z => ?_) fun _ _ x => x.2)
    obtain ⟨tok4, u, rfl, own⟩ := z
    refine wpAny_passesOwn hp (wpAny_mono (PySem.wpAny_toks_of tok4 own) (fun _ s5 z => ?_) fun _ _ x => x.2)
    obtain ⟨tok5, x, H5, I5, ru, yld, st5, none5⟩ := z
    have I5' := I5.pinned (still none5) (T.obj _ _ st5)
    refine wpAny_passesOwn hp (wpAny_mono (PySem.wpAny_toks_of tok5 (hg.run _ s5 σ3 H5 x u _ I5' ru (step x H5 yld))) (fun _ s6 z => ?_) fun _ _ x => x.2)
    obtain ⟨tok6, σ6, H6, I6, q6⟩ := z
    refine wpAny_passesOwn hp (wpAny_mono (PySem.wpAny_toks_of tok6 (hb _ s6 σ6 H6 _ tok6 I6 q6)) (fun f s7 z => ?_) fun _ _ x => x.2)
    obtain ⟨tok7, q7⟩ := z
    have again : ∀ {σ7 : L2.St} {H7 : Hp}, Inv X (pins ++ pinsAt fp s5.heap) σ7 H7 s7 → N σ7 H7 → ∃ m, m < n ∧ 1 ≤ s7.toks ∧ ∃ i σ' H', Inv X pins σ' H' s7 ∧ tn i s7.heap ∧ (∀ b ∈ fp, H' b = none) ∧ W1 i m σ' H' := fun {σ7 H7} I7 n7 => by
      obtain ⟨m, lt, w7⟩ := down σ7 H7 n7
      have pin : ∀ (b : Addr) (o : Obj), b ∈ fp → s5.heap.get? b = some o → s7.heap.get? b = some o ∧ H7 b = none := fun b o hb e => by
        have z := I7.pin (b, o) (List.mem_append_right _ (List.mem_append_right _ (mem_pinsAt hb e)))
        exact ⟨z.1, z.2.1⟩
      refine ⟨m, lt, tok7, i + 1, σ7, H7, I7.unpinned, T.keep _ _ _ st5 fun b hb o e => (pin b o hb e).1, fun b hb => ?_, w7⟩
      obtain ⟨o, e, _⟩ := T.obj _ _ st5 b hb
      exact (pin b o hb e).2
    match f, q7 with
    | .next, ⟨σ7, H7, I7, n7⟩ => exact again I7 n7
    | .cont, ⟨σ7, H7, I7, n7⟩ => exact again I7 n7
    | .brk, ⟨σ7, H7, I7, q7⟩ => exact ⟨σ7, H7, I7.unpinned, q7⟩
    | .ret v, ⟨x7, σ7, H7, I7, r7, q7⟩ => exact ⟨x7, σ7, H7, I7.unpinned, r7, q7⟩
theorem pst_par {i j : Nat} {x y : Str} {a b : Expr} {ta : TA} {px py pt : Pos} {kt k2 pt2} (hc : X.calm = true) (hN : X.N.Nodup) (hi : X.N[i]? = some x) (hj : X.N[j]? = some y) (hij : i ≠ j) (hx : X.env.scope.names.lookup x = some .local) (hy : X.env.scope.names.lookup y = some .local) (ha : PAT X [a, b] ta)
    (hw : swappedStores [.Tuple [.Name x px, .Name y py] kt pt] (.Tuple [a, b] k2 pt2) X.env = pure (some [x, y])) (hs : swapsWithSole [.Tuple [.Name x px, .Name y py] kt pt] (.Tuple [a, b] k2 pt2) pos.line X.env = pure false := by rfl) :
    PST X (.Assign [.Tuple [.Name x px, .Name y py] kt pt] (.Tuple [a, b] k2 pt2) pos) (tPar i j ta) := by
  intro pins s σ H D tok I h
  have items := ha pt2 pins s σ H _ tok I h
  rw [exec_Assign_arm]
  apply wpAny_bind
  apply wpAny_standAt
  rw [hs]
  apply wpAny_bind
  apply wpAny_pure
  rw [if_neg Bool.false_ne_true]
  refine wpAny_bind (Tuple_ (wpAny_mono items (fun us s1 z => ?_) fun _ _ x => x))
  obtain ⟨_, H1, I1, rr, v, w, rfl, q⟩ := z
  obtain ⟨u1, u2, rfl, rv, rw2⟩ := vals2 rr
  have two : ([u1, u2].toArray : Array Value).size ≤ sizeLine := by show 2 ≤ sizeLine; decide
  refine wpAny_newObj_type ?_ two
  have I2 : Inv X pins σ H1 { s1 with heap := s1.heap.push { cls := .type "tuple", data := .seq [u1, u2].toArray } } := I1.kept (t' := s1.toks) fun _ _ e => Heap.get?_push_of_some _ e
  rw [hw]
  apply wpAny_bind
  apply wpAny_pure
  show wpAny _ _ (rule "assign.swapped-stores" >>= fun _ => unpackItems (.ref s1.heap.objs.size) 2 none >>= fun items => assignInOrder [fun v => bindName X.env y v, fun v => bindName X.env x v] items.reverse >>= fun _ => pure Flow.next) _ _ _
  refine wpAny_bind (wpAny_rule (wpAny_bind (unpackItems_tuple (items := #[u1, u2]) (I.ok.hd hc) (IsTup.new s1.heap _) fun h' kept => ?_)))
  have I3 := I2.kept (h' := h') (t' := s1.toks) fun b o e => kept b o (Nat.ne_of_lt (Heap.lt_size e)) e
  apply wpAny_bind
  refine assignInOrder_cons (wpAny_bindName (store_ok I3 hN hj (.inl hy) rw2 (fun s2 I4 => ?_) (.inr hy)))
  refine assignInOrder_cons (wpAny_bindName (store_ok I4 hN hi (.inl hx) rv (fun s3 I5 => assignInOrder_nil ?_) (.inr hx)))
  rw [List.set_comm _ _ (Ne.symm hij)] at I5
  exact wpAny_pure ⟨_, H1, I5, q⟩
end
end Cl
namespace Cl
open PySem PySem.Spec PyProof.Rows L2
def spC0 (K : PySem.W.Frag) (mg : Str → Option Value) (n : Nat) (f : FN) : Sp := fun vs H Q _ => ∃ α h as, Rel K mg α h H ∧ RAs K mg α (Lv α h) H vs as ∧ Post rtA K mg W0 [] α h H (arity n f as h) Q
theorem spC0_len {K : PySem.W.Frag} {mg : Str → Option Value} {n : Nat} {f : FN} {vs : List V} {H : Hp} {Q : VK} {E : XK} (x : spC0 K mg n f vs H Q E) : vs.length = n := by
  obtain ⟨α, h, as, r, ra, q⟩ := x
  unfold arity at q
  split at q
  · rename_i e
    rw [ra.length, e]
  · exact q.elim
structure FnT (P : Program) (w : World) (K : PySem.W.Frag) (mg : Str → Option Value) (base : Heap) (k : Nat) (f : Addr) (fd : FuncData) (ps : List Str) (sp : Sp) : Prop where
  cnt : ∀ vs H Q E, sp vs H Q E → vs.length = ps.length
  go : ∀ (A : Around) (outer : List PySem.Env) (s : Shared) (H : Hp) (args : Args) (us : List Value) (vs : List V) (Q : VK) (E : XK), Room k A → Env0 P w K mg base A outer s H → BindsTo s fd args (ps.zip us) → Vals vs us → sp vs H Q E →
    codeAny (model P w) A (.call (.ref f) args) (fun r s' => 1 ≤ s'.toks ∧ CR CX0 outer P w H s Q E r s') s
section
variable {P : Program} {w : World} {K : PySem.W.Frag} {mg : Str → Option Value} {base : Heap}
theorem fnT_ok {x q y c : Str} {st : Stmt} {f : Addr} {fd : FuncData} {N ps : List Str} {k i j : Nat} {py cpos pos : Pos} {rest : List Stmt} {mb : MS} (F : Fun K x q st f fd) (S : FnScope N ps (defScope st))
    (row : defBody st = .Assign [.Name y py] (.Constant (.str c) j cpos) pos :: rest) (at1 : N[i]? = some y) (loc : (defScope st).names.lookup y = some .local)
    (body : ∀ (cdv : Value) (A : Around) (outer : List PySem.Env) (s : Shared) (H : Hp) (E : XK), Room k (A.deeper (envOfC q (defScope st) s.heap.objs.size f cdv)) → CSs (cxOf CX0 P w K mg base N q (defScope st) f cdv A outer s H E).nox W0 rest mb) :
    FnT P w K mg base (k + 1) f fd ps (spC0 K mg ps.length (fnOf N.length (sSeq (sAsg (.name i) (eC (.str c))) mb))) := by
  obtain ⟨_, _, _, _, _, _, cdv, _, _, rfl, look, code⟩ := F.ex
  refine ⟨fun vs H Q E z => spC0_len z, ?_⟩
  intro A outer s H args us vs Q E room e0 bind rel asked
  have nvs := spC0_len asked
  have old : ∀ b o, base.get? b = some o → s.heap.get? b = some o := fun b o e => (e0.bs b o e).1
  have KX : K.In s.heap := e0.mod.kin.keeps old
  have names : ∀ y ∈ ps.zip us, (defScope st).names.lookup y.1 = some .local ∨ ((defScope st).names.lookup y.1 = some .cell ∧ ((cellsFrom (s.heap.objs.size + 1) (defScope st).names []).lookup y.1).isSome = true) := by
    rintro ⟨n, v⟩ hy
    exact (S.par n (List.of_mem_zip hy).1).imp (fun z => z) fun z => ⟨z, PySem.W.cellsFrom_some _ _ _ (.inl z)⟩
  refine codeAny_call_function room.depth (KX _ _ look) rfl S.co S.gen rfl (PySem.W.codeRec_of KX code) (bind _ _ _ _ ?_)
  refine wpAny_newFunctionEnv_cells S.kind names ?_
  rintro env rfl s1 made
  refine ⟨(e0.mod.nolimit.keeps old).keeps made.toInCall.keep, codeAny_func ?_⟩
  have I := inv_start (CX := CX0) (E := E) S room.hd e0 nvs rel made
  obtain ⟨α, h, as, r, ra, q0⟩ := asked
  unfold arity at q0
  split at q0
  · have later := (body cdv A outer s H E (room.deeper _)).nox
    have lt : i < N.length := (List.getElem?_eq_some_iff.mp at1).1
    have size : (envOf N.length as).length = N.length := by
      have := (sr_start (N := N) ra).length
      rw [← this]
      exact I.len
    have q1 : PostS K mg W0 α h H (mb ((envOf N.length as).set i (some (.str c))) h) { nx := fun _ H' => Q .non H', rt := Q } := by
      unfold fnOf sSeq sAsg eC at q0
      simp only [R.st, Tg.put, size, lt, if_true] at q0
      cases e : mb ((envOf N.length as).set i (some (.str c))) h with
      | nx e1 h1 => rw [e] at q0; exact fun α' H' σ' a b c => q0 α' H' .non a b .non
      | rt a1 h1 => rw [e] at q0; exact q0
      | er c1 d e1 h1 => rw [e] at q0; exact fun α' H' σ' cv dd a b c z => q0 α' H' cv dd a b z
      | bk e1 h1 => rw [e] at q0; exact q0.elim
      | ct e1 h1 => rw [e] at q0; exact q0.elim
      | bad => rw [e] at q0; exact q0.elim
    show wpAny _ _ (execs (defBody st) _) _ _ _
    rw [row]
    refine wpAny_execs_cons (wpAny_Assign_Name (Calls.Constant_str ?_) rfl)
    refine wpAny_mono (PySem.wpAny_toks (store_ok (v := V.str c) (u := Value.str c s1.toks) (Q := fun _ s2 => Inv _ [] ((start N vs).set i (some (V.str c))) H s2) (I.tok (s1.toks + 1)) S.nd at1 (.inl loc) ⟨s1.toks, rfl⟩ (fun _ J => J) (.inr loc))) (fun _ s2 z => ?_) fun e s2 z => z.2
    obtain ⟨more, J⟩ := z
    have tok : 1 ≤ s2.toks := Nat.le_trans (Nat.succ_le_succ (Nat.zero_le s1.toks)) more
    refine wpAny_mono (PySem.wpAny_toks_of tok (later.run [] s2 _ H { nx := fun _ H' => Q .non H', rt := Q } J ⟨α, h, _, r, (sr_start ra).set i (.str c), q1⟩)) (fun fl s3 z => ?_) fun e s3 z => wpAny_mono (PySem.wpAny_toks_of z.1 z.2) (fun _ _ y => y) fun _ _ y => y.2.elim
    obtain ⟨tok3, z⟩ := z
    refine ⟨tok3, ?_⟩
    have fin : ∀ {σ' : L2.St} {H' : Hp} {v : V} {u : Value}, Inv (cxOf CX0 P w K mg base N q (defScope st) f cdv A outer s H E) [] σ' H' s3 → RelV v u → Q v H' → L2.CE outer P w H s Q u s3 :=
      fun J rv hq => ⟨_, _, J.os, J.bare, J.base, J.hok, rv, hq⟩
    match fl, z with
    | .ret u, ⟨_, _, _, J, rv, hq⟩ => exact fin J rv hq
    | .next, ⟨_, _, J, hq⟩ => exact fin (v := V.non) (u := Value.none) J rfl hq
    | .brk, ⟨_, _, _, hq⟩ => exact hq.elim
    | .cont, ⟨_, _, _, hq⟩ => exact hq.elim
  · exact q0.elim
end
end Cl
namespace Cl
open PySem PySem.Spec PyProof.Rows L2
structure CalT (P : Program) (w : World) (K : PySem.W.Frag) (mg : Str → Option Value) (base : Heap) (k : Nat) (x : Str) (f : FN) : Prop where
  ex : ∃ (fa : Addr) (fd : FuncData), FnT P w K mg base k fa fd [] (spC0 K mg 0 f) ∧ mg x = some (.ref fa) ∧ PySem.W.keepIn K (.ref fa) = true ∧ Binds K fd [] []
section
variable {X : Cx} {k : Nat} {fa : Addr} {fd : FuncData} {x : Str} {sp : Sp} {p pos : Pos}
theorem pe1_call0 (F : FnT X.prog X.w X.K X.mg X.base k fa fd [] sp) (hr : Room k X.A) (hg : Gl X x) (hm : X.mg x = some (.ref fa)) (hk : PySem.W.keepIn X.K (.ref fa) = true) (hb : Binds X.K fd [] []) (hdb : (x == ("__debug__" : Str)) = false := by decide) :
    PE1 X (.Call (.Name x p) [] [] pos) (fun _ H Q => sp [] H Q noX) := by
  intro pins s σ H Q I h
  apply wpAny_Call_Name_kw
  refine ld_glob I hg hm ?_ hdb
  refine PySem.W.callWith_K0 I.kIn hk ?_
  have bound := hb s [] I.kIn rfl
  refine wpAny_call (codeAny_mono (F.go X.A X.stack s H ⟨[], []⟩ [] [] Q noX hr I.env0 bound .nil h) fun r s2 z => ?_)
  match r, z with
  | .ok (.ret u), ⟨tok, z⟩ => exact ⟨tok, I.after z⟩
  | .ok .next, ⟨_, z⟩ => exact z.elim
  | .ok .brk, ⟨_, z⟩ => exact z.elim
  | .ok .cont, ⟨_, z⟩ => exact z.elim
  | .error e, ⟨_, z⟩ => exact z.elim
end
def sForT (f : FN) (t : Tg) (b : MS) : MS := fun env h => match arity 0 f [] h with
  | .ok (.str _) _ => .bad
  | .ok a h => forV t b a env h
  | _ => .bad
def CSsT (X : Cx) (W : WX) (st : List Stmt) (m : MS) : Prop := PSsT X st (tSt X.K X.mg W m)
def CST (X : Cx) (W : WX) (st : Stmt) (m : MS) : Prop := PST X st (tSt X.K X.mg W m)
section
variable {X : Cx} {W : WX} {k : Nat} {x : Str} {f : FN} {p cpos pos : Pos} {tg : Expr} {body : List Stmt} {t : Tg} {mb : MS}
theorem cs_forT (C : CalT X.prog X.w X.K X.mg X.base k x f) (hp : PassesOwn (model X.prog X.w) X.A X.env X.xe) (hc : X.calm = true) (hr : Room k X.A) (hgl : Gl X x) (hg : PG X tg (t.g X.K)) (hb : CSsT X W body mb) (hdb : (x == ("__debug__" : Str)) = false := by decide)
    (hs : ∀ v, foldedSetIterable (.Call (.Name x p) [] [] cpos) X.env v = pure v := by intro _; rfl) : CS X W (.For tg (.Call (.Name x p) [] [] cpos) body [] pos) (sForT f t mb) := by
  obtain ⟨fa, fd, F, hm, hk, hbn⟩ := C.ex
  refine cs_of (ps_forT hp hc (pe1_call0 F hr hgl hm hk hbn hdb) hg hb hs) fun D σ α h H env r s q => ⟨α, h, [], r, .nil, ?_⟩
  unfold sForT at q
  cases e : arity 0 f [] h with
  | ok a h1 =>
    rw [e] at q
    intro α1 H1 v r1 s1 ra
    have q1 : PostS X.K X.mg W α h H (forV t mb a env h1) D := by
      cases a <;> first | exact q | exact q.elim
    have notext : ∀ z, v ≠ .str z := by
      intro z ez
      subst ez
      cases ra
      exact q.elim
    rcases forV_read r1 (s.step s1.kp) ra (PostS.rebase s1 q1) with w | ⟨z, ez, _⟩
    · exact w
    · exact absurd ez (notext z)
  | er c d h1 => rw [e] at q; exact q.elim
  | bad => rw [e] at q; exact q.elim
theorem csst_cons {st : Stmt} {rest : List Stmt} {a b : MS} (u : CST X W st a) (v : CSsT X W rest b) : CSsT X W (st :: rest) (sSeq a b) := by
  intro pins s σ H D tok I ⟨α, h, env, r, sr, q⟩
  refine psst_cons u v pins s σ H D tok I ⟨α, h, env, r, sr, ?_⟩
  unfold sSeq at q
  cases e : a env h with
  | nx e1 h1 =>
    rw [e] at q
    exact fun α' H' σ' r' s' sr' => ⟨α', h1, e1, r', sr', PostS.rebase s' q⟩
  | bk e1 h1 => rw [e] at q; exact q
  | ct e1 h1 => rw [e] at q; exact q
  | rt a1 h1 => rw [e] at q; exact q
  | er c d e1 h1 => rw [e] at q; exact q
  | bad => rw [e] at q; exact q
theorem csst_of {st : List Stmt} {m : MS} (u : CSs X W st m) : CSsT X W st m := PSsT.of u
end
end Cl
namespace Cl
open PySem PySem.Spec PyProof.Rows L2
def CET (X : Cx) (W : WX) (e : Expr) (m : M A) : Prop := PET X e (tOf rtA X.K X.mg W m)
def CAT (X : Cx) (W : WX) (es : List Expr) (m : M (List A)) : Prop := PAT X es (tOf rtAs X.K X.mg W m)
def eRepl (y z : Str) (mo : M A) : M A := fun env h => (mo env h).bind fun a h => match a with
  | .str x => if x.length + (x.length + 1) * z.length ≤ 16777216 then .ok (.str (Txt.replace x y z)) h else .bad
  | _ => .bad
section
variable {X : Cx} {W : WX} {e o : Expr} {es : List Expr} {ma mo : M A} {ms : M (List A)} {pos : Pos}
theorem cet_of (he : CE X W e ma) : CET X W e ma := fun pins s σ H Q _ I q => he.run pins s σ H Q I q
theorem cat_of (ha : CAs X W es ms) : CAT X W es ms := fun pos pins s σ H Q _ I q => ha.run pos pins s σ H Q I q
theorem cat_cons (ha : CET X W e ma) (hr : CAT X W es ms) (hs : starEach (e :: es) X.env = (false, eval e X.env) :: starEach es X.env := by rfl) : CAT X W (e :: es) (eCons ma ms) :=
  fun pos pins s σ H Q tok I ⟨α, h, env, r, sr, q⟩ => pat_cons ha hr hs pos pins s σ H Q tok I ⟨α, h, env, r, sr, post_bind q fun a h1 α1 H1 x r1 s1 ra q1 => ⟨α1, h1, env, r1, sr.step s1.kp, post_bind q1 fun as h2 α2 H2 xs r2 s2 ras q2 => post_ok q2 r2 (.cons (ra.step s2.kp) ras)⟩⟩
theorem cet_repl {y z : Str} {j k : Nat} {c0 c1 apos : Pos} (ho : CE X W o mo) (hyz : (y == z) = false := by decide)
    (hst : starEach [.Constant (.str y) j c0, .Constant (.str z) k c1] X.env = [(false, eval (.Constant (.str y) j c0) X.env), (false, eval (.Constant (.str z) k c1) X.env)] := by rfl)
    (hbase : attributeBase o "replace" X.env (eval o X.env) = eval o X.env := by rfl) (hline : (apos.endLine == pos.line) = true := by rfl) : CET X W (.Call (.Attribute o "replace" apos) [.Constant (.str y) j c0, .Constant (.str z) k c1] [] pos) (eRepl y z mo) :=
  fun pins s σ H Q tok I ⟨α, h, env, r, sr, q⟩ => CwR.pet_replC ho hyz hst hbase hline pins s σ H Q tok I ⟨α, h, env, r, sr, post_bind q fun a h1 α1 H1 v r1 s1 ra q1 => by
    split at q1
    · split at q1
      · rename_i small
        cases ra
        exact ⟨_, rfl, small, post_ok q1 r1 (.str _)⟩
      · exact q1.elim
    · exact q1.elim⟩
theorem pet_makeW {x : Str} {p : Pos} {k : Nat} {ps : List Str} {CX : CXT} {c fa : Addr} {fd : FuncData} {sp : Sp} {E : L2.St → XK} {t : TA} (M : Mk X.K c fa) (F : FnOk X.prog X.w X.K X.mg X.base CX k fa fd ps sp) (hr : Room (k + 1) X.A) (hg : Gl X x) (hm : X.mg x = some (.ref c)) (hb : Binds X.K fd ps []) (hx : ∀ σ, PassesAt CX X σ (E σ))
    (ha : PAT X (e :: es) t) (hdb : (x == ("__debug__" : Str)) = false) (he : starEach (e :: es) X.env = (false, eval e X.env) :: starEach es X.env) (hpl : (backTo pos (starEach es X.env)).any (·.1) = false) : PET X (.Call (.Name x p) (e :: es) [] pos) (tMakeW c sp E t) := by
  intro pins s σ H Q tok I h
  apply wpAny_Call_Name_kw
  refine ld_glob I hg hm ?_ hdb
  refine PySem.W.callWith_K (h₀ := X.base) I.ok.mod.kin M.kp (wpAny_mono (ha pos pins s σ H _ tok I h) (fun us s1 z => ?_) fun _ _ x => x) he hpl
  obtain ⟨vs, H1, I1, rr, q⟩ := z
  exact ⟨I1.kIn, run_makeS M F hr hb (hx σ) I1 rr q⟩
theorem cet_make {x : Str} {p : Pos} {k : Nat} {ps : List Str} {f : FN} (c : MakX X k x ps f) (tk : Takes X W) (hr : Room (k + 1) X.A) (hg : Gl X x) (hs : CAT X W (e :: es) ms)
    (hdb : (x == ("__debug__" : Str)) = false := by decide) (he : starEach (e :: es) X.env = (false, eval e X.env) :: starEach es X.env := by rfl) (hpl : (backTo pos (starEach es X.env)).any (·.1) = false := by rfl) : CET X W (.Call (.Name x p) (e :: es) [] pos) (eMake x (arity ps.length f) ms) := by
  obtain ⟨cc, fa, fd, h1, h2, F, hb⟩ := c.ex
  exact fun pins s σ H Q tok I ⟨α, h, env, r, sr, q⟩ => pet_makeW (E := WE W) h2 F hr hg h1 hb (fun σ => passAt tk σ) hs hdb he hpl pins s σ H Q tok I ⟨α, h, env, r, sr, post_bind q fun as hh α1 H1 vs r1 s1 ra q1 => make_read h1 r1 ra q1⟩
theorem cst_par {a b : Expr} {i j : Nat} {x y : Str} {px py pt : Pos} {kt k2 pt2} (hc : X.calm = true) (hN : X.N.Nodup) (hi : X.N[i]? = some x) (hj : X.N[j]? = some y) (hij : i ≠ j) (hx : X.env.scope.names.lookup x = some .local) (hy : X.env.scope.names.lookup y = some .local) (ha : CAT X W [a, b] ms)
    (hw : swappedStores [.Tuple [.Name x px, .Name y py] kt pt] (.Tuple [a, b] k2 pt2) X.env = pure (some [x, y])) : CST X W (.Assign [.Tuple [.Name x px, .Name y py] kt pt] (.Tuple [a, b] k2 pt2) pos) (sPar i j ms) :=
  fun pins s σ H D tok I ⟨α, h, env, r, sr, q⟩ => pst_par hc hN hi hj hij hx hy ha hw rfl pins s σ H D tok I ⟨α, h, env, r, sr, st_bind sr q fun as h1 α1 H1 vs r1 s1 ra q1 => by
    split at q1
    · obtain ⟨v, w, rfl, ra1, ra2⟩ := ra.two
      exact ⟨v, w, rfl, posts_nx q1 r1 (((sr.step s1.kp).set i ra1).set j ra2)⟩
    · exact q1.elim⟩
end
end Cl
namespace Cl
open PySem PySem.Spec PyProof.Rows L2
def isSeqA : A → Bool
  | .tup _ => true
  | .lst _ => true
  | .ref _ => true
  | _ => false
def vRepr : FN := fun as h => match as with
  | [a] => match toDh h a with
    | some d => if isSeqA a && d.showable && !d.hasDict && decide (d.depth ≤ 60) && decide (d.shown.length ≤ sizeLine) then .ok (.str d.shown) h else .bad
    | none => .bad
  | _ => .bad
theorem an_repr {K : PySem.W.Frag} {mg : Str → Option Value} : AbN K mg (Dg.rRepr K) vRepr := by
  intro W σ α h H vs as Q r ra q
  unfold vRepr at q
  split at q
  · rename_i a
    split at q
    · rename_i d e
      split at q
      · rename_i c
        simp only [Bool.and_eq_true, Bool.not_eq_true', decide_eq_true_eq] at c
        obtain ⟨⟨⟨⟨c1, c2⟩, c3⟩, c4⟩, c5⟩ := c
        obtain ⟨v, rfl, rv⟩ := ra.one
        have dp := r.dph rv e
        obtain ⟨p, rfl⟩ : ∃ p, v = .ref p := by
          cases rv <;> first | exact ⟨_, rfl⟩ | exact absurd c1 Bool.false_ne_true
        exact ⟨p, d, rfl, dp, c2, c3, c4, c5, post_ok q r (.str _)⟩
      · exact q.elim
    · exact q.elim
  · exact q.elim
section
variable {P : Program} {w : World} {K : PySem.W.Frag} {mg : Str → Option Value} {base : Heap}
theorem law_ok {x q : Str} {st : Stmt} {f : Addr} {fd : FuncData} {N ps : List Str} {k : Nat} {mb : MS} (F : Fun K x q st f fd) (S : FnScope N ps (defScope st))
    (hb : ∀ (cdv : Value) (A : Around) (outer : List PySem.Env) (s : Shared) (H : Hp) (E : XK), A.guards = some [] → Room k (A.deeper (envOfC q (defScope st) s.heap.objs.size f cdv)) → CSs (cxOf CX0 P w K mg base N q (defScope st) f cdv A outer s H E).nox W0 (defBody st) mb) :
    Dg.FnG P w K mg base CX0 (k + 1) f fd ps (spC0 K mg ps.length (fnOf N.length mb)) :=
  Dg.fnG_ok F S (fun vs H Q E z => spC0_len z) fun cdv A outer s H vs Q E hg hr ⟨α, h, as, r, ra, q0⟩ => ⟨_, hb cdv A outer s H E hg hr, α, h, envOf N.length as, r, sr_start ra, by
    unfold arity at q0
    split at q0
    · unfold fnOf at q0
      cases e : mb (envOf N.length as) h with
      | nx e1 h1 => rw [e] at q0; exact fun α' H' σ' a b c => q0 α' H' .non a b .non
      | rt a1 h1 => rw [e] at q0; exact q0
      | er c1 d e1 h1 => rw [e] at q0; exact fun α' H' σ' cv dd a b c z => q0 α' H' cv dd a b z
      | bk e1 h1 => rw [e] at q0; exact q0.elim
      | ct e1 h1 => rw [e] at q0; exact q0.elim
      | bad => rw [e] at q0; exact q0.elim
    · exact q0.elim⟩
end
end Cl
namespace Cl
open PySem PySem.Spec PyProof.Rows L2
def apart (α : Al) (h : AH) : List Addr := α.z ++ (List.range α.l.length).filterMap fun i => match h[i]? with
  | some (some _) => α.l[i]?
  | _ => none
def Al.out (α : Al) (h : AH) : Al := ⟨[], apart α h⟩
def isoR (r : R A) (h : AH) : R A := match r with
  | .ok a h1 => match fz 0 h1 200 a with
    | some b => if low 0 b then .ok b h else .bad
    | none => .bad
  | .er c none _ => .er c none h
  | .er c (some (f, a)) _ => if low 0 a then .er c (some (f, a)) h else .bad
  | .bad => .bad
def iso (f : FN) : FN := fun as h => if lows 0 as then isoR (f as []) h else .bad
def isoL (r : R (List A)) (h : AH) : R (List A) := match r with
  | .ok ys h1 => match mapO (fz 0 h1 200) ys with
    | some zs => if lows 0 zs then .ok zs h else .bad
    | none => .bad
  | _ => .bad
def isoG (f : List A → AH → R (List A)) : List A → AH → R (List A) := fun as h => if lows 0 as then isoL (f as []) h else .bad
def mkIso (C : Str) (f : FN) (as : List A) (h : AH) : R A := if lows 0 as then isoR (mkI C f as []) h else .bad
def eMakeI (C : Str) (f : FN) (ms : M (List A)) : M A := fun env h => (ms env h).bind fun as h1 => mkIso C f as h1
section
variable {K : PySem.W.Frag} {mg : Str → Option Value} {α α' : Al} {h h1 : AH} {H H' : Hp}
theorem apart_iff {p : Addr} (e : α.l.length = h.length) : p ∈ apart α h ↔ Lv α h p := by
  unfold apart Lv Live
  rw [List.mem_append, List.mem_filterMap]
  refine or_congr Iff.rfl ⟨fun ⟨i, _, z⟩ => ?_, fun ⟨i, o, a, b⟩ => ⟨i, ?_, ?_⟩⟩
  · split at z
    · rename_i o eo
      exact ⟨i, o, z, eo⟩
    · cases z
  · exact List.mem_range.mpr (List.getElem?_eq_some_iff.mp a).1
  · rw [b]; exact a
theorem lv_out {p : Addr} (e : α.l.length = h.length) : Lv (α.out h) [] p ↔ Lv α h p := by
  rw [← apart_iff e]
  exact ⟨fun z => z.elim id fun ⟨_, _, a, _⟩ => (by cases a), .inl⟩
theorem nolive {p : Addr} : ¬ Live (α.out h) [] p := fun ⟨_, _, a, _⟩ => by cases a
theorem Rel.out (r : Rel K mg α h H) : Rel K mg (α.out h) [] H where
  len := rfl
  nd := .nil
  has := fun p z => by cases z
  zs := fun p z => ⟨nolive, by
    rcases (apart_iff r.len).mp z with y | y
    · exact (r.zs p y).2
    · exact r.live_some y⟩
  at_ := fun n o e => by cases e
theorem Rel.back (r : Rel K mg α h H) (s : Stp (α.out h) [] H α' h1 H') : Rel K mg α h H' ∧ Stp α h H α h H' := by
  have all : ∀ p o, H p = some o → H' p = some o := fun p o e => s.keep p o e nolive
  have st : Stp α h H α h H' := ⟨fun _ _ e => e, rfl, fun p o e _ => all p o e, fun _ l => .inl l, fun _ l => .inl l⟩
  refine ⟨⟨r.len, r.nd, fun p z => ?_, fun p z => ?_, fun n o e => ?_⟩, st⟩
  · obtain ⟨o, e⟩ := r.has p z
    exact ⟨o, all p o e⟩
  · obtain ⟨a, o, e⟩ := r.zs p z
    exact ⟨a, o, all p o e⟩
  · obtain ⟨p, e1, oa⟩ := r.at_ n o e
    exact ⟨p, e1, oa.step st.kp fun u z => all p u z⟩
mutual
theorem RA.move {L L' : Addr → Prop} (i : ∀ p, L' p → L p) : ∀ {v : V} {a : A}, RA K mg α L H v a → low 0 a = true → RA K mg α' L' H v a
  | _, _, .non, _ => .non
  | _, _, .bl b, _ => .bl b
  | _, _, .int b, _ => .int b
  | _, _, .str b, _ => .str b
  | _, _, .tup h1 r, e => by
    unfold low at e
    refine .tup ?_ (r.move i e)
    rcases h1 with ⟨h1, h3⟩ | h1
    · exact .inl ⟨h1, fun z => h3 (i _ z)⟩
    · exact .inr h1
  | _, _, .lst h1 h2 r, e => by unfold low at e; exact .lst h1 (fun z => h2 (i _ z)) (r.move i e)
  | _, _, .scr h1 r, e => by
    unfold low at e
    refine .scr ?_ (r.move i e)
    rcases h1 with ⟨h1, h2⟩ | h1
    · exact .inl ⟨h1, fun z => h2 (i _ z)⟩
    · exact .inr h1
  | _, _, .dct h1 h2 r, e => by unfold low at e; exact .dct h1 (fun z => h2 (i _ z)) (r.move i e)
  | _, _, .obj h1 h2 h3 r, e => by unfold low at e; exact .obj h1 (fun z => h2 (i _ z)) h3 (r.move i e)
  | _, _, .fn b, _ => .fn b
  | _, _, .ref ep, e => by
    unfold low at e
    exact absurd (of_decide_eq_true e) (Nat.not_lt_zero _)
theorem RAs.move {L L' : Addr → Prop} (i : ∀ p, L' p → L p) : ∀ {vs : List V} {xs : List A}, RAs K mg α L H vs xs → lows 0 xs = true → RAs K mg α' L' H vs xs
  | _, _, .nil, _ => .nil
  | _, _, .cons r s, e => by
    unfold lows at e
    rw [Bool.and_eq_true] at e
    exact .cons (r.move i e.1) (s.move i e.2)
theorem RKs.move {L L' : Addr → Prop} (i : ∀ p, L' p → L p) : ∀ {vs : List (Key × V)} {xs : List (A × A)}, RKs K mg α L H vs xs → lowk 0 xs = true → RKs K mg α' L' H vs xs
  | _, _, .nil, _ => .nil
  | _, _, .cons r s, e => by
    unfold lowk at e
    rw [Bool.and_eq_true] at e
    exact .cons (r.move i e.1) (s.move i e.2)
theorem RFs.move {L L' : Addr → Prop} (i : ∀ p, L' p → L p) : ∀ {vs : List (Str × V)} {xs : List (Str × A)}, RFs K mg α L H vs xs → lowf 0 xs = true → RFs K mg α' L' H vs xs
  | _, _, .nil, _ => .nil
  | _, _, .cons r s, e => by
    unfold lowf at e
    rw [Bool.and_eq_true] at e
    exact .cons (r.move i e.1) (s.move i e.2)
end
theorem RAs.out (r : Rel K mg α h H) {vs : List V} {as : List A} (ra : RAs K mg α (Lv α h) H vs as) (e : lows 0 as = true) : RAs K mg (α.out h) (Lv (α.out h) []) H vs as := ra.move (fun _ => (lv_out r.len).mp) e
theorem cut_lv (r : Rel K mg α h H) (s : Stp (α.out h) [] H α' h1 H') : ∀ p, Lv α h p → Lv (α'.cut 0) (h1.take 0) p := fun p z => .inl (by
  show p ∈ α'.z
  rw [s.zeq]
  exact (apart_iff r.len).mpr z)
theorem RAs.fzs (r : Rel K mg α h H) {k n : Nat} {vs : List V} {as bs : List A} (ra : RAs K mg α (Lv α h) H vs as) (e : mapO (Cl.fz n h k) as = some bs) : RAs K mg (α.cut n) (Lv (α.cut n) (h.take n)) H vs bs := RAs.fz r ra e
theorem post_iso {W : WX} {σ : L2.St} {Q : VK} {r : R A} (rl : Rel K mg α h H) (q : Post rtA K mg W σ α h H (isoR r h) Q) : Post rtA K mg W σ (α.out h) [] H r Q := by
  unfold isoR at q
  cases r with
  | ok a h1 =>
    intro α' H' v r1 s1 ra
    dsimp only at q
    split at q
    · rename_i b e
      split at q
      · rename_i lo
        obtain ⟨r2, s2⟩ := rl.back s1
        exact q α H' v r2 s2 ((RA.fz r1 ra e).move (cut_lv rl s1) lo)
      · exact q.elim
    · exact q.elim
  | er c d h1 =>
    intro α' H' cv dd r1 s1 ea
    obtain ⟨r2, s2⟩ := rl.back s1
    cases d with
    | none => exact q α H' cv dd r2 s2 ea
    | some fa =>
      obtain ⟨f, a⟩ := fa
      dsimp only at q
      split at q
      · rename_i lo
        obtain ⟨e1, da, v, e2, e3, e4⟩ := ea
        refine q α H' cv dd r2 s2 ⟨e1, da, v, e2, e3, e4.move (fun p z => .inl ?_) lo⟩
        rw [s1.zeq]
        exact (apart_iff rl.len).mpr z
      · exact q.elim
  | bad => exact q.elim
end
section
variable {P : Program} {w : World} {K : PySem.W.Frag} {mg : Str → Option Value} {base : Heap} {k : Nat} {f : Addr} {fd : FuncData} {ps : List Str} {CX : CXT}
theorem spC_iso {n : Nat} {m : FN} {vs : List V} {H : Hp} {Q : VK} {E : XK} (x : spC K mg n (iso m) vs H Q E) : spC K mg n m vs H Q E := by
  obtain ⟨α, h, as, r, ra, q⟩ := x
  unfold arity at q
  split at q
  · rename_i hl
    unfold iso at q
    split at q
    · rename_i lo
      refine ⟨α.out h, [], as, r.out, ra.out r lo, ?_⟩
      unfold arity
      rw [if_pos hl]
      exact post_iso r q
    · exact q.elim
  · exact q.elim
theorem spC0_iso {n : Nat} {m : FN} {vs : List V} {H : Hp} {Q : VK} {E : XK} (x : spC0 K mg n (iso m) vs H Q E) : spC0 K mg n m vs H Q E := by
  obtain ⟨α, h, as, r, ra, q⟩ := x
  unfold arity at q
  split at q
  · rename_i hl
    unfold iso at q
    split at q
    · rename_i lo
      refine ⟨α.out h, [], as, r.out, ra.out r lo, ?_⟩
      unfold arity
      rw [if_pos hl]
      exact post_iso r q
    · exact q.elim
  · exact q.elim
theorem fnok_iso {n : Nat} {m : FN} (x : FnOk P w K mg base CX k f fd ps (spC K mg n m)) : FnOk P w K mg base CX k f fd ps (spC K mg n (iso m)) := fnok_imp x fun _ _ _ _ => spC_iso
theorem cal_iso {x : Str} {m : FN} (c : Dg.Cal P w K mg base CX k x ps (spC K mg ps.length m)) : Dg.Cal P w K mg base CX k x ps (spC K mg ps.length (iso m)) := by
  obtain ⟨fa, fd, F, a, b, d⟩ := c.ex
  exact ⟨fa, fd, fnok_iso F, a, b, d⟩
theorem met_iso {C x : Str} {m : FN} (c : MetC P w K mg base k C x ps m) : MetC P w K mg base k C x ps (iso m) := by
  obtain ⟨ca, fa, fd, a, b, d, F, e⟩ := c.ex
  exact ⟨ca, fa, fd, a, b, d, fnok_iso F, e⟩
theorem calT_iso {x : Str} {m : FN} (c : CalT P w K mg base k x m) : CalT P w K mg base k x (iso m) := by
  obtain ⟨fa, fd, F, a, b, d⟩ := c.ex
  exact ⟨fa, fd, ⟨fun vs H Q E z => F.cnt vs H Q E (spC0_iso z), fun A outer s H args us vs Q E r e0 b1 rel z => F.go A outer s H args us vs Q E r e0 b1 rel (spC0_iso z)⟩, a, b, d⟩
theorem spG_iso {n : Nat} {m : List A → AH → R (List A)} {vs : List V} {H : Hp} {Q : List V → Hp → Prop} {E : XK} (x : spG K mg n (isoG m) vs H Q E) : spG K mg n m vs H Q E := by
  obtain ⟨α, h, as, r, ra, hl, q⟩ := x
  unfold isoG at q
  split at q
  · rename_i ys h' e
    split at e
    · rename_i lo
      refine ⟨α.out h, [], as, r.out, ra.out r lo, hl, ?_⟩
      cases em : m as [] with
      | ok xs h1 =>
        rw [em] at e
        unfold isoL at e
        dsimp only at e
        split at e
        · rename_i zs ez
          split at e
          · rename_i lz
            cases e
            intro α' H' us r1 s1 ru
            obtain ⟨r2, s2⟩ := r.back s1
            exact q α H' us r2 s2 ((RAs.fzs r1 ru ez).move (cut_lv r s1) lz)
          · cases e
        · cases e
      | er c d h1 => rw [em] at e; cases e
      | bad => rw [em] at e; cases e
    · cases e
  · exact q.elim
theorem metG_iso {C x : Str} {m : List A → AH → R (List A)} (c : MetG P w K mg base k C x ps m) : MetG P w K mg base k C x ps (isoG m) := by
  obtain ⟨ca, fa, fd, a, b, d, F, e⟩ := c.ex
  exact ⟨ca, fa, fd, a, b, d, ⟨fun vs H Q E z => F.len vs H Q E (spG_iso z), fun A outer s H args us vs Q E r e0 b1 rel z => F.run A outer s H args us vs Q E r e0 b1 rel (spG_iso z)⟩, e⟩
end
section
variable {X : Cx} {W : WX} {e : Expr} {es : List Expr} {ms : M (List A)} {pos p : Pos} {k : Nat} {x C : Str} {ps : List Str} {f : FN}
theorem make_readI {n : Nat} {c : Addr} {σ : L2.St} {α : Al} {h : AH} {H : Hp} {as : List A} {vs : List V} {Q : VK} (hm : X.mg C = some (.ref c)) (r : Rel X.K X.mg α h H) (ra : RAs X.K X.mg α (Lv α h) H vs as) (q : Post rtA X.K X.mg W σ α h H (mkIso C (arity n f) as h) Q) :
    ∀ x dx, H x = none → H dx = none → dx ≠ x → spC X.K X.mg n f (.ref x :: vs) (upd (upd H dx (.own x)) x (.ins c dx [])) (fun v H2 => v = .non ∧ Q (.ref x) H2) (WE W σ) := by
  unfold mkIso at q
  split at q
  · rename_i lo
    exact make_read hm r.out (ra.out r lo) (post_iso r q)
  · exact q.elim
theorem ce_makeI (c : MakX X k x ps f) (tk : Takes X W) (hr : Room (k + 1) X.A) (hg : Gl X x) (hs : CAs X W (e :: es) ms)
    (hdb : (x == ("__debug__" : Str)) = false := by decide) (he : starEach (e :: es) X.env = (false, eval e X.env) :: starEach es X.env := by rfl) (hpl : (backTo pos (starEach es X.env)).any (·.1) = false := by rfl) :
    CE X W (.Call (.Name x p) (e :: es) [] pos) (eMakeI x (arity ps.length f) ms) := by
  obtain ⟨cc, fa, fd, h1, h2, F, hb⟩ := c.ex
  exact ce_of (pe_makeW (E := WE W) h2 F hr hg h1 hb (fun σ => passAt tk σ) hs hdb he hpl) fun σ α h H env Q r s q => ⟨α, h, env, r, s, post_bind q fun as hh α1 H1 vs r1 s1 ra q1 => make_readI h1 r1 ra q1⟩
theorem cet_makeI (c : MakX X k x ps f) (tk : Takes X W) (hr : Room (k + 1) X.A) (hg : Gl X x) (hs : CAT X W (e :: es) ms)
    (hdb : (x == ("__debug__" : Str)) = false := by decide) (he : starEach (e :: es) X.env = (false, eval e X.env) :: starEach es X.env := by rfl) (hpl : (backTo pos (starEach es X.env)).any (·.1) = false := by rfl) : CET X W (.Call (.Name x p) (e :: es) [] pos) (eMakeI x (arity ps.length f) ms) := by
  obtain ⟨cc, fa, fd, h1, h2, F, hb⟩ := c.ex
  exact fun pins s σ H Q tok I ⟨α, h, env, r, sr, q⟩ => pet_makeW (E := WE W) h2 F hr hg h1 hb (fun σ => passAt tk σ) hs hdb he hpl pins s σ H Q tok I ⟨α, h, env, r, sr, post_bind q fun as hh α1 H1 vs r1 s1 ra q1 => make_readI h1 r1 ra q1⟩
end
def vNeS : F2 := fun a b h => match a, b with
  | .str x, .str y => .ok (.bl (!decide (x = y))) h
  | _, _ => .bad
theorem ab_neS {K : PySem.W.Frag} {mg : Str → Option Value} : Ab2 K mg rNe vNeS := by
  intro W σ α h H x y a b Q r ra rb q
  unfold vNeS at q
  split at q
  · rename_i x y
    cases ra
    cases rb
    have e : decide (V.str x = V.str y) = decide (x = y) := by
      by_cases c : x = y
      · rw [decide_eq_true c, decide_eq_true (congrArg V.str c)]
      · rw [decide_eq_false c, decide_eq_false fun z => c (by injection z)]
    refine ⟨rfl, ?_⟩
    rw [e]
    exact post_ok q r (.bl _)
  · exact q.elim
end Cl
namespace Cl
open PySem PySem.Spec PyProof.Rows L2
def SR1.sq (r : SR1) (b : MS) : SR1 := match r with
  | .nx e h => b e h
  | r => r
section
variable {β γ : Type} {a b : β} {h h1 : AH} {env : Env} {f : β → AH → R γ} {g : β → AH → SR1} {m : MS} {c : Str} {d : Option (Str × A)}
theorem v_bind : (R.ok a h).bind f = f a h := rfl
theorem v_bindE : (R.er c d h : R β).bind f = .er c d h := rfl
theorem v_st : (R.ok a h).st env g = g a h := rfl
theorem v_stE : (R.er c d h : R β).st env g = .er c d env h := rfl
theorem v_noer : (R.ok a h).noer = R.ok a h := rfl
theorem v_sq : (SR1.nx env h).sq m = m env h := rfl
theorem v_sqR {x : A} : (SR1.rt x h).sq m = .rt x h := rfl
theorem v_sqE : (SR1.er c d env h).sq m = .er c d env h := rfl
theorem v_sqB : (SR1.bk env h).sq m = .bk env h := rfl
theorem v_sqC : (SR1.ct env h).sq m = .ct env h := rfl
theorem v_bodyR {x : A} : bodyR (.rt x h) = .ok x h := rfl
theorem v_bodyN : bodyR (.nx env h) = .ok .non h := rfl
theorem v_bodyE : bodyR (.er c d env h) = .er c d h := rfl
end
section
variable {env : Env} {h : AH} {ma mb mo mi mv : M A} {ms : M (List A)} {mc md : M Bool} {sa sb : MS} {i : Nat} {a b : A} {f : F2} {fn : FN} {as : List A}
theorem v_seq : sSeq sa sb env h = (sa env h).sq sb := rfl
theorem v_var (e : env[i]? = some (some a)) : eVar i env h = .ok a h := by unfold eVar; rw [e]
theorem v_c : eC a env h = .ok a h := rfl
theorem v_bin : eBin f ma mb env h = (ma env h).bind fun a h => (mb env h).bind fun b h => f a b h := rfl
theorem v_un {f : F1} : eUn f ma env h = (ma env h).bind fun a h => f a h := rfl
theorem v_nil : eNil env h = .ok [] h := rfl
theorem v_cons : eCons ma ms env h = (ma env h).bind fun a h => (ms env h).bind fun r h => .ok (a :: r) h := rfl
theorem v_call : eCall fn ms env h = (ms env h).bind fun as h => fn as h := rfl
theorem v_arity {n : Nat} (e : as.length = n) : arity n fn as h = fn as h := if_pos e
theorem v_ar {n : Nat} : arity n fn as h = if as.length = n then fn as h else .bad := rfl
theorem v_asg : sAsg (.name i) ma env h = (ma env h).st env fun a h => if i < env.length then .nx (env.set i (some a)) h else .bad := by
  unfold sAsg
  refine congrArg _ (funext fun a => funext fun h => ?_)
  by_cases c : i < env.length
  · simp only [Tg.put, c, if_true]
  · simp only [Tg.put, c, if_false]
theorem v_v0 {env : Env} : eVar 0 (some a :: env) h = .ok a h := rfl
theorem v_a0 {x0 : Option A} {env : Env} : sAsg (.name 0) ma (x0 :: env) h = (ma (x0 :: env) h).st (x0 :: env) fun a h => .nx (some a :: env) h := by
  rw [v_asg]
  refine congrArg _ (funext fun a => funext fun h => ?_)
  rw [if_pos (by simp only [List.length_cons]; omega)]
  rfl
theorem v_v1 {x0 : Option A} {env : Env} : eVar 1 (x0 :: some a :: env) h = .ok a h := rfl
theorem v_a1 {x0 x1 : Option A} {env : Env} : sAsg (.name 1) ma (x0 :: x1 :: env) h = (ma (x0 :: x1 :: env) h).st (x0 :: x1 :: env) fun a h => .nx (x0 :: some a :: env) h := by
  rw [v_asg]
  refine congrArg _ (funext fun a => funext fun h => ?_)
  rw [if_pos (by simp only [List.length_cons]; omega)]
  rfl
theorem v_v2 {x0 x1 : Option A} {env : Env} : eVar 2 (x0 :: x1 :: some a :: env) h = .ok a h := rfl
theorem v_a2 {x0 x1 x2 : Option A} {env : Env} : sAsg (.name 2) ma (x0 :: x1 :: x2 :: env) h = (ma (x0 :: x1 :: x2 :: env) h).st (x0 :: x1 :: x2 :: env) fun a h => .nx (x0 :: x1 :: some a :: env) h := by
  rw [v_asg]
  refine congrArg _ (funext fun a => funext fun h => ?_)
  rw [if_pos (by simp only [List.length_cons]; omega)]
  rfl
theorem v_v3 {x0 x1 x2 : Option A} {env : Env} : eVar 3 (x0 :: x1 :: x2 :: some a :: env) h = .ok a h := rfl
theorem v_a3 {x0 x1 x2 x3 : Option A} {env : Env} : sAsg (.name 3) ma (x0 :: x1 :: x2 :: x3 :: env) h = (ma (x0 :: x1 :: x2 :: x3 :: env) h).st (x0 :: x1 :: x2 :: x3 :: env) fun a h => .nx (x0 :: x1 :: x2 :: some a :: env) h := by
  rw [v_asg]
  refine congrArg _ (funext fun a => funext fun h => ?_)
  rw [if_pos (by simp only [List.length_cons]; omega)]
  rfl
theorem v_v4 {x0 x1 x2 x3 : Option A} {env : Env} : eVar 4 (x0 :: x1 :: x2 :: x3 :: some a :: env) h = .ok a h := rfl
theorem v_a4 {x0 x1 x2 x3 x4 : Option A} {env : Env} : sAsg (.name 4) ma (x0 :: x1 :: x2 :: x3 :: x4 :: env) h = (ma (x0 :: x1 :: x2 :: x3 :: x4 :: env) h).st (x0 :: x1 :: x2 :: x3 :: x4 :: env) fun a h => .nx (x0 :: x1 :: x2 :: x3 :: some a :: env) h := by
  rw [v_asg]
  refine congrArg _ (funext fun a => funext fun h => ?_)
  rw [if_pos (by simp only [List.length_cons]; omega)]
  rfl
theorem v_v5 {x0 x1 x2 x3 x4 : Option A} {env : Env} : eVar 5 (x0 :: x1 :: x2 :: x3 :: x4 :: some a :: env) h = .ok a h := rfl
theorem v_a5 {x0 x1 x2 x3 x4 x5 : Option A} {env : Env} : sAsg (.name 5) ma (x0 :: x1 :: x2 :: x3 :: x4 :: x5 :: env) h = (ma (x0 :: x1 :: x2 :: x3 :: x4 :: x5 :: env) h).st (x0 :: x1 :: x2 :: x3 :: x4 :: x5 :: env) fun a h => .nx (x0 :: x1 :: x2 :: x3 :: x4 :: some a :: env) h := by
  rw [v_asg]
  refine congrArg _ (funext fun a => funext fun h => ?_)
  rw [if_pos (by simp only [List.length_cons]; omega)]
  rfl
theorem v_v6 {x0 x1 x2 x3 x4 x5 : Option A} {env : Env} : eVar 6 (x0 :: x1 :: x2 :: x3 :: x4 :: x5 :: some a :: env) h = .ok a h := rfl
theorem v_a6 {x0 x1 x2 x3 x4 x5 x6 : Option A} {env : Env} : sAsg (.name 6) ma (x0 :: x1 :: x2 :: x3 :: x4 :: x5 :: x6 :: env) h = (ma (x0 :: x1 :: x2 :: x3 :: x4 :: x5 :: x6 :: env) h).st (x0 :: x1 :: x2 :: x3 :: x4 :: x5 :: x6 :: env) fun a h => .nx (x0 :: x1 :: x2 :: x3 :: x4 :: x5 :: some a :: env) h := by
  rw [v_asg]
  refine congrArg _ (funext fun a => funext fun h => ?_)
  rw [if_pos (by simp only [List.length_cons]; omega)]
  rfl
theorem v_v7 {x0 x1 x2 x3 x4 x5 x6 : Option A} {env : Env} : eVar 7 (x0 :: x1 :: x2 :: x3 :: x4 :: x5 :: x6 :: some a :: env) h = .ok a h := rfl
theorem v_a7 {x0 x1 x2 x3 x4 x5 x6 x7 : Option A} {env : Env} : sAsg (.name 7) ma (x0 :: x1 :: x2 :: x3 :: x4 :: x5 :: x6 :: x7 :: env) h = (ma (x0 :: x1 :: x2 :: x3 :: x4 :: x5 :: x6 :: x7 :: env) h).st (x0 :: x1 :: x2 :: x3 :: x4 :: x5 :: x6 :: x7 :: env) fun a h => .nx (x0 :: x1 :: x2 :: x3 :: x4 :: x5 :: x6 :: some a :: env) h := by
  rw [v_asg]
  refine congrArg _ (funext fun a => funext fun h => ?_)
  rw [if_pos (by simp only [List.length_cons]; omega)]
  rfl
theorem v_v8 {x0 x1 x2 x3 x4 x5 x6 x7 : Option A} {env : Env} : eVar 8 (x0 :: x1 :: x2 :: x3 :: x4 :: x5 :: x6 :: x7 :: some a :: env) h = .ok a h := rfl
theorem v_a8 {x0 x1 x2 x3 x4 x5 x6 x7 x8 : Option A} {env : Env} : sAsg (.name 8) ma (x0 :: x1 :: x2 :: x3 :: x4 :: x5 :: x6 :: x7 :: x8 :: env) h = (ma (x0 :: x1 :: x2 :: x3 :: x4 :: x5 :: x6 :: x7 :: x8 :: env) h).st (x0 :: x1 :: x2 :: x3 :: x4 :: x5 :: x6 :: x7 :: x8 :: env) fun a h => .nx (x0 :: x1 :: x2 :: x3 :: x4 :: x5 :: x6 :: x7 :: some a :: env) h := by
  rw [v_asg]
  refine congrArg _ (funext fun a => funext fun h => ?_)
  rw [if_pos (by simp only [List.length_cons]; omega)]
  rfl
theorem v_v9 {x0 x1 x2 x3 x4 x5 x6 x7 x8 : Option A} {env : Env} : eVar 9 (x0 :: x1 :: x2 :: x3 :: x4 :: x5 :: x6 :: x7 :: x8 :: some a :: env) h = .ok a h := rfl
theorem v_a9 {x0 x1 x2 x3 x4 x5 x6 x7 x8 x9 : Option A} {env : Env} : sAsg (.name 9) ma (x0 :: x1 :: x2 :: x3 :: x4 :: x5 :: x6 :: x7 :: x8 :: x9 :: env) h = (ma (x0 :: x1 :: x2 :: x3 :: x4 :: x5 :: x6 :: x7 :: x8 :: x9 :: env) h).st (x0 :: x1 :: x2 :: x3 :: x4 :: x5 :: x6 :: x7 :: x8 :: x9 :: env) fun a h => .nx (x0 :: x1 :: x2 :: x3 :: x4 :: x5 :: x6 :: x7 :: x8 :: some a :: env) h := by
  rw [v_asg]
  refine congrArg _ (funext fun a => funext fun h => ?_)
  rw [if_pos (by simp only [List.length_cons]; omega)]
  rfl
theorem v_v10 {x0 x1 x2 x3 x4 x5 x6 x7 x8 x9 : Option A} {env : Env} : eVar 10 (x0 :: x1 :: x2 :: x3 :: x4 :: x5 :: x6 :: x7 :: x8 :: x9 :: some a :: env) h = .ok a h := rfl
theorem v_a10 {x0 x1 x2 x3 x4 x5 x6 x7 x8 x9 x10 : Option A} {env : Env} : sAsg (.name 10) ma (x0 :: x1 :: x2 :: x3 :: x4 :: x5 :: x6 :: x7 :: x8 :: x9 :: x10 :: env) h = (ma (x0 :: x1 :: x2 :: x3 :: x4 :: x5 :: x6 :: x7 :: x8 :: x9 :: x10 :: env) h).st (x0 :: x1 :: x2 :: x3 :: x4 :: x5 :: x6 :: x7 :: x8 :: x9 :: x10 :: env) fun a h => .nx (x0 :: x1 :: x2 :: x3 :: x4 :: x5 :: x6 :: x7 :: x8 :: x9 :: some a :: env) h := by
  rw [v_asg]
  refine congrArg _ (funext fun a => funext fun h => ?_)
  rw [if_pos (by simp only [List.length_cons]; omega)]
  rfl
theorem v_v11 {x0 x1 x2 x3 x4 x5 x6 x7 x8 x9 x10 : Option A} {env : Env} : eVar 11 (x0 :: x1 :: x2 :: x3 :: x4 :: x5 :: x6 :: x7 :: x8 :: x9 :: x10 :: some a :: env) h = .ok a h := rfl
theorem v_a11 {x0 x1 x2 x3 x4 x5 x6 x7 x8 x9 x10 x11 : Option A} {env : Env} : sAsg (.name 11) ma (x0 :: x1 :: x2 :: x3 :: x4 :: x5 :: x6 :: x7 :: x8 :: x9 :: x10 :: x11 :: env) h = (ma (x0 :: x1 :: x2 :: x3 :: x4 :: x5 :: x6 :: x7 :: x8 :: x9 :: x10 :: x11 :: env) h).st (x0 :: x1 :: x2 :: x3 :: x4 :: x5 :: x6 :: x7 :: x8 :: x9 :: x10 :: x11 :: env) fun a h => .nx (x0 :: x1 :: x2 :: x3 :: x4 :: x5 :: x6 :: x7 :: x8 :: x9 :: x10 :: some a :: env) h := by
  rw [v_asg]
  refine congrArg _ (funext fun a => funext fun h => ?_)
  rw [if_pos (by simp only [List.length_cons]; omega)]
  rfl
theorem v_ret : sRet ma env h = (ma env h).st env fun a h => .rt a h := rfl
theorem v_retN : sRetN env h = .rt .non h := rfl
theorem v_expr : sExpr ma env h = (ma env h).st env fun _ h => .nx env h := rfl
theorem v_if : sIf mc sa sb env h = (mc env h).st env fun k h => if k then sa env h else sb env h := rfl
theorem v_nx : sNext env h = .nx env h := rfl
theorem v_bool : mBool ma env h = (ma env h).bind fun a h => match a with
  | .bl b => .ok b h
  | _ => .bad := rfl
theorem v_boolOk {k : Bool} (e : ma env h = .ok (.bl k) h) : mBool ma env h = .ok k h := by unfold mBool; rw [e]; rfl
theorem v_tru : mTru ma env h = (ma env h).bind fun a h => match truA h a with
  | some b => .ok b h
  | none => .bad := rfl
theorem v_and : mAnd mc md env h = (mc env h).bind fun b h => if b then md env h else .ok false h := rfl
theorem v_or : mOr mc md env h = (mc env h).bind fun b h => if b then .ok true h else md env h := rfl
theorem v_not : mNot mc env h = (mc env h).bind fun b h => .ok (!b) h := rfl
theorem v_eif : eIf mc ma mb env h = (mc env h).bind fun b h => if b then ma env h else mb env h := rfl
theorem v_tup : eTup ms env h = (ms env h).bind fun as h => if as.length ≤ lim then .ok (.tup as) h else .bad := rfl
theorem v_lst {lv : Bool} : eLst lv ms env h = (ms env h).bind fun as h => if as.length ≤ lim then mkL lv as h else .bad := rfl
theorem v_lst0 : eLst false eNil env h = .ok (.lst []) h := rfl
theorem v_pow18 : vPow (.int 10) (.int 18) h = .ok (.int 1000000000000000000) h := rfl
theorem v_mkL {xs : List A} : mkL false xs h = .ok (.lst xs) h := rfl
theorem v_mkLt {xs : List A} : mkL true xs h = .ok (.ref h.length) (h ++ [some (.lst xs)]) := rfl
theorem v_mkD {xs : List (A × A)} : mkD false xs h = .ok (.dct xs) h := rfl
theorem v_mkDt {xs : List (A × A)} : mkD true xs h = .ok (.ref h.length) (h ++ [some (.dct xs)]) := rfl
theorem v_par {j : Nat} : sPar i j ms env h = (ms env h).st env fun as h => match as with
  | [a, b] => .nx ((env.set i (some a)).set j (some b)) h
  | _ => .bad := rfl
theorem v_int {z : Int} : vInt [.int z] h = .ok (.int z) h := rfl
theorem v_abs {z : Int} : vAbs [.int z] h = .ok (.int (if z < 0 then -z else z)) h := rfl
theorem v_addI {x y : Int} {lv : Bool} : vAdd lv (.int x) (.int y) h = .ok (.int (x + y)) h := rfl
theorem v_subI {x y : Int} : vSub (.int x) (.int y) h = .ok (.int (x - y)) h := rfl
theorem v_gt {x y : Int} : vGt (.int x) (.int y) h = .ok (.bl (decide (y < x))) h := rfl
theorem v_ge {x y : Int} : vGe (.int x) (.int y) h = .ok (.bl (decide (y ≤ x))) h := rfl
theorem v_lt {x y : Int} : vLtT (.int x) (.int y) h = .ok (.bl (decide (x < y))) h := rfl
theorem v_part : ePart ma env h = (ma env h).bind fun a h => match a with
  | .int i => .ok (some i) h
  | _ => .bad := rfl
theorem v_nopart : eNoPart env h = .ok none h := rfl
theorem v_sl {lv : Bool} {ml mh : M (Option Int)} : eSl lv ma ml mh env h = (ma env h).bind fun a h => (ml env h).bind fun l h => (mh env h).bind fun u h => vSl lv a l u h := rfl
theorem v_slL {xs : List A} {l u : Option Int} : vSl false (.lst xs) l u h = .ok (.lst (cutA xs l u)) h := rfl
theorem v_lenL {xs : List A} : vLen [.lst xs] h = .ok (.int xs.length) h := rfl
theorem v_makeI {C : Str} : eMakeI C fn ms env h = (ms env h).bind fun as h1 => mkIso C fn as h1 := rfl
theorem v_meth {C m : Str} {fs : List (Str × A)} (e : mo env h = .ok (.obj C fs) h) (l : (fs.lookup m).isNone = true) : eMeth C m fn mo ms env h = (ms env h).bind fun as h => fn (.obj C fs :: as) h := by
  unfold eMeth
  rw [e, v_bind]
  show (if C = C ∧ (fs.lookup m).isNone = true then _ else _) = _
  rw [if_pos ⟨rfl, l⟩]
theorem v_listM {C m : Str} {fs : List (Str × A)} {n : Nat} {f : List A → AH → R (List A)} {lv : Bool} (e : mo env h = .ok (.obj C fs) h) (l : (fs.lookup m).isNone = true) : eListM lv C m n f mo ms env h = (ms env h).bind fun as h => if as.length + 1 = n then (f (.obj C fs :: as) h).noer.bind fun ys h => mkL lv ys h else .bad := by
  unfold eListM
  rw [e, v_bind]
  show (if C = C ∧ (fs.lookup m).isNone = true then _ else _) = _
  rw [if_pos ⟨rfl, l⟩]
theorem v_repl {y z x : Str} (e : ma env h = .ok (.str x) h) (hl : x.length + (x.length + 1) * z.length ≤ 16777216) : eRepl y z ma env h = .ok (.str (Txt.replace x y z)) h := by
  unfold eRepl; rw [e]
  exact if_pos hl
theorem cutA_take (xs : List A) (n : Nat) (e : n ≤ xs.length) : cutA xs none (some n) = xs.take n := by
  unfold cutA
  rw [HT.sIx_none, HT.sIx_nat, Nat.min_eq_left e]
  rfl
end
end Cl
namespace Cl
open PySem PySem.Spec PyProof.Rows L2
section
variable {K : PySem.W.Frag} {mg : Str → Option Value} {w : World}
theorem gv_int {x : Str} {i : Int} {t : Tok} (g : mg x = some (.int i t)) : GV K mg x (.int i) := ⟨.int i, _, g, ⟨t, rfl⟩, fun _ _ _ => .int i⟩
theorem gv_str {x y : Str} {t : Tok} (g : mg x = some (.str y t)) : GV K mg x (.str y) := ⟨.str y, _, g, ⟨t, rfl⟩, fun _ _ _ => .str y⟩
inductive Txts : List Value → List Str → Prop
  | nil : Txts [] []
  | cons {y : Str} {t : Tok} {us : List Value} {ys : List Str} : Txts us ys → Txts (.str y t :: us) (y :: ys)
theorem Txts.vals : ∀ {us : List Value} {ys : List Str}, Txts us ys → Vals (ys.map V.str) us
  | _, _, .nil => .nil
  | _, _, .cons r => .cons ⟨_, rfl⟩ r.vals
theorem ras_strs {α : Al} {L : Addr → Prop} {H : Hp} : ∀ ys : List Str, RAs K mg α L H (ys.map V.str) (ys.map A.str)
  | [] => .nil
  | y :: r => .cons (.str y) (ras_strs r)
theorem gv_strs {x : Str} {p : Addr} {od : Option Addr} {us : List Value} {ys : List Str} {n : Nat} {sl : Array (Option Value)} (g : mg x = some (.ref p)) (l : K.lookup p = some ⟨.type "tuple", od, .seq us.toArray n, sl⟩) (hs : us.length ≤ 1000) (r : Txts us ys) : GV K mg x (.tup (ys.map A.str)) :=
  ⟨.ref p, _, g, rfl, fun α L H => .tup (.inr ⟨_, us.toArray, n, l, rfl, rfl, by rw [List.size_toArray]; exact Nat.le_trans hs (by decide), r.vals⟩) (ras_strs ys)⟩
theorem fld_nil {f : Str} : FldOk K mg f [] := fun C h => by cases h
theorem fld_cons {f C : Str} {c : Addr} {cl : List Str} (g : mg C = some (.ref c)) (h : Cls K c) (n : NoAttr K c f) (r : FldOk K mg f cl) : FldOk K mg f (C :: cl) := fun D hd d e => by
  rcases List.mem_cons.mp hd with z | z
  · subst z
    rw [g] at e
    injection e with e1
    injection e1 with e2
    subst e2
    exact ⟨h, n⟩
  · exact r D z d e
def ent (P : Params) (e : Str × Tok × Addr) : DictEntry := ⟨PyData.keyHash P e.1, .str e.1 e.2.1, .ref e.2.2⟩
inductive KdRows (mg : Str → Option Value) : List (Str × Tok × Addr) → KTab → Prop
  | nil : KdRows mg [] []
  | cons {x g : Str} {t : Tok} {f : Addr} {es : List (Str × Tok × Addr)} {kd : KTab} : mg g = some (.ref f) → KdRows mg es kd → KdRows mg ((x, t, f) :: es) ((x, .fn g) :: kd)
theorem ent_lit {P : Params} : ∀ es : List (Str × Tok × Addr), PySem.W.KeysLit P (es.map (ent P))
  | [] => trivial
  | (x, t, f) :: r => ⟨⟨x, t, rfl, rfl⟩, ent_lit r⟩
theorem kd_mk {x : Str} {d : Addr} {n : Nat} {es : List (Str × Tok × Addr)} {kd : KTab} (g : mg x = some (.ref d)) (l : K.lookup d = some ⟨.type "dict", none, .dict (es.map (ent w.params)).toArray n, #[]⟩) (low : (d == sysModules) = false) (r : KdRows mg es kd) : KdOk K w mg x kd := by
  refine ⟨d, (es.map (ent w.params)).toArray, n, g, ⟨l, ent_lit es, low⟩, fun z => ?_⟩
  have look : PySem.W.nsIn K d z = match (es.map (ent w.params)).find? (·.key.isStr z) with
      | some e => some (some e.val)
      | none => if (es.map (ent w.params)).any (·.refKey) then none else some none := by
    unfold PySem.W.nsIn
    rw [l]
    rfl
  have noref : ∀ es : List (Str × Tok × Addr), (es.map (ent w.params)).any (·.refKey) = false := by
    intro es
    induction es with
    | nil => rfl
    | cons e r ih => rw [List.map_cons, List.any_cons, ih]; rfl
  rw [look, noref es]
  clear look l noref
  induction r with
  | nil => exact ⟨fun _ => rfl, fun a e => by cases e⟩
  | cons m r ih =>
    rename_i y g t f es kd
    rw [List.map_cons, List.find?_cons, List.lookup_cons]
    have key : (ent w.params (y, t, f)).key.isStr z = (z == y) := by
      show (y == z) = (z == y)
      rw [Bool.eq_iff_iff, beq_iff_eq, beq_iff_eq]
      exact eq_comm
    rw [key]
    cases c : z == y with
    | true =>
      refine ⟨fun e => (by cases e), fun a e => ?_⟩
      cases e
      exact ⟨.ref f, .ref f, rfl, rfl, fun _ _ _ => .fn m⟩
    | false => exact ih
end
section
variable {P : Program} {w : World} {K : PySem.W.Frag} {mg : Str → Option Value} {base : Heap} {j k : Nat} {x : Str} {ps : List Str} {f0 : FN} {r : FTab}
theorem tab_nil : TabOk P w K mg base j [] := fun x f e => by cases e
theorem tab_cons (c : Dg.Cal P w K mg base (L2.CX P w) k x ps (spC K mg ps.length f0)) (hk : k ≤ j) (t : TabOk P w K mg base j r) : TabOk P w K mg base j ((x, arity ps.length f0) :: r) := fun y f e => by
  rw [List.lookup_cons] at e
  cases z : y == x with
  | true =>
    rw [z] at e
    cases e
    obtain rfl := beq_iff_eq.mp z
    exact ⟨k, ps, f0, hk, c, rfl⟩
  | false =>
    rw [z] at e
    exact t y f e
end
theorem fnG_imp {P : Program} {w : World} {K : PySem.W.Frag} {mg : Str → Option Value} {base : Heap} {C : CXT} {k : Nat} {f : Addr} {fd : FuncData} {ps : List Str} {sp sp' : Sp} (x : Dg.FnG P w K mg base C k f fd ps sp) (i : ∀ vs H Q E, sp' vs H Q E → sp vs H Q E) : Dg.FnG P w K mg base C k f fd ps sp' :=
  ⟨fun vs H Q E z => x.cnt vs H Q E (i _ _ _ _ z), fun A outer s H args us vs Q E a b c d e z => x.go A outer s H args us vs Q E a b c d e (i _ _ _ _ z)⟩
def spLaw (K : PySem.W.Frag) : Sp := fun vs H Q _ => ∃ (a : Addr) (ns : List Int), vs = [.ref a] ∧ SqL K H a (ns.map V.int) ∧ ns.length ≤ 63 ∧ ∀ H', Q (.bl true) H'
theorem ras_ints {K : PySem.W.Frag} {mg : Str → Option Value} {α : Al} {L : Addr → Prop} {H : Hp} : ∀ ns : List Int, RAs K mg α L H (ns.map V.int) (ns.map A.int)
  | [] => .nil
  | n :: r => .cons (.int n) (ras_ints r)
theorem law_of {P : Program} {w : World} {K : PySem.W.Frag} {mg : Str → Option Value} {base : Heap} {C : CXT} {k : Nat} {f : Addr} {fd : FuncData} {ps : List Str} {m : FN} (n1 : ps.length = 1) (x : Dg.FnG P w K mg base C k f fd ps (spC0 K mg ps.length m))
    (true_ : ∀ ns : List Int, ns.length ≤ 63 → ∃ h', m [.scr (ns.map .int)] [] = .ok (.bl true) h') : Dg.FnG P w K mg base C k f fd ps (spLaw K) := by
  refine fnG_imp x fun vs H Q E ⟨a, ns, e, s, l, q⟩ => ?_
  subst e
  obtain ⟨h', em⟩ := true_ ns l
  refine ⟨⟨[], []⟩, [], [.scr (ns.map .int)], ⟨rfl, .nil, fun p z => (by cases z), fun p z => (by cases z), fun n o z => (by cases z)⟩, .cons (.scr ?_ (ras_ints ns)) .nil, ?_⟩
  · rcases s with s | s
    · exact .inl ⟨s, fun z => z.elim (fun y => by cases y) fun ⟨_, _, y, _⟩ => by cases y⟩
    · exact .inr s
  · unfold arity
    rw [if_pos (show [A.scr (ns.map A.int)].length = ps.length from n1.symm), em]
    intro α' H' v r1 s1 ra
    cases ra
    exact q H'
end Cl
namespace Cl
open PySem PySem.Spec PyProof.Rows L2
def topS (i : Nat) : Stmt := PySem.Challenge.pw_digitsturn_k06_runs_by_hand.main.body.getD i (.Pass ⟨0, 0, 0, 0⟩)
def c_LETTERS : A := .str "abcdefghijklmnopqrstuvwxyz"
def c_LONGEST_NAME : A := .int 12
def c_NUMBERS : A := .tup [.str "0", .str "1", .str "2", .str "3"]
def c_DIRECTIONS : A := .tup [.str "up", .str "down"]
def c_WRITER : A := .str "writer"
def c_NO_NAMES : A := .tup [.str "flag", .str "register", .str "writer", .str "reader", .str "write", .str "read", .str "up", .str "down", .str "as", .str "set", .str "step", .str "look", .str "wait", .str "if", .str "is", .str "else", .str "end", .str "again", .str "old", .str "new", .str "then", .str "whole", .str "any", .str "perhaps"]
def c_MOST_LINES : A := .int 40
def c_MOST_FLAGS : A := .int 3
def c_MOST_REGISTERS : A := .int 2
def c_MOST_READERS : A := .int 2
def c_MOST_BLOCKS : A := .int 3
def c_BOUNDS : A := .tup [.str "2", .str "3", .str "4"]
def kd_HEADS : KTab := [("flag", .fn "read_flag"), ("register", .fn "read_register"), ("writer", .fn "read_writer"), ("reader", .fn "read_reader")]
def kd_FORMS : KTab := [("write", .fn "read_write"), ("read", .fn "read_read"), ("set", .fn "read_flag_and_number"), ("wait", .fn "read_flag_and_number"), ("step", .fn "read_step"), ("look", .fn "read_look"), ("if", .fn "read_if"), ("else", .fn "read_else"), ("end", .fn "read_end"), ("again", .fn "read_again")]
def c_SWEEPS : A := .tup [.str "write", .str "read"]
def cl_flags : List Str := ["Layout", "Run", "World"]
def cl_registers : List Str := ["Layout", "World"]
def cl_readers : List Str := ["Layout", "World"]
def cl_readings : List Str := ["Layout", "World"]
def cl_owners : List Str := ["Layout"]
def cl_lines : List Str := ["Layout"]
def cl_first : List Str := ["Layout"]
def cl_bounds : List Str := ["Layout"]
def cl_marks : List Str := ["Layout"]
def cl_jumps : List Str := ["Layout"]
def cl_actor : List Str := ["Layout"]
def cl_has_sweep : List Str := ["Layout"]
def cl_blocks : List Str := ["Layout"]
def cl_layout : List Str := ["Run", "World"]
def cl_rows : List Str := ["Run"]
def cl_places : List Str := ["Run"]
def cl_cells : List Str := ["Run"]
def cl_begun : List Str := ["Run"]
def cl_ended : List Str := ["Run"]
def cl_olds : List Str := ["Run"]
def cl_found : List Str := ["Run"]
def cl_call : List Str := ["Run"]
def cl_text : List Str := ["World"]
section
variable {P : Program} {w : World} {K : PySem.W.Frag} {mg : Str → Option Value} {base : Heap}
abbrev s_lines_of : Stmt := topS 13
abbrev N_lines_of : List Str := ["text"]
abbrev P_lines_of : List Str := ["text"]
theorem sc_lines_of : FnScope N_lines_of P_lines_of (defScope s_lines_of) := ⟨rfl, rfl, rfl, by decide +kernel, rfl, by decide +kernel, by decide +kernel⟩
def m_lines_of : MS :=
  (sSeq (sIf (mBool (eBin (vEq false) (eVar 0) (eC (.str "")))) (sRet (eLst false eNil)) sNext)
    (sRet (eBm isStr (vSplit false) (eVar 0) (eCons (eC (.str "\n")) eNil))))
theorem ok_lines_of {f : Addr} {fd : FuncData} (F : Fun K "lines_of" "lines_of" s_lines_of f fd)  : FnOk P w K mg base (L2.CX P w) 1 f fd P_lines_of (spC K mg P_lines_of.length (fnOf N_lines_of.length m_lines_of)) :=
  fn_ok F sc_lines_of fun cdv A outer s H E hr => (css_cons (cs_if (ct_cmp (op_eqD (Room.u64 hr)) ab_eq (ce_var 0 (pv 0)) ce_str (nomark _)) (css_one (cs_ret (ce_lst false cas_nil))) css_nil)
    (css_one (cs_ret (ce_bm chk_str (am_split false) PySem.F.plainAttrs_str PySem.F.slot_str_split PySem.F.type_str_split mt_split (ce_var 0 (pv 0)) (cas_cons ce_str cas_nil)))))
def S_lines_of : FN := fnOf N_lines_of.length m_lines_of
abbrev s_is_name : Stmt := topS 14
abbrev N_is_name : List Str := ["word", "letter"]
abbrev P_is_name : List Str := ["word"]
theorem sc_is_name : FnScope N_is_name P_is_name (defScope s_is_name) := ⟨rfl, rfl, rfl, by decide +kernel, rfl, by decide +kernel, by decide +kernel⟩
def m_is_name : MS :=
  (sSeq (sIf (mOr (mNot (mBool (eChain vLe vLe (eC (.int 1)) (eCall vLen (eCons (eVar 0) eNil)) (eC c_LONGEST_NAME)))) (mBool (eBin (vIn false) (eVar 0) (eC c_NO_NAMES)))) (sRet (eC (.bl false))) sNext)
    (sRet (eCall vAll (eCons (eLcS false 0 [] (.name 1) [1] mYes (eBin (vIn false) (eVar 1) (eC c_LETTERS))) eNil))))
theorem ok_is_name {f : Addr} {fd : FuncData} (F : Fun K "is_name" "is_name" s_is_name f fd) (G_NO_NAMES : GV K mg "NO_NAMES" c_NO_NAMES) (B : Dg.Bi mg) (G_LONGEST_NAME : GV K mg "LONGEST_NAME" c_LONGEST_NAME) (G_LETTERS : GV K mg "LETTERS" c_LETTERS) : FnOk P w K mg base (L2.CX P w) 1 f fd P_is_name (spC K mg P_is_name.length (fnOf N_is_name.length m_is_name)) :=
  fn_ok F sc_is_name fun cdv A outer s H E hr => (css_cons (cs_if (CW.pt (cw_or (ct_not (ct_chain op_le op_le ab_le ab_le ce_int (ce_cb (fun h => pe_callB call_len (by rfl) B.b_len (by decide +kernel) h) an_len (cas_cons (ce_var 0 (pv 0)) cas_nil)) (ce_glob G_LONGEST_NAME (by rfl)))) (cw_or1 (ct_cmp (op_in (Room.u65 hr)) (ab_in false) (ce_var 0 (pv 0)) (ce_glob G_NO_NAMES (by rfl)) (by rfl))))) (css_one (cs_ret ce_bl)) css_nil)
    (css_one (cs_ret (ce_cb (fun h => pe_callB (cr_all rfl) (by rfl) B.b_all (by decide +kernel) h) an_all (cas_cons (ce_lcS (t := (.name 1)) (own := [("letter", 1)]) false 0 [] (by rfl) sc_is_name.nd (pv 0) path_nil (blkOk_by (own := [("letter", 1)]) (N := N_is_name) (sc := defScope s_is_name) (by decide +kernel)) (by decide) (fun _ _ _ _ _ => (tg_name 1 sc_is_name.nd rfl (by first | exact .inl rfl | exact .inr rfl))) (fun _ _ _ _ _ => cts_nil) (fun _ _ _ _ _ => (ce_cmp (op_in (Room.u65 hr)) (ab_in false) (ce_var 1 (pv 1)) (ce_glob G_LETTERS (by rfl)) (by rfl)))) cas_nil)))))
def S_is_name : FN := fnOf N_is_name.length m_is_name
abbrev s_Layout___init : Stmt := inClass (topS 22) 0
abbrev N_Layout___init : List Str := ["self"]
abbrev P_Layout___init : List Str := ["self"]
theorem sc_Layout___init : FnScope N_Layout___init P_Layout___init (defScope s_Layout___init) := ⟨rfl, rfl, rfl, by decide +kernel, rfl, by decide +kernel, by decide +kernel⟩
def m_Layout___init : MS :=
  (sSeq (sFldA cl_flags "flags" (eVar 0) (eLst true eNil))
    (sSeq (sFldA cl_registers "registers" (eVar 0) (eLst true eNil))
    (sSeq (sFldA cl_readers "readers" (eVar 0) (eLst true eNil))
    (sSeq (sFldA cl_readings "readings" (eVar 0) (eLst true eNil))
    (sSeq (sFldA cl_owners "owners" (eVar 0) (eDict0 true))
    (sSeq (sFldA cl_lines "lines" (eVar 0) (eDict0 true))
    (sSeq (sFldA cl_first "first" (eVar 0) (eDict0 true))
    (sSeq (sFldA cl_bounds "bounds" (eVar 0) (eDict0 true))
    (sSeq (sFldA cl_marks "marks" (eVar 0) (eDict0 true))
    (sSeq (sFldA cl_jumps "jumps" (eVar 0) (eDict0 true))
    (sSeq (sFldA cl_actor "actor" (eVar 0) (eC .non))
    (sSeq (sFldA cl_has_sweep "has_sweep" (eVar 0) (eC (.bl false)))
    (sFldA cl_blocks "blocks" (eVar 0) (eLst true eNil))))))))))))))
theorem ok_Layout___init {f : Addr} {fd : FuncData} (F : Fun K "__init__" "Layout.__init__" s_Layout___init f fd) (FF_flags : FldOk K mg "flags" cl_flags) (FF_registers : FldOk K mg "registers" cl_registers) (FF_readers : FldOk K mg "readers" cl_readers) (FF_readings : FldOk K mg "readings" cl_readings) (FF_owners : FldOk K mg "owners" cl_owners) (FF_lines : FldOk K mg "lines" cl_lines) (FF_first : FldOk K mg "first" cl_first) (FF_bounds : FldOk K mg "bounds" cl_bounds) (FF_marks : FldOk K mg "marks" cl_marks) (FF_jumps : FldOk K mg "jumps" cl_jumps) (FF_actor : FldOk K mg "actor" cl_actor) (FF_has_sweep : FldOk K mg "has_sweep" cl_has_sweep) (FF_blocks : FldOk K mg "blocks" cl_blocks) : FnOk P w K mg base (L2.CX P w) 1 f fd P_Layout___init (spC K mg P_Layout___init.length (fnOf N_Layout___init.length m_Layout___init)) :=
  fn_ok F sc_Layout___init fun cdv A outer s H E hr => (css_cons (cs_fld FF_flags (ce_var 0 (pv 0)) (ce_lst true cas_nil) rfl)
    (css_cons (cs_fld FF_registers (ce_var 0 (pv 0)) (ce_lst true cas_nil) rfl)
    (css_cons (cs_fld FF_readers (ce_var 0 (pv 0)) (ce_lst true cas_nil) rfl)
    (css_cons (cs_fld FF_readings (ce_var 0 (pv 0)) (ce_lst true cas_nil) rfl)
    (css_cons (cs_fld FF_owners (ce_var 0 (pv 0)) (ce_dict0 true pe_dnewK) rfl)
    (css_cons (cs_fld FF_lines (ce_var 0 (pv 0)) (ce_dict0 true pe_dnewK) rfl)
    (css_cons (cs_fld FF_first (ce_var 0 (pv 0)) (ce_dict0 true pe_dnewK) rfl)
    (css_cons (cs_fld FF_bounds (ce_var 0 (pv 0)) (ce_dict0 true pe_dnewK) rfl)
    (css_cons (cs_fld FF_marks (ce_var 0 (pv 0)) (ce_dict0 true pe_dnewK) rfl)
    (css_cons (cs_fld FF_jumps (ce_var 0 (pv 0)) (ce_dict0 true pe_dnewK) rfl)
    (css_cons (cs_fld FF_actor (ce_var 0 (pv 0)) ce_non rfl)
    (css_cons (cs_fld FF_has_sweep (ce_var 0 (pv 0)) ce_bl rfl)
    (css_one (cs_fld FF_blocks (ce_var 0 (pv 0)) (ce_lst true cas_nil) rfl))))))))))))))
def S_Layout___init : FN := fnOf N_Layout___init.length m_Layout___init
abbrev s_is_new_name : Stmt := topS 23
abbrev N_is_new_name : List Str := ["layout", "word", "taken"]
abbrev P_is_new_name : List Str := ["layout", "word"]
theorem sc_is_new_name : FnScope N_is_new_name P_is_new_name (defScope s_is_new_name) := ⟨rfl, rfl, rfl, by decide +kernel, rfl, by decide +kernel, by decide +kernel⟩
def m_is_new_name : MS :=
  (sSeq (sAsg (.name 2) (eBin (vAdd false) (eBin (vAdd false) (eBin (vAdd false) (eFld cl_flags "flags" (eVar 0)) (eFld cl_registers "registers" (eVar 0))) (eFld cl_readers "readers" (eVar 0))) (eFld cl_readings "readings" (eVar 0))))
    (sRet (eAnd (eCall (arity P_is_name.length S_is_name) (eCons (eVar 1) eNil)) (eBin (vIn true) (eVar 1) (eVar 2)))))
theorem ok_is_new_name {f : Addr} {fd : FuncData} (F : Fun K "is_new_name" "is_new_name" s_is_new_name f fd) (FF_flags : FldOk K mg "flags" cl_flags) (FF_registers : FldOk K mg "registers" cl_registers) (FF_readers : FldOk K mg "readers" cl_readers) (FF_readings : FldOk K mg "readings" cl_readings) (C_is_name : Dg.Cal P w K mg base (L2.CX P w) 1 "is_name" P_is_name (spC K mg P_is_name.length S_is_name)) : FnOk P w K mg base (L2.CX P w) 2 f fd P_is_new_name (spC K mg P_is_new_name.length (fnOf N_is_new_name.length m_is_new_name)) :=
  fn_ok F sc_is_new_name fun cdv A outer s H E hr => (css_cons (cs_set 2 sc_is_new_name.nd rfl (.inl rfl) (ce_add false (ce_add false (ce_add false (ce_fld FF_flags (ce_var 0 (pv 0)) rfl) (ce_fld FF_registers (ce_var 0 (pv 0)) rfl)) (ce_fld FF_readers (ce_var 0 (pv 0)) rfl)) (ce_fld FF_readings (ce_var 0 (pv 0)) rfl)))
    (css_one (cs_ret (ce_and (ce_call C_is_name (takes_of rfl rfl rfl rfl) (hr.mono (by decide)) (by rfl) (cas_cons (ce_var 1 (pv 1)) cas_nil)) (ce_one (ce_cmp (op_notin (Room.u65 hr)) (ab_in true) (ce_var 1 (pv 1)) (ce_var 2 (pv 2)) (by rfl)))))))
def S_is_new_name : FN := fnOf N_is_new_name.length m_is_new_name
abbrev s_is_complete : Stmt := topS 24
abbrev N_is_complete : List Str := ["layout"]
abbrev P_is_complete : List Str := ["layout"]
theorem sc_is_complete : FnScope N_is_complete P_is_complete (defScope s_is_complete) := ⟨rfl, rfl, rfl, by decide +kernel, rfl, by decide +kernel, by decide +kernel⟩
def m_is_complete : MS :=
  (sRet (eAnd (eFld cl_has_sweep "has_sweep" (eVar 0)) (eNot (eFld cl_blocks "blocks" (eVar 0)))))
theorem ok_is_complete {f : Addr} {fd : FuncData} (F : Fun K "is_complete" "is_complete" s_is_complete f fd) (FF_blocks : FldOk K mg "blocks" cl_blocks) (FF_has_sweep : FldOk K mg "has_sweep" cl_has_sweep) : FnOk P w K mg base (L2.CX P w) 1 f fd P_is_complete (spC K mg P_is_complete.length (fnOf N_is_complete.length m_is_complete)) :=
  fn_ok F sc_is_complete fun cdv A outer s H E hr => (css_one (cs_ret (ce_and (ce_fld FF_has_sweep (ce_var 0 (pv 0)) rfl) (ce_one (ce_not (ce_fld FF_blocks (ce_var 0 (pv 0)) rfl))))))
def S_is_complete : FN := fnOf N_is_complete.length m_is_complete
abbrev s_begin_actor : Stmt := topS 25
abbrev N_begin_actor : List Str := ["layout", "number", "actor"]
abbrev P_begin_actor : List Str := ["layout", "number", "actor"]
theorem sc_begin_actor : FnScope N_begin_actor P_begin_actor (defScope s_begin_actor) := ⟨rfl, rfl, rfl, by decide +kernel, rfl, by decide +kernel, by decide +kernel⟩
def m_begin_actor : MS :=
  (sSeq (sFldA cl_actor "actor" (eVar 0) (eVar 2))
    (sSeq (sSub (eFld cl_first "first" (eVar 0)) (eVar 2) (eBin (vAdd false) (eVar 1) (eC (.int 1))))
    (sSeq (sSub (eFld cl_marks "marks" (eVar 0)) (eVar 2) (eLst true eNil))
    (sFldA cl_has_sweep "has_sweep" (eVar 0) (eC (.bl false))))))
theorem ok_begin_actor {f : Addr} {fd : FuncData} (F : Fun K "begin_actor" "begin_actor" s_begin_actor f fd) (FF_actor : FldOk K mg "actor" cl_actor) (FF_first : FldOk K mg "first" cl_first) (FF_marks : FldOk K mg "marks" cl_marks) (FF_has_sweep : FldOk K mg "has_sweep" cl_has_sweep) : FnOk P w K mg base (L2.CX P w) 1 f fd P_begin_actor (spC K mg P_begin_actor.length (fnOf N_begin_actor.length m_begin_actor)) :=
  fn_ok F sc_begin_actor fun cdv A outer s H E hr => (css_cons (cs_fld FF_actor (ce_var 0 (pv 0)) (ce_var 2 (pv 2)) rfl)
    (css_cons (cs_sub (Room.u1 hr) (ce_fld FF_first (ce_var 0 (pv 0)) rfl) (ce_var 2 (pv 2)) (ce_add false (ce_var 1 (pv 1)) ce_int))
    (css_cons (cs_sub (Room.u1 hr) (ce_fld FF_marks (ce_var 0 (pv 0)) rfl) (ce_var 2 (pv 2)) (ce_lst true cas_nil))
    (css_one (cs_fld FF_has_sweep (ce_var 0 (pv 0)) ce_bl rfl)))))
def S_begin_actor : FN := fnOf N_begin_actor.length m_begin_actor
abbrev s_read_flag : Stmt := topS 26
abbrev N_read_flag : List Str := ["layout", "number", "words"]
abbrev P_read_flag : List Str := ["layout", "number", "words"]
theorem sc_read_flag : FnScope N_read_flag P_read_flag (defScope s_read_flag) := ⟨rfl, rfl, rfl, by decide +kernel, rfl, by decide +kernel, by decide +kernel⟩
def m_read_flag : MS :=
  (sSeq (sIf (mOr (mTru (eFld cl_registers "registers" (eVar 0))) (mOr (mBool (eBin (vEq false) (eCall vLen (eCons (eFld cl_flags "flags" (eVar 0)) eNil)) (eC c_MOST_FLAGS))) (mBool (eBin (vEq true) (eCall vLen (eCons (eVar 2) eNil)) (eC (.int 3)))))) (sRet (eC (.bl false))) sNext)
    (sSeq (sIf (mOr (mNot (mTru (eCall (arity P_is_new_name.length S_is_new_name) (eCons (eVar 0) (eCons (eBin vIx (eVar 2) (eC (.int 1))) eNil))))) (mBool (eBin (vIn true) (eBin vIx (eVar 2) (eC (.int 2))) (eC c_BOUNDS)))) (sRet (eC (.bl false))) sNext)
    (sSeq (sExpr (eBm isLst vAppend (eFld cl_flags "flags" (eVar 0)) (eCons (eBin vIx (eVar 2) (eC (.int 1))) eNil)))
    (sSeq (sSub (eFld cl_bounds "bounds" (eVar 0)) (eBin vIx (eVar 2) (eC (.int 1))) (eCall vInt (eCons (eBin vIx (eVar 2) (eC (.int 2))) eNil)))
    (sRet (eC (.bl true)))))))
theorem ok_read_flag {f : Addr} {fd : FuncData} (F : Fun K "read_flag" "read_flag" s_read_flag f fd) (B : Dg.Bi mg) (FF_flags : FldOk K mg "flags" cl_flags) (G_MOST_FLAGS : GV K mg "MOST_FLAGS" c_MOST_FLAGS) (FF_registers : FldOk K mg "registers" cl_registers) (G_BOUNDS : GV K mg "BOUNDS" c_BOUNDS) (C_is_new_name : Dg.Cal P w K mg base (L2.CX P w) 2 "is_new_name" P_is_new_name (spC K mg P_is_new_name.length S_is_new_name)) (FF_bounds : FldOk K mg "bounds" cl_bounds) : FnOk P w K mg base (L2.CX P w) 3 f fd P_read_flag (spC K mg P_read_flag.length (fnOf N_read_flag.length m_read_flag)) :=
  fn_ok F sc_read_flag fun cdv A outer s H E hr => (css_cons (cs_if (CW.pt (cw_or (ct_tru (ce_fld FF_registers (ce_var 0 (pv 0)) rfl)) (cw_or (ct_cmp (op_eqD (Room.u64 hr)) ab_eq (ce_cb (fun h => pe_callB call_len (by rfl) B.b_len (by decide +kernel) h) an_len (cas_cons (ce_fld FF_flags (ce_var 0 (pv 0)) rfl) cas_nil)) (ce_glob G_MOST_FLAGS (by rfl)) (nomark _)) (cw_or1 (ct_cmp (op_neD (Room.u64 hr)) ab_ne (ce_cb (fun h => pe_callB call_len (by rfl) B.b_len (by decide +kernel) h) an_len (cas_cons (ce_var 2 (pv 2)) cas_nil)) ce_int (nomark _)))))) (css_one (cs_ret ce_bl)) css_nil)
    (css_cons (cs_if (CW.pt (cw_or (ct_not (ct_tru (ce_call C_is_new_name (takes_of rfl rfl rfl rfl) (hr.mono (by decide)) (by rfl) (cas_cons (ce_var 0 (pv 0)) (cas_cons (ce_ixr (Room.u1 hr) (ce_var 2 (pv 2)) ce_int (fun _ _ => rfl)) cas_nil))))) (cw_or1 (ct_cmp (op_notin (Room.u65 hr)) (ab_in true) (ce_ixr (Room.u1 hr) (ce_var 2 (pv 2)) ce_int (fun _ _ => rfl)) (ce_glob G_BOUNDS (by rfl)) (by rfl))))) (css_one (cs_ret ce_bl)) css_nil)
    (css_cons (cs_expr (ce_bm chk_lst am_append PySem.F.plainAttrs_list PySem.F.slot_list_append PySem.F.type_list_append mt_append (ce_fld FF_flags (ce_var 0 (pv 0)) rfl) (cas_cons (ce_ixr (Room.u1 hr) (ce_var 2 (pv 2)) ce_int (fun _ _ => rfl)) cas_nil)))
    (css_cons (cs_sub (Room.u1 hr) (ce_fld FF_bounds (ce_var 0 (pv 0)) rfl) (ce_ixr (Room.u1 hr) (ce_var 2 (pv 2)) ce_int (fun _ _ => rfl)) (ce_cb (fun h => pe_callTy (call_int1.or call_int_str) (by rfl) B.b_int (by decide +kernel) h) an_int (cas_cons (ce_ixr (Room.u1 hr) (ce_var 2 (pv 2)) ce_int (fun _ _ => rfl)) cas_nil)))
    (css_one (cs_ret ce_bl))))))
def S_read_flag : FN := fnOf N_read_flag.length m_read_flag
abbrev s_read_register : Stmt := topS 27
abbrev N_read_register : List Str := ["layout", "number", "words"]
abbrev P_read_register : List Str := ["layout", "number", "words"]
theorem sc_read_register : FnScope N_read_register P_read_register (defScope s_read_register) := ⟨rfl, rfl, rfl, by decide +kernel, rfl, by decide +kernel, by decide +kernel⟩
def m_read_register : MS :=
  (sSeq (sIf (mOr (mBool (eBin (vIs true) (eFld cl_actor "actor" (eVar 0)) (eC .non))) (mBool (eBin (vEq false) (eCall vLen (eCons (eFld cl_registers "registers" (eVar 0)) eNil)) (eC c_MOST_REGISTERS)))) (sRet (eC (.bl false))) sNext)
    (sSeq (sIf (mOr (mBool (eBin (vEq true) (eCall vLen (eCons (eVar 2) eNil)) (eC (.int 2)))) (mNot (mTru (eCall (arity P_is_new_name.length S_is_new_name) (eCons (eVar 0) (eCons (eBin vIx (eVar 2) (eC (.int 1))) eNil)))))) (sRet (eC (.bl false))) sNext)
    (sSeq (sExpr (eBm isLst vAppend (eFld cl_registers "registers" (eVar 0)) (eCons (eBin vIx (eVar 2) (eC (.int 1))) eNil)))
    (sRet (eC (.bl true))))))
theorem ok_read_register {f : Addr} {fd : FuncData} (F : Fun K "read_register" "read_register" s_read_register f fd) (FF_registers : FldOk K mg "registers" cl_registers) (B : Dg.Bi mg) (G_MOST_REGISTERS : GV K mg "MOST_REGISTERS" c_MOST_REGISTERS) (FF_actor : FldOk K mg "actor" cl_actor) (C_is_new_name : Dg.Cal P w K mg base (L2.CX P w) 2 "is_new_name" P_is_new_name (spC K mg P_is_new_name.length S_is_new_name)) : FnOk P w K mg base (L2.CX P w) 3 f fd P_read_register (spC K mg P_read_register.length (fnOf N_read_register.length m_read_register)) :=
  fn_ok F sc_read_register fun cdv A outer s H E hr => (css_cons (cs_if (CW.pt (cw_or (ct_cmp op_notN ab_isnt (ce_fld FF_actor (ce_var 0 (pv 0)) rfl) ce_non (nomark _)) (cw_or1 (ct_cmp (op_eqD (Room.u64 hr)) ab_eq (ce_cb (fun h => pe_callB call_len (by rfl) B.b_len (by decide +kernel) h) an_len (cas_cons (ce_fld FF_registers (ce_var 0 (pv 0)) rfl) cas_nil)) (ce_glob G_MOST_REGISTERS (by rfl)) (nomark _))))) (css_one (cs_ret ce_bl)) css_nil)
    (css_cons (cs_if (CW.pt (cw_or (ct_cmp (op_neD (Room.u64 hr)) ab_ne (ce_cb (fun h => pe_callB call_len (by rfl) B.b_len (by decide +kernel) h) an_len (cas_cons (ce_var 2 (pv 2)) cas_nil)) ce_int (nomark _)) (cw_or1 (ct_not (ct_tru (ce_call C_is_new_name (takes_of rfl rfl rfl rfl) (hr.mono (by decide)) (by rfl) (cas_cons (ce_var 0 (pv 0)) (cas_cons (ce_ixr (Room.u1 hr) (ce_var 2 (pv 2)) ce_int (fun _ _ => rfl)) cas_nil)))))))) (css_one (cs_ret ce_bl)) css_nil)
    (css_cons (cs_expr (ce_bm chk_lst am_append PySem.F.plainAttrs_list PySem.F.slot_list_append PySem.F.type_list_append mt_append (ce_fld FF_registers (ce_var 0 (pv 0)) rfl) (cas_cons (ce_ixr (Room.u1 hr) (ce_var 2 (pv 2)) ce_int (fun _ _ => rfl)) cas_nil)))
    (css_one (cs_ret ce_bl)))))
def S_read_register : FN := fnOf N_read_register.length m_read_register
abbrev s_read_writer : Stmt := topS 28
abbrev N_read_writer : List Str := ["layout", "number", "words"]
abbrev P_read_writer : List Str := ["layout", "number", "words"]
theorem sc_read_writer : FnScope N_read_writer P_read_writer (defScope s_read_writer) := ⟨rfl, rfl, rfl, by decide +kernel, rfl, by decide +kernel, by decide +kernel⟩
def m_read_writer : MS :=
  (sSeq (sIf (mOr (mBool (eBin (vIs true) (eFld cl_actor "actor" (eVar 0)) (eC .non))) (mOr (mNot (mTru (eFld cl_registers "registers" (eVar 0)))) (mBool (eBin (vEq true) (eCall vLen (eCons (eVar 2) eNil)) (eC (.int 1)))))) (sRet (eC (.bl false))) sNext)
    (sSeq (sExpr (eCall (arity P_begin_actor.length S_begin_actor) (eCons (eVar 0) (eCons (eVar 1) (eCons (eC c_WRITER) eNil)))))
    (sRet (eC (.bl true)))))
theorem ok_read_writer {f : Addr} {fd : FuncData} (F : Fun K "read_writer" "read_writer" s_read_writer f fd) (B : Dg.Bi mg) (FF_registers : FldOk K mg "registers" cl_registers) (FF_actor : FldOk K mg "actor" cl_actor) (C_begin_actor : Dg.Cal P w K mg base (L2.CX P w) 1 "begin_actor" P_begin_actor (spC K mg P_begin_actor.length S_begin_actor)) (G_WRITER : GV K mg "WRITER" c_WRITER) : FnOk P w K mg base (L2.CX P w) 2 f fd P_read_writer (spC K mg P_read_writer.length (fnOf N_read_writer.length m_read_writer)) :=
  fn_ok F sc_read_writer fun cdv A outer s H E hr => (css_cons (cs_if (CW.pt (cw_or (ct_cmp op_notN ab_isnt (ce_fld FF_actor (ce_var 0 (pv 0)) rfl) ce_non (nomark _)) (cw_or (ct_not (ct_tru (ce_fld FF_registers (ce_var 0 (pv 0)) rfl))) (cw_or1 (ct_cmp (op_neD (Room.u64 hr)) ab_ne (ce_cb (fun h => pe_callB call_len (by rfl) B.b_len (by decide +kernel) h) an_len (cas_cons (ce_var 2 (pv 2)) cas_nil)) ce_int (nomark _)))))) (css_one (cs_ret ce_bl)) css_nil)
    (css_cons (cs_expr (ce_call C_begin_actor (takes_of rfl rfl rfl rfl) (hr.mono (by decide)) (by rfl) (cas_cons (ce_var 0 (pv 0)) (cas_cons (ce_var 1 (pv 1)) (cas_cons (ce_glob G_WRITER (by rfl)) cas_nil)))))
    (css_one (cs_ret ce_bl))))
def S_read_writer : FN := fnOf N_read_writer.length m_read_writer
abbrev s_read_reader : Stmt := topS 29
abbrev N_read_reader : List Str := ["layout", "number", "words"]
abbrev P_read_reader : List Str := ["layout", "number", "words"]
theorem sc_read_reader : FnScope N_read_reader P_read_reader (defScope s_read_reader) := ⟨rfl, rfl, rfl, by decide +kernel, rfl, by decide +kernel, by decide +kernel⟩
def m_read_reader : MS :=
  (sSeq (sIf (mOr (mNot (mTru (eCall (arity P_is_complete.length S_is_complete) (eCons (eVar 0) eNil)))) (mBool (eBin (vEq false) (eCall vLen (eCons (eFld cl_readers "readers" (eVar 0)) eNil)) (eC c_MOST_READERS)))) (sRet (eC (.bl false))) sNext)
    (sSeq (sIf (mOr (mBool (eBin (vEq true) (eCall vLen (eCons (eVar 2) eNil)) (eC (.int 2)))) (mNot (mTru (eCall (arity P_is_new_name.length S_is_new_name) (eCons (eVar 0) (eCons (eBin vIx (eVar 2) (eC (.int 1))) eNil)))))) (sRet (eC (.bl false))) sNext)
    (sSeq (sExpr (eCall (arity P_begin_actor.length S_begin_actor) (eCons (eVar 0) (eCons (eVar 1) (eCons (eBin vIx (eVar 2) (eC (.int 1))) eNil)))))
    (sSeq (sExpr (eBm isLst vAppend (eFld cl_readers "readers" (eVar 0)) (eCons (eBin vIx (eVar 2) (eC (.int 1))) eNil)))
    (sRet (eC (.bl true)))))))
theorem ok_read_reader {f : Addr} {fd : FuncData} (F : Fun K "read_reader" "read_reader" s_read_reader f fd) (FF_readers : FldOk K mg "readers" cl_readers) (B : Dg.Bi mg) (G_MOST_READERS : GV K mg "MOST_READERS" c_MOST_READERS) (C_is_complete : Dg.Cal P w K mg base (L2.CX P w) 1 "is_complete" P_is_complete (spC K mg P_is_complete.length S_is_complete)) (C_is_new_name : Dg.Cal P w K mg base (L2.CX P w) 2 "is_new_name" P_is_new_name (spC K mg P_is_new_name.length S_is_new_name)) (C_begin_actor : Dg.Cal P w K mg base (L2.CX P w) 1 "begin_actor" P_begin_actor (spC K mg P_begin_actor.length S_begin_actor)) : FnOk P w K mg base (L2.CX P w) 3 f fd P_read_reader (spC K mg P_read_reader.length (fnOf N_read_reader.length m_read_reader)) :=
  fn_ok F sc_read_reader fun cdv A outer s H E hr => (css_cons (cs_if (CW.pt (cw_or (ct_not (ct_tru (ce_call C_is_complete (takes_of rfl rfl rfl rfl) (hr.mono (by decide)) (by rfl) (cas_cons (ce_var 0 (pv 0)) cas_nil)))) (cw_or1 (ct_cmp (op_eqD (Room.u64 hr)) ab_eq (ce_cb (fun h => pe_callB call_len (by rfl) B.b_len (by decide +kernel) h) an_len (cas_cons (ce_fld FF_readers (ce_var 0 (pv 0)) rfl) cas_nil)) (ce_glob G_MOST_READERS (by rfl)) (nomark _))))) (css_one (cs_ret ce_bl)) css_nil)
    (css_cons (cs_if (CW.pt (cw_or (ct_cmp (op_neD (Room.u64 hr)) ab_ne (ce_cb (fun h => pe_callB call_len (by rfl) B.b_len (by decide +kernel) h) an_len (cas_cons (ce_var 2 (pv 2)) cas_nil)) ce_int (nomark _)) (cw_or1 (ct_not (ct_tru (ce_call C_is_new_name (takes_of rfl rfl rfl rfl) (hr.mono (by decide)) (by rfl) (cas_cons (ce_var 0 (pv 0)) (cas_cons (ce_ixr (Room.u1 hr) (ce_var 2 (pv 2)) ce_int (fun _ _ => rfl)) cas_nil)))))))) (css_one (cs_ret ce_bl)) css_nil)
    (css_cons (cs_expr (ce_call C_begin_actor (takes_of rfl rfl rfl rfl) (hr.mono (by decide)) (by rfl) (cas_cons (ce_var 0 (pv 0)) (cas_cons (ce_var 1 (pv 1)) (cas_cons (ce_ixr (Room.u1 hr) (ce_var 2 (pv 2)) ce_int (fun _ _ => rfl)) cas_nil)))))
    (css_cons (cs_expr (ce_bm chk_lst am_append PySem.F.plainAttrs_list PySem.F.slot_list_append PySem.F.type_list_append mt_append (ce_fld FF_readers (ce_var 0 (pv 0)) rfl) (cas_cons (ce_ixr (Room.u1 hr) (ce_var 2 (pv 2)) ce_int (fun _ _ => rfl)) cas_nil)))
    (css_one (cs_ret ce_bl))))))
def S_read_reader : FN := fnOf N_read_reader.length m_read_reader
abbrev s_read_write : Stmt := topS 30
abbrev N_read_write : List Str := ["layout", "number", "words"]
abbrev P_read_write : List Str := ["layout", "number", "words"]
theorem sc_read_write : FnScope N_read_write P_read_write (defScope s_read_write) := ⟨rfl, rfl, rfl, by decide +kernel, rfl, by decide +kernel, by decide +kernel⟩
def m_read_write : MS :=
  (sSeq (sIf (mOr (mBool (eBin (vEq true) (eFld cl_actor "actor" (eVar 0)) (eC c_WRITER))) (mBool (eBin (vEq true) (eCall vLen (eCons (eVar 2) eNil)) (eC (.int 3))))) (sRet (eC (.bl false))) sNext)
    (sSeq (sIf (mOr (mBool (eBin (vIn true) (eBin vIx (eVar 2) (eC (.int 1))) (eFld cl_registers "registers" (eVar 0)))) (mBool (eBin (vIn true) (eBin vIx (eVar 2) (eC (.int 2))) (eC c_DIRECTIONS)))) (sRet (eC (.bl false))) sNext)
    (sSeq (sFldA cl_has_sweep "has_sweep" (eVar 0) (eC (.bl true)))
    (sRet (eC (.bl true))))))
theorem ok_read_write {f : Addr} {fd : FuncData} (F : Fun K "read_write" "read_write" s_read_write f fd) (B : Dg.Bi mg) (FF_actor : FldOk K mg "actor" cl_actor) (G_WRITER : GV K mg "WRITER" c_WRITER) (G_DIRECTIONS : GV K mg "DIRECTIONS" c_DIRECTIONS) (FF_registers : FldOk K mg "registers" cl_registers) (FF_has_sweep : FldOk K mg "has_sweep" cl_has_sweep) : FnOk P w K mg base (L2.CX P w) 1 f fd P_read_write (spC K mg P_read_write.length (fnOf N_read_write.length m_read_write)) :=
  fn_ok F sc_read_write fun cdv A outer s H E hr => (css_cons (cs_if (CW.pt (cw_or (ct_cmp (op_neD (Room.u64 hr)) ab_ne (ce_fld FF_actor (ce_var 0 (pv 0)) rfl) (ce_glob G_WRITER (by rfl)) (nomark _)) (cw_or1 (ct_cmp (op_neD (Room.u64 hr)) ab_ne (ce_cb (fun h => pe_callB call_len (by rfl) B.b_len (by decide +kernel) h) an_len (cas_cons (ce_var 2 (pv 2)) cas_nil)) ce_int (nomark _))))) (css_one (cs_ret ce_bl)) css_nil)
    (css_cons (cs_if (CW.pt (cw_or (ct_cmp (op_notin (Room.u65 hr)) (ab_in true) (ce_ixr (Room.u1 hr) (ce_var 2 (pv 2)) ce_int (fun _ _ => rfl)) (ce_fld FF_registers (ce_var 0 (pv 0)) rfl) (by rfl)) (cw_or1 (ct_cmp (op_notin (Room.u65 hr)) (ab_in true) (ce_ixr (Room.u1 hr) (ce_var 2 (pv 2)) ce_int (fun _ _ => rfl)) (ce_glob G_DIRECTIONS (by rfl)) (by rfl))))) (css_one (cs_ret ce_bl)) css_nil)
    (css_cons (cs_fld FF_has_sweep (ce_var 0 (pv 0)) ce_bl rfl)
    (css_one (cs_ret ce_bl)))))
def S_read_write : FN := fnOf N_read_write.length m_read_write
abbrev s_read_read : Stmt := topS 31
abbrev N_read_read : List Str := ["layout", "number", "words"]
abbrev P_read_read : List Str := ["layout", "number", "words"]
theorem sc_read_read : FnScope N_read_read P_read_read (defScope s_read_read) := ⟨rfl, rfl, rfl, by decide +kernel, rfl, by decide +kernel, by decide +kernel⟩
def m_read_read : MS :=
  (sSeq (sIf (mOr (mBool (eBin (vEq false) (eFld cl_actor "actor" (eVar 0)) (eC c_WRITER))) (mBool (eBin (vEq true) (eCall vLen (eCons (eVar 2) eNil)) (eC (.int 5))))) (sRet (eC (.bl false))) sNext)
    (sSeq (sIf (mOr (mBool (eBin (vIn true) (eBin vIx (eVar 2) (eC (.int 1))) (eFld cl_registers "registers" (eVar 0)))) (mBool (eBin (vIn true) (eBin vIx (eVar 2) (eC (.int 2))) (eC c_DIRECTIONS)))) (sRet (eC (.bl false))) sNext)
    (sSeq (sIf (mOr (mBool (eBin (vEq true) (eBin vIx (eVar 2) (eC (.int 3))) (eC (.str "as")))) (mNot (mTru (eCall (arity P_is_new_name.length S_is_new_name) (eCons (eVar 0) (eCons (eBin vIx (eVar 2) (eC (.int 4))) eNil)))))) (sRet (eC (.bl false))) sNext)
    (sSeq (sExpr (eBm isLst vAppend (eFld cl_readings "readings" (eVar 0)) (eCons (eBin vIx (eVar 2) (eC (.int 4))) eNil)))
    (sSeq (sSub (eFld cl_owners "owners" (eVar 0)) (eBin vIx (eVar 2) (eC (.int 4))) (eFld cl_actor "actor" (eVar 0)))
    (sSeq (sFldA cl_has_sweep "has_sweep" (eVar 0) (eC (.bl true)))
    (sRet (eC (.bl true)))))))))
theorem ok_read_read {f : Addr} {fd : FuncData} (F : Fun K "read_read" "read_read" s_read_read f fd) (B : Dg.Bi mg) (FF_actor : FldOk K mg "actor" cl_actor) (G_WRITER : GV K mg "WRITER" c_WRITER) (G_DIRECTIONS : GV K mg "DIRECTIONS" c_DIRECTIONS) (FF_registers : FldOk K mg "registers" cl_registers) (C_is_new_name : Dg.Cal P w K mg base (L2.CX P w) 2 "is_new_name" P_is_new_name (spC K mg P_is_new_name.length S_is_new_name)) (FF_readings : FldOk K mg "readings" cl_readings) (FF_owners : FldOk K mg "owners" cl_owners) (FF_has_sweep : FldOk K mg "has_sweep" cl_has_sweep) : FnOk P w K mg base (L2.CX P w) 3 f fd P_read_read (spC K mg P_read_read.length (fnOf N_read_read.length m_read_read)) :=
  fn_ok F sc_read_read fun cdv A outer s H E hr => (css_cons (cs_if (CW.pt (cw_or (ct_cmp (op_eqD (Room.u64 hr)) ab_eq (ce_fld FF_actor (ce_var 0 (pv 0)) rfl) (ce_glob G_WRITER (by rfl)) (nomark _)) (cw_or1 (ct_cmp (op_neD (Room.u64 hr)) ab_ne (ce_cb (fun h => pe_callB call_len (by rfl) B.b_len (by decide +kernel) h) an_len (cas_cons (ce_var 2 (pv 2)) cas_nil)) ce_int (nomark _))))) (css_one (cs_ret ce_bl)) css_nil)
    (css_cons (cs_if (CW.pt (cw_or (ct_cmp (op_notin (Room.u65 hr)) (ab_in true) (ce_ixr (Room.u1 hr) (ce_var 2 (pv 2)) ce_int (fun _ _ => rfl)) (ce_fld FF_registers (ce_var 0 (pv 0)) rfl) (by rfl)) (cw_or1 (ct_cmp (op_notin (Room.u65 hr)) (ab_in true) (ce_ixr (Room.u1 hr) (ce_var 2 (pv 2)) ce_int (fun _ _ => rfl)) (ce_glob G_DIRECTIONS (by rfl)) (by rfl))))) (css_one (cs_ret ce_bl)) css_nil)
    (css_cons (cs_if (CW.pt (cw_or (ct_cmp (op_neD (Room.u64 hr)) ab_ne (ce_ixr (Room.u1 hr) (ce_var 2 (pv 2)) ce_int (fun _ _ => rfl)) ce_str (nomark _)) (cw_or1 (ct_not (ct_tru (ce_call C_is_new_name (takes_of rfl rfl rfl rfl) (hr.mono (by decide)) (by rfl) (cas_cons (ce_var 0 (pv 0)) (cas_cons (ce_ixr (Room.u1 hr) (ce_var 2 (pv 2)) ce_int (fun _ _ => rfl)) cas_nil)))))))) (css_one (cs_ret ce_bl)) css_nil)
    (css_cons (cs_expr (ce_bm chk_lst am_append PySem.F.plainAttrs_list PySem.F.slot_list_append PySem.F.type_list_append mt_append (ce_fld FF_readings (ce_var 0 (pv 0)) rfl) (cas_cons (ce_ixr (Room.u1 hr) (ce_var 2 (pv 2)) ce_int (fun _ _ => rfl)) cas_nil)))
    (css_cons (cs_sub (Room.u1 hr) (ce_fld FF_owners (ce_var 0 (pv 0)) rfl) (ce_ixr (Room.u1 hr) (ce_var 2 (pv 2)) ce_int (fun _ _ => rfl)) (ce_fld FF_actor (ce_var 0 (pv 0)) rfl))
    (css_cons (cs_fld FF_has_sweep (ce_var 0 (pv 0)) ce_bl rfl)
    (css_one (cs_ret ce_bl))))))))
def S_read_read : FN := fnOf N_read_read.length m_read_read
abbrev s_read_flag_and_number : Stmt := topS 32
abbrev N_read_flag_and_number : List Str := ["layout", "number", "words"]
abbrev P_read_flag_and_number : List Str := ["layout", "number", "words"]
theorem sc_read_flag_and_number : FnScope N_read_flag_and_number P_read_flag_and_number (defScope s_read_flag_and_number) := ⟨rfl, rfl, rfl, by decide +kernel, rfl, by decide +kernel, by decide +kernel⟩
def m_read_flag_and_number : MS :=
  (sSeq (sIf (mOr (mBool (eBin (vEq true) (eCall vLen (eCons (eVar 2) eNil)) (eC (.int 3)))) (mBool (eBin (vIn true) (eBin vIx (eVar 2) (eC (.int 1))) (eFld cl_flags "flags" (eVar 0))))) (sRet (eC (.bl false))) sNext)
    (sRet (eBin (vIn false) (eBin vIx (eVar 2) (eC (.int 2))) (eSl false (eC c_NUMBERS) eNoPart (ePart (eBin vIx (eFld cl_bounds "bounds" (eVar 0)) (eBin vIx (eVar 2) (eC (.int 1)))))))))
theorem ok_read_flag_and_number {f : Addr} {fd : FuncData} (F : Fun K "read_flag_and_number" "read_flag_and_number" s_read_flag_and_number f fd) (FF_flags : FldOk K mg "flags" cl_flags) (B : Dg.Bi mg) (G_NUMBERS : GV K mg "NUMBERS" c_NUMBERS) (FF_bounds : FldOk K mg "bounds" cl_bounds) : FnOk P w K mg base (L2.CX P w) 1 f fd P_read_flag_and_number (spC K mg P_read_flag_and_number.length (fnOf N_read_flag_and_number.length m_read_flag_and_number)) :=
  fn_ok F sc_read_flag_and_number fun cdv A outer s H E hr => (css_cons (cs_if (CW.pt (cw_or (ct_cmp (op_neD (Room.u64 hr)) ab_ne (ce_cb (fun h => pe_callB call_len (by rfl) B.b_len (by decide +kernel) h) an_len (cas_cons (ce_var 2 (pv 2)) cas_nil)) ce_int (nomark _)) (cw_or1 (ct_cmp (op_notin (Room.u65 hr)) (ab_in true) (ce_ixr (Room.u1 hr) (ce_var 2 (pv 2)) ce_int (fun _ _ => rfl)) (ce_fld FF_flags (ce_var 0 (pv 0)) rfl) (by rfl))))) (css_one (cs_ret ce_bl)) css_nil)
    (css_one (cs_ret (ce_cmp (op_in (Room.u65 hr)) (ab_in false) (ce_ixr (Room.u1 hr) (ce_var 2 (pv 2)) ce_int (fun _ _ => rfl)) (ce_sl false (ce_glob G_NUMBERS (by rfl)) cpo_none (cpo_some (ce_ixr (Room.u1 hr) (ce_fld FF_bounds (ce_var 0 (pv 0)) rfl) (ce_ixr (Room.u1 hr) (ce_var 2 (pv 2)) ce_int (fun _ _ => rfl)) (fun _ _ => rfl)))) (by rfl)))))
def S_read_flag_and_number : FN := fnOf N_read_flag_and_number.length m_read_flag_and_number
abbrev s_read_step : Stmt := topS 33
abbrev N_read_step : List Str := ["layout", "number", "words"]
abbrev P_read_step : List Str := ["layout", "number", "words"]
theorem sc_read_step : FnScope N_read_step P_read_step (defScope s_read_step) := ⟨rfl, rfl, rfl, by decide +kernel, rfl, by decide +kernel, by decide +kernel⟩
def m_read_step : MS :=
  (sRet (eAnd (eBin (vEq false) (eCall vLen (eCons (eVar 2) eNil)) (eC (.int 2))) (eBin (vIn false) (eBin vIx (eVar 2) (eC (.int 1))) (eFld cl_flags "flags" (eVar 0)))))
theorem ok_read_step {f : Addr} {fd : FuncData} (F : Fun K "read_step" "read_step" s_read_step f fd) (FF_flags : FldOk K mg "flags" cl_flags) (B : Dg.Bi mg) : FnOk P w K mg base (L2.CX P w) 1 f fd P_read_step (spC K mg P_read_step.length (fnOf N_read_step.length m_read_step)) :=
  fn_ok F sc_read_step fun cdv A outer s H E hr => (css_one (cs_ret (ce_and (ce_cmp (op_eqD (Room.u64 hr)) ab_eq (ce_cb (fun h => pe_callB call_len (by rfl) B.b_len (by decide +kernel) h) an_len (cas_cons (ce_var 2 (pv 2)) cas_nil)) ce_int (nomark _)) (ce_one (ce_cmp (op_in (Room.u65 hr)) (ab_in false) (ce_ixr (Room.u1 hr) (ce_var 2 (pv 2)) ce_int (fun _ _ => rfl)) (ce_fld FF_flags (ce_var 0 (pv 0)) rfl) (by rfl))))))
def S_read_step : FN := fnOf N_read_step.length m_read_step
abbrev s_read_look : Stmt := topS 34
abbrev N_read_look : List Str := ["layout", "number", "words"]
abbrev P_read_look : List Str := ["layout", "number", "words"]
theorem sc_read_look : FnScope N_read_look P_read_look (defScope s_read_look) := ⟨rfl, rfl, rfl, by decide +kernel, rfl, by decide +kernel, by decide +kernel⟩
def m_read_look : MS :=
  (sSeq (sIf (mOr (mBool (eBin (vEq true) (eCall vLen (eCons (eVar 2) eNil)) (eC (.int 4)))) (mBool (eBin (vIn true) (eBin vIx (eVar 2) (eC (.int 1))) (eFld cl_flags "flags" (eVar 0))))) (sRet (eC (.bl false))) sNext)
    (sSeq (sIf (mOr (mBool (eBin (vEq true) (eBin vIx (eVar 2) (eC (.int 2))) (eC (.str "as")))) (mNot (mTru (eCall (arity P_is_name.length S_is_name) (eCons (eBin vIx (eVar 2) (eC (.int 3))) eNil))))) (sRet (eC (.bl false))) sNext)
    (sSeq (sIf (mBool (eBin (vIn true) (eBin vIx (eVar 2) (eC (.int 3))) (eBin vIx (eFld cl_marks "marks" (eVar 0)) (eFld cl_actor "actor" (eVar 0))))) (sExpr (eBm isLst vAppend (eBin vIx (eFld cl_marks "marks" (eVar 0)) (eFld cl_actor "actor" (eVar 0))) (eCons (eBin vIx (eVar 2) (eC (.int 3))) eNil))) sNext)
    (sRet (eC (.bl true))))))
theorem ok_read_look {f : Addr} {fd : FuncData} (F : Fun K "read_look" "read_look" s_read_look f fd) (FF_flags : FldOk K mg "flags" cl_flags) (B : Dg.Bi mg) (C_is_name : Dg.Cal P w K mg base (L2.CX P w) 1 "is_name" P_is_name (spC K mg P_is_name.length S_is_name)) (FF_marks : FldOk K mg "marks" cl_marks) (FF_actor : FldOk K mg "actor" cl_actor) : FnOk P w K mg base (L2.CX P w) 2 f fd P_read_look (spC K mg P_read_look.length (fnOf N_read_look.length m_read_look)) :=
  fn_ok F sc_read_look fun cdv A outer s H E hr => (css_cons (cs_if (CW.pt (cw_or (ct_cmp (op_neD (Room.u64 hr)) ab_ne (ce_cb (fun h => pe_callB call_len (by rfl) B.b_len (by decide +kernel) h) an_len (cas_cons (ce_var 2 (pv 2)) cas_nil)) ce_int (nomark _)) (cw_or1 (ct_cmp (op_notin (Room.u65 hr)) (ab_in true) (ce_ixr (Room.u1 hr) (ce_var 2 (pv 2)) ce_int (fun _ _ => rfl)) (ce_fld FF_flags (ce_var 0 (pv 0)) rfl) (by rfl))))) (css_one (cs_ret ce_bl)) css_nil)
    (css_cons (cs_if (CW.pt (cw_or (ct_cmp (op_neD (Room.u64 hr)) ab_ne (ce_ixr (Room.u1 hr) (ce_var 2 (pv 2)) ce_int (fun _ _ => rfl)) ce_str (nomark _)) (cw_or1 (ct_not (ct_tru (ce_call C_is_name (takes_of rfl rfl rfl rfl) (hr.mono (by decide)) (by rfl) (cas_cons (ce_ixr (Room.u1 hr) (ce_var 2 (pv 2)) ce_int (fun _ _ => rfl)) cas_nil))))))) (css_one (cs_ret ce_bl)) css_nil)
    (css_cons (cs_if (ct_cmp (op_notin (Room.u65 hr)) (ab_in true) (ce_ixr (Room.u1 hr) (ce_var 2 (pv 2)) ce_int (fun _ _ => rfl)) (ce_ixr (Room.u1 hr) (ce_fld FF_marks (ce_var 0 (pv 0)) rfl) (ce_fld FF_actor (ce_var 0 (pv 0)) rfl) (fun _ _ => rfl)) (by rfl)) (css_one (cs_expr (ce_bm chk_lst am_append PySem.F.plainAttrs_list PySem.F.slot_list_append PySem.F.type_list_append mt_append (ce_ixr (Room.u1 hr) (ce_fld FF_marks (ce_var 0 (pv 0)) rfl) (ce_fld FF_actor (ce_var 0 (pv 0)) rfl) (fun _ _ => rfl)) (cas_cons (ce_ixr (Room.u1 hr) (ce_var 2 (pv 2)) ce_int (fun _ _ => rfl)) cas_nil)))) css_nil)
    (css_one (cs_ret ce_bl)))))
def S_read_look : FN := fnOf N_read_look.length m_read_look
abbrev s_read_if : Stmt := topS 35
abbrev N_read_if : List Str := ["layout", "number", "words"]
abbrev P_read_if : List Str := ["layout", "number", "words"]
theorem sc_read_if : FnScope N_read_if P_read_if (defScope s_read_if) := ⟨rfl, rfl, rfl, by decide +kernel, rfl, by decide +kernel, by decide +kernel⟩
def m_read_if : MS :=
  (sSeq (sIf (mOr (mBool (eBin (vEq true) (eCall vLen (eCons (eVar 2) eNil)) (eC (.int 4)))) (mBool (eBin (vEq false) (eCall vLen (eCons (eFld cl_blocks "blocks" (eVar 0)) eNil)) (eC c_MOST_BLOCKS)))) (sRet (eC (.bl false))) sNext)
    (sSeq (sIf (mOr (mNot (mTru (eCall (arity P_is_name.length S_is_name) (eCons (eBin vIx (eVar 2) (eC (.int 1))) eNil)))) (mBool (eBin (vEq true) (eBin vIx (eVar 2) (eC (.int 2))) (eC (.str "is"))))) (sRet (eC (.bl false))) sNext)
    (sSeq (sIf (mAnd (mBool (eBin (vIn true) (eBin vIx (eVar 2) (eC (.int 3))) (eC c_NUMBERS))) (mNot (mTru (eCall (arity P_is_name.length S_is_name) (eCons (eBin vIx (eVar 2) (eC (.int 3))) eNil))))) (sRet (eC (.bl false))) sNext)
    (sSeq (sExpr (eBm isLst vAppend (eFld cl_blocks "blocks" (eVar 0)) (eCons (eTup (eCons (eVar 1) (eCons (eC (.bl false)) eNil))) eNil)))
    (sRet (eC (.bl true)))))))
theorem ok_read_if {f : Addr} {fd : FuncData} (F : Fun K "read_if" "read_if" s_read_if f fd) (FF_blocks : FldOk K mg "blocks" cl_blocks) (B : Dg.Bi mg) (G_MOST_BLOCKS : GV K mg "MOST_BLOCKS" c_MOST_BLOCKS) (C_is_name : Dg.Cal P w K mg base (L2.CX P w) 1 "is_name" P_is_name (spC K mg P_is_name.length S_is_name)) (G_NUMBERS : GV K mg "NUMBERS" c_NUMBERS) : FnOk P w K mg base (L2.CX P w) 2 f fd P_read_if (spC K mg P_read_if.length (fnOf N_read_if.length m_read_if)) :=
  fn_ok F sc_read_if fun cdv A outer s H E hr => (css_cons (cs_if (CW.pt (cw_or (ct_cmp (op_neD (Room.u64 hr)) ab_ne (ce_cb (fun h => pe_callB call_len (by rfl) B.b_len (by decide +kernel) h) an_len (cas_cons (ce_var 2 (pv 2)) cas_nil)) ce_int (nomark _)) (cw_or1 (ct_cmp (op_eqD (Room.u64 hr)) ab_eq (ce_cb (fun h => pe_callB call_len (by rfl) B.b_len (by decide +kernel) h) an_len (cas_cons (ce_fld FF_blocks (ce_var 0 (pv 0)) rfl) cas_nil)) (ce_glob G_MOST_BLOCKS (by rfl)) (nomark _))))) (css_one (cs_ret ce_bl)) css_nil)
    (css_cons (cs_if (CW.pt (cw_or (ct_not (ct_tru (ce_call C_is_name (takes_of rfl rfl rfl rfl) (hr.mono (by decide)) (by rfl) (cas_cons (ce_ixr (Room.u1 hr) (ce_var 2 (pv 2)) ce_int (fun _ _ => rfl)) cas_nil)))) (cw_or1 (ct_cmp (op_neD (Room.u64 hr)) ab_ne (ce_ixr (Room.u1 hr) (ce_var 2 (pv 2)) ce_int (fun _ _ => rfl)) ce_str (nomark _))))) (css_one (cs_ret ce_bl)) css_nil)
    (css_cons (cs_if (CW.pt (cw_and (ct_cmp (op_notin (Room.u65 hr)) (ab_in true) (ce_ixr (Room.u1 hr) (ce_var 2 (pv 2)) ce_int (fun _ _ => rfl)) (ce_glob G_NUMBERS (by rfl)) (by rfl)) (cw_and1 (ct_not (ct_tru (ce_call C_is_name (takes_of rfl rfl rfl rfl) (hr.mono (by decide)) (by rfl) (cas_cons (ce_ixr (Room.u1 hr) (ce_var 2 (pv 2)) ce_int (fun _ _ => rfl)) cas_nil))))))) (css_one (cs_ret ce_bl)) css_nil)
    (css_cons (cs_expr (ce_bm chk_lst am_append PySem.F.plainAttrs_list PySem.F.slot_list_append PySem.F.type_list_append mt_append (ce_fld FF_blocks (ce_var 0 (pv 0)) rfl) (cas_cons (ce_tup (cas_cons (ce_var 1 (pv 1)) (cas_cons ce_bl cas_nil))) cas_nil)))
    (css_one (cs_ret ce_bl))))))
def S_read_if : FN := fnOf N_read_if.length m_read_if
abbrev s_read_else : Stmt := topS 36
abbrev N_read_else : List Str := ["layout", "number", "words", "start", "has_else"]
abbrev P_read_else : List Str := ["layout", "number", "words"]
theorem sc_read_else : FnScope N_read_else P_read_else (defScope s_read_else) := ⟨rfl, rfl, rfl, by decide +kernel, rfl, by decide +kernel, by decide +kernel⟩
def m_read_else : MS :=
  (sSeq (sIf (mOr (mBool (eBin (vEq true) (eCall vLen (eCons (eVar 2) eNil)) (eC (.int 1)))) (mNot (mTru (eFld cl_blocks "blocks" (eVar 0))))) (sRet (eC (.bl false))) sNext)
    (sSeq (sAsg (.tup [(.name 3), (.name 4)]) (eBin vIx (eFld cl_blocks "blocks" (eVar 0)) (eUn vNeg (eC (.int 1)))))
    (sSeq (sIf (mTru (eVar 4)) (sRet (eC (.bl false))) sNext)
    (sSeq (sSub (eFld cl_jumps "jumps" (eVar 0)) (eVar 3) (eBin (vAdd false) (eVar 1) (eC (.int 1))))
    (sSeq (sSub (eFld cl_blocks "blocks" (eVar 0)) (eUn vNeg (eC (.int 1))) (eTup (eCons (eVar 1) (eCons (eC (.bl true)) eNil))))
    (sRet (eC (.bl true))))))))
theorem ok_read_else {f : Addr} {fd : FuncData} (F : Fun K "read_else" "read_else" s_read_else f fd) (FF_blocks : FldOk K mg "blocks" cl_blocks) (B : Dg.Bi mg) (FF_jumps : FldOk K mg "jumps" cl_jumps) : FnOk P w K mg base (L2.CX P w) 1 f fd P_read_else (spC K mg P_read_else.length (fnOf N_read_else.length m_read_else)) :=
  fn_ok F sc_read_else fun cdv A outer s H E hr => (css_cons (cs_if (CW.pt (cw_or (ct_cmp (op_neD (Room.u64 hr)) ab_ne (ce_cb (fun h => pe_callB call_len (by rfl) B.b_len (by decide +kernel) h) an_len (cas_cons (ce_var 2 (pv 2)) cas_nil)) ce_int (nomark _)) (cw_or1 (ct_not (ct_tru (ce_fld FF_blocks (ce_var 0 (pv 0)) rfl)))))) (css_one (cs_ret ce_bl)) css_nil)
    (css_cons (cs_asg (t := (.tup [(.name 3), (.name 4)])) (ce_ixr (Room.u1 hr) (ce_fld FF_blocks (ce_var 0 (pv 0)) rfl) (ce_neg ce_int) (fun _ _ => rfl)) (tg_tup rfl (tgs_cons (tg_name 3 sc_read_else.nd rfl (.inl rfl)) (tgs_cons (tg_name 4 sc_read_else.nd rfl (.inl rfl)) tgs_nil))))
    (css_cons (cs_if (ct_tru (ce_var 4 (pv 4))) (css_one (cs_ret ce_bl)) css_nil)
    (css_cons (cs_sub (Room.u1 hr) (ce_fld FF_jumps (ce_var 0 (pv 0)) rfl) (ce_var 3 (pv 3)) (ce_add false (ce_var 1 (pv 1)) ce_int))
    (css_cons (cs_sub (Room.u1 hr) (ce_fld FF_blocks (ce_var 0 (pv 0)) rfl) (ce_neg ce_int) (ce_tup (cas_cons (ce_var 1 (pv 1)) (cas_cons ce_bl cas_nil))))
    (css_one (cs_ret ce_bl)))))))
def S_read_else : FN := fnOf N_read_else.length m_read_else
abbrev s_read_end : Stmt := topS 37
abbrev N_read_end : List Str := ["layout", "number", "words", "start", "_"]
abbrev P_read_end : List Str := ["layout", "number", "words"]
theorem sc_read_end : FnScope N_read_end P_read_end (defScope s_read_end) := ⟨rfl, rfl, rfl, by decide +kernel, rfl, by decide +kernel, by decide +kernel⟩
def m_read_end : MS :=
  (sSeq (sIf (mOr (mBool (eBin (vEq true) (eCall vLen (eCons (eVar 2) eNil)) (eC (.int 1)))) (mNot (mTru (eFld cl_blocks "blocks" (eVar 0))))) (sRet (eC (.bl false))) sNext)
    (sSeq (sAsg (.tup [(.name 3), (.name 4)]) (eBm isLst vPop (eFld cl_blocks "blocks" (eVar 0)) eNil))
    (sSeq (sSub (eFld cl_jumps "jumps" (eVar 0)) (eVar 3) (eVar 1))
    (sRet (eC (.bl true))))))
theorem ok_read_end {f : Addr} {fd : FuncData} (F : Fun K "read_end" "read_end" s_read_end f fd) (FF_blocks : FldOk K mg "blocks" cl_blocks) (B : Dg.Bi mg) (FF_jumps : FldOk K mg "jumps" cl_jumps) : FnOk P w K mg base (L2.CX P w) 1 f fd P_read_end (spC K mg P_read_end.length (fnOf N_read_end.length m_read_end)) :=
  fn_ok F sc_read_end fun cdv A outer s H E hr => (css_cons (cs_if (CW.pt (cw_or (ct_cmp (op_neD (Room.u64 hr)) ab_ne (ce_cb (fun h => pe_callB call_len (by rfl) B.b_len (by decide +kernel) h) an_len (cas_cons (ce_var 2 (pv 2)) cas_nil)) ce_int (nomark _)) (cw_or1 (ct_not (ct_tru (ce_fld FF_blocks (ce_var 0 (pv 0)) rfl)))))) (css_one (cs_ret ce_bl)) css_nil)
    (css_cons (cs_asg (t := (.tup [(.name 3), (.name 4)])) (ce_bm0 chk_lst am_pop PySem.F.plainAttrs_list PySem.F.slot_list_pop PySem.F.type_list_pop mt_pop (ce_fld FF_blocks (ce_var 0 (pv 0)) rfl)) (tg_tup rfl (tgs_cons (tg_name 3 sc_read_end.nd rfl (.inl rfl)) (tgs_cons (tg_name 4 sc_read_end.nd rfl (.inl rfl)) tgs_nil))))
    (css_cons (cs_sub (Room.u1 hr) (ce_fld FF_jumps (ce_var 0 (pv 0)) rfl) (ce_var 3 (pv 3)) (ce_var 1 (pv 1)))
    (css_one (cs_ret ce_bl)))))
def S_read_end : FN := fnOf N_read_end.length m_read_end
abbrev s_read_again : Stmt := topS 38
abbrev N_read_again : List Str := ["layout", "number", "words"]
abbrev P_read_again : List Str := ["layout", "number", "words"]
theorem sc_read_again : FnScope N_read_again P_read_again (defScope s_read_again) := ⟨rfl, rfl, rfl, by decide +kernel, rfl, by decide +kernel, by decide +kernel⟩
def m_read_again : MS :=
  (sRet (eAnd (eBin (vEq true) (eFld cl_actor "actor" (eVar 0)) (eC c_WRITER)) (eBin (vEq false) (eCall vLen (eCons (eVar 2) eNil)) (eC (.int 1)))))
theorem ok_read_again {f : Addr} {fd : FuncData} (F : Fun K "read_again" "read_again" s_read_again f fd) (B : Dg.Bi mg) (FF_actor : FldOk K mg "actor" cl_actor) (G_WRITER : GV K mg "WRITER" c_WRITER) : FnOk P w K mg base (L2.CX P w) 1 f fd P_read_again (spC K mg P_read_again.length (fnOf N_read_again.length m_read_again)) :=
  fn_ok F sc_read_again fun cdv A outer s H E hr => (css_one (cs_ret (ce_and (ce_cmp (op_neD (Room.u64 hr)) ab_ne (ce_fld FF_actor (ce_var 0 (pv 0)) rfl) (ce_glob G_WRITER (by rfl)) (nomark _)) (ce_one (ce_cmp (op_eqD (Room.u64 hr)) ab_eq (ce_cb (fun h => pe_callB call_len (by rfl) B.b_len (by decide +kernel) h) an_len (cas_cons (ce_var 2 (pv 2)) cas_nil)) ce_int (nomark _))))))
def S_read_again : FN := fnOf N_read_again.length m_read_again
def tabHeads : FTab := [("read_flag", arity P_read_flag.length S_read_flag), ("read_register", arity P_read_register.length S_read_register), ("read_writer", arity P_read_writer.length S_read_writer), ("read_reader", arity P_read_reader.length S_read_reader)]
def tabForms : FTab := [("read_write", arity P_read_write.length S_read_write), ("read_read", arity P_read_read.length S_read_read), ("read_flag_and_number", arity P_read_flag_and_number.length S_read_flag_and_number), ("read_step", arity P_read_step.length S_read_step), ("read_look", arity P_read_look.length S_read_look), ("read_if", arity P_read_if.length S_read_if), ("read_else", arity P_read_else.length S_read_else), ("read_end", arity P_read_end.length S_read_end), ("read_again", arity P_read_again.length S_read_again)]
abbrev s_read_line : Stmt := topS 41
abbrev N_read_line : List Str := ["layout", "number", "words", "head", "form"]
abbrev P_read_line : List Str := ["layout", "number", "words"]
theorem sc_read_line : FnScope N_read_line P_read_line (defScope s_read_line) := ⟨rfl, rfl, rfl, by decide +kernel, rfl, by decide +kernel, by decide +kernel⟩
def m_read_line : MS :=
  (sSeq (sIf (mBool (eKin false kd_HEADS (eBin vIx (eVar 2) (eC (.int 0))))) (sSeq (sAsg (.name 3) (eKix kd_HEADS (eBin vIx (eVar 2) (eC (.int 0)))))
        (sRet (eCallV tabHeads 3 (eCons (eVar 0) (eCons (eVar 1) (eCons (eVar 2) eNil)))))) sNext)
    (sSeq (sIf (mOr (mBool (eKin true kd_FORMS (eBin vIx (eVar 2) (eC (.int 0))))) (mBool (eBin (vIs false) (eFld cl_actor "actor" (eVar 0)) (eC .non)))) (sRet (eC (.bl false))) sNext)
    (sSeq (sAsg (.name 4) (eKix kd_FORMS (eBin vIx (eVar 2) (eC (.int 0)))))
    (sSeq (sIf (mNot (mTru (eCallV tabForms 4 (eCons (eVar 0) (eCons (eVar 1) (eCons (eVar 2) eNil)))))) (sRet (eC (.bl false))) sNext)
    (sSeq (sSub (eFld cl_lines "lines" (eVar 0)) (eVar 1) (eVar 2))
    (sRet (eC (.bl true))))))))
theorem ok_read_line {f : Addr} {fd : FuncData} (F : Fun K "read_line" "read_line" s_read_line f fd) (KD_HEADS : KdOk K w mg "HEADS" kd_HEADS) (T_tabHeads : TabOk P w K mg base 3 tabHeads) (FF_actor : FldOk K mg "actor" cl_actor) (KD_FORMS : KdOk K w mg "FORMS" kd_FORMS) (T_tabForms : TabOk P w K mg base 3 tabForms) (FF_lines : FldOk K mg "lines" cl_lines) : FnOk P w K mg base (L2.CX P w) 4 f fd P_read_line (spC K mg P_read_line.length (fnOf N_read_line.length m_read_line)) :=
  fn_ok F sc_read_line fun cdv A outer s H E hr => (css_cons (cs_if (ct_kin KD_HEADS (by rfl) (ce_ixr (Room.u1 hr) (ce_var 2 (pv 2)) ce_int (fun _ _ => rfl))) (css_cons (cs_set 3 sc_read_line.nd rfl (.inl rfl) (ce_kix KD_HEADS (by rfl) (ce_ixr (Room.u1 hr) (ce_var 2 (pv 2)) ce_int (fun _ _ => rfl)) (fun _ _ => rfl)))
        (css_one (cs_ret (ce_callV (i := 3) T_tabHeads (takes_of rfl rfl rfl rfl) (hr.mono (by decide)) rfl (by first | exact Or.inl rfl | exact Or.inr (Or.inl rfl)) (cas_cons (ce_var 0 (pv 0)) (cas_cons (ce_var 1 (pv 1)) (cas_cons (ce_var 2 (pv 2)) cas_nil))))))) css_nil)
    (css_cons (cs_if (CW.pt (cw_or (ct_kinN KD_FORMS (by rfl) (ce_ixr (Room.u1 hr) (ce_var 2 (pv 2)) ce_int (fun _ _ => rfl))) (cw_or1 (ct_cmp op_isN ab_is (ce_fld FF_actor (ce_var 0 (pv 0)) rfl) ce_non (nomark _))))) (css_one (cs_ret ce_bl)) css_nil)
    (css_cons (cs_set 4 sc_read_line.nd rfl (.inl rfl) (ce_kix KD_FORMS (by rfl) (ce_ixr (Room.u1 hr) (ce_var 2 (pv 2)) ce_int (fun _ _ => rfl)) (fun _ _ => rfl)))
    (css_cons (cs_if (ct_not (ct_tru (ce_callV (i := 4) T_tabForms (takes_of rfl rfl rfl rfl) (hr.mono (by decide)) rfl (by first | exact Or.inl rfl | exact Or.inr (Or.inl rfl)) (cas_cons (ce_var 0 (pv 0)) (cas_cons (ce_var 1 (pv 1)) (cas_cons (ce_var 2 (pv 2)) cas_nil)))))) (css_one (cs_ret ce_bl)) css_nil)
    (css_cons (cs_sub (Room.u1 hr) (ce_fld FF_lines (ce_var 0 (pv 0)) rfl) (ce_var 1 (pv 1)) (ce_var 2 (pv 2)))
    (css_one (cs_ret ce_bl)))))))
def S_read_line : FN := fnOf N_read_line.length m_read_line
abbrev s_read_layout : Stmt := topS 42
abbrev N_read_layout : List Str := ["text", "layout", "lines", "number", "line"]
abbrev P_read_layout : List Str := ["text"]
theorem sc_read_layout : FnScope N_read_layout P_read_layout (defScope s_read_layout) := ⟨rfl, rfl, rfl, by decide +kernel, rfl, by decide +kernel, by decide +kernel⟩
def m_read_layout : MS :=
  (sSeq (sAsg (.name 1) (eMake "Layout" (arity P_Layout___init.length S_Layout___init) eNil))
    (sSeq (sAsg (.name 2) (eCall (arity P_lines_of.length S_lines_of) (eCons (eVar 0) eNil)))
    (sSeq (sFor (.tup [(.name 3), (.name 4)]) (itEn 1 (eCons (eVar 2) eNil)) (sIf (mOr (mBool (eBin vGt (eVar 3) (eC c_MOST_LINES))) (mNot (mTru (eCall (arity P_read_line.length S_read_line) (eCons (eVar 1) (eCons (eVar 3) (eCons (eCall vTuple (eCons (eBm isStr (vSplit false) (eVar 4) (eCons (eC (.str " ")) eNil)) eNil)) eNil))))))) (sRaise1 "BadWorld" "line" (eVar 3)) sNext))
    (sSeq (sIf (mOr (mNot (mTru (eFld cl_readers "readers" (eVar 1)))) (mNot (mTru (eCall (arity P_is_complete.length S_is_complete) (eCons (eVar 1) eNil))))) (sRaise1 "BadWorld" "line" (eBin (vAdd false) (eCall vLen (eCons (eVar 2) eNil)) (eC (.int 1)))) sNext)
    (sRet (eVar 1))))))
theorem ok_read_layout {f : Addr} {fd : FuncData} {cBadWorld : Addr} (F : Fun K "read_layout" "read_layout" s_read_layout f fd) (K_Layout : MakC P w K mg base 1 "Layout" P_Layout___init S_Layout___init) (C_lines_of : Dg.Cal P w K mg base (L2.CX P w) 1 "lines_of" P_lines_of (spC K mg P_lines_of.length S_lines_of)) (B : Dg.Bi mg) (C_read_line : Dg.Cal P w K mg base (L2.CX P w) 4 "read_line" P_read_line (spC K mg P_read_line.length S_read_line)) (G_MOST_LINES : GV K mg "MOST_LINES" c_MOST_LINES) (O_BadWorld : Dg.Ef P w K mg base "BadWorld" "line" cBadWorld) (C_is_complete : Dg.Cal P w K mg base (L2.CX P w) 1 "is_complete" P_is_complete (spC K mg P_is_complete.length S_is_complete)) (FF_readers : FldOk K mg "readers" cl_readers) : FnOk P w K mg base (L2.CX P w) 5 f fd P_read_layout (spC K mg P_read_layout.length (fnOf N_read_layout.length m_read_layout)) :=
  fn_ok F sc_read_layout fun cdv A outer s H E hr => (css_cons (cs_set 1 sc_read_layout.nd rfl (.inl rfl) (ce_make0 K_Layout (takes_of rfl rfl rfl rfl) (hr.mono (by decide)) (by rfl)))
    (css_cons (cs_set 2 sc_read_layout.nd rfl (.inl rfl) (ce_call C_lines_of (takes_of rfl rfl rfl rfl) (hr.mono (by decide)) (by rfl) (cas_cons (ce_var 0 (pv 0)) cas_nil)))
    (css_cons (cs_for (t := (.tup [(.name 3), (.name 4)])) (passes_of rfl) rfl (ci_en 1 (fun h => pi_enK (by rfl) B.b_enumerate h (by decide) (by decide)) (cas_cons (ce_var 2 (pv 2)) cas_nil)) (tg_tup rfl (tgs_cons (tg_name 3 sc_read_layout.nd rfl (.inl rfl)) (tgs_cons (tg_name 4 sc_read_layout.nd rfl (.inl rfl)) tgs_nil))) (css_one (cs_if (CW.pt (cw_or (ct_cmp op_gt ab_gt (ce_var 3 (pv 3)) (ce_glob G_MOST_LINES (by rfl)) (nomark _)) (cw_or1 (ct_not (ct_tru (ce_call C_read_line (takes_of rfl rfl rfl rfl) (hr.mono (by decide)) (by rfl) (cas_cons (ce_var 1 (pv 1)) (cas_cons (ce_var 3 (pv 3)) (cas_cons (ce_cb (fun h => pe_callTy call_tuple_of (by rfl) B.b_tuple (by decide +kernel) h) an_tuple (cas_cons (ce_bm chk_str (am_split false) PySem.F.plainAttrs_str PySem.F.slot_str_split PySem.F.type_str_split mt_split (ce_var 4 (pv 4)) (cas_cons ce_str cas_nil)) cas_nil)) cas_nil))))))))) (css_one (cs_raise1 O_BadWorld rfl (takes_of rfl rfl rfl rfl) (hr.mono (by decide)) (by rfl) (ce_var 3 (pv 3)))) css_nil)))
    (css_cons (cs_if (CW.pt (cw_or (ct_not (ct_tru (ce_fld FF_readers (ce_var 1 (pv 1)) rfl))) (cw_or1 (ct_not (ct_tru (ce_call C_is_complete (takes_of rfl rfl rfl rfl) (hr.mono (by decide)) (by rfl) (cas_cons (ce_var 1 (pv 1)) cas_nil))))))) (css_one (cs_raise1 O_BadWorld rfl (takes_of rfl rfl rfl rfl) (hr.mono (by decide)) (by rfl) (ce_add false (ce_cb (fun h => pe_callB call_len (by rfl) B.b_len (by decide +kernel) h) an_len (cas_cons (ce_var 2 (pv 2)) cas_nil)) ce_int))) css_nil)
    (css_one (cs_ret (ce_var 1 (pv 1))))))))
def S_read_layout : FN := fnOf N_read_layout.length m_read_layout
end
end Cl
namespace Cl
open PySem PySem.Spec PyProof.Rows L2
section
variable {P : Program} {w : World} {K : PySem.W.Frag} {mg : Str → Option Value} {base : Heap}
abbrev s_checked_values : Stmt := topS 44
abbrev N_checked_values : List Str := ["values", "rows", "at", "value"]
abbrev P_checked_values : List Str := ["values"]
theorem sc_checked_values : FnScope N_checked_values P_checked_values (defScope s_checked_values) := ⟨rfl, rfl, rfl, by decide +kernel, rfl, by decide +kernel, by decide +kernel⟩
def m_checked_values : MS :=
  (sSeq (sAsg (.name 1) (eLcS false 0 [] (.name 3) [3] mYes (eCall vTuple (eCons (eVar 3) eNil))))
    (sSeq (sIf (mOr (mNot (mTru (eVar 1))) (mNot (mTru (eBin vIx (eVar 1) (eC (.int 0)))))) (sRaise1 "BadValues" "index" (eC (.int 0))) sNext)
    (sSeq (sFor (.name 2) (itR2 (eCons (eC (.int 1)) (eCons (eCall vLen (eCons (eVar 1) eNil)) eNil))) (sIf (mOr (mBool (eBin (vEq true) (eCall vLen (eCons (eBin vIx (eVar 1) (eVar 2)) eNil)) (eCall vLen (eCons (eBin vIx (eVar 1) (eBin vSub (eVar 2) (eC (.int 1)))) eNil)))) (mBool (eBin vLtT (eBin vIx (eVar 1) (eVar 2)) (eBin vIx (eVar 1) (eBin vSub (eVar 2) (eC (.int 1))))))) (sRaise1 "BadValues" "index" (eVar 2)) sNext))
    (sRet (eVar 1)))))
theorem ok_checked_values {f : Addr} {fd : FuncData} {cBadValues : Addr} (F : Fun K "checked_values" "checked_values" s_checked_values f fd) (B : Dg.Bi mg) (O_BadValues : Dg.Ef P w K mg base "BadValues" "index" cBadValues) : FnOk P w K mg base (L2.CX P w) 3 f fd P_checked_values (spC K mg P_checked_values.length (fnOf N_checked_values.length m_checked_values)) :=
  fn_ok F sc_checked_values fun cdv A outer s H E hr => (css_cons (cs_setLcS (t := (.name 3)) (own := [("value", 3)]) (j := 1) false 0 [] (by rfl) sc_checked_values.nd (pv 0) path_nil (blkOk_by (own := [("value", 3)]) (N := N_checked_values) (sc := defScope s_checked_values) (by decide +kernel)) (by decide) (fun _ _ _ _ _ => (tg_name 3 sc_checked_values.nd rfl (by first | exact .inl rfl | exact .inr rfl))) (fun _ _ _ _ _ => cts_nil) (fun _ _ _ _ _ => (ce_cb (fun h => pe_callTy call_tuple_of (by rfl) B.b_tuple (by decide +kernel) h) an_tuple (cas_cons (ce_var 3 (pv 3)) cas_nil))) rfl rfl (sw_true rfl rfl rfl (by decide +kernel)))
    (css_cons (cs_if (CW.pt (cw_or (ct_not (ct_tru (ce_var 1 (pv 1)))) (cw_or1 (ct_not (ct_tru (ce_ixr (Room.u1 hr) (ce_var 1 (pv 1)) ce_int (fun _ _ => rfl))))))) (css_one (cs_raise1 O_BadValues rfl (takes_of rfl rfl rfl rfl) (hr.mono (by decide)) (by rfl) ce_int)) css_nil)
    (css_cons (cs_for (t := (.name 2)) (passes_of rfl) rfl (ci_r2 (fun h => pi_range2 (by rfl) B.b_range h) (cas_cons ce_int (cas_cons (ce_cb (fun h => pe_callB call_len (by rfl) B.b_len (by decide +kernel) h) an_len (cas_cons (ce_var 1 (pv 1)) cas_nil)) cas_nil))) (tg_name 2 sc_checked_values.nd rfl (.inl rfl)) (css_one (cs_if (CW.pt (cw_or (ct_cmp (op_neD (Room.u64 hr)) ab_ne (ce_cb (fun h => pe_callB call_len (by rfl) B.b_len (by decide +kernel) h) an_len (cas_cons (ce_ixr (Room.u1 hr) (ce_var 1 (pv 1)) (ce_var 2 (pv 2)) (fun _ _ => rfl)) cas_nil)) (ce_cb (fun h => pe_callB call_len (by rfl) B.b_len (by decide +kernel) h) an_len (cas_cons (ce_ixr (Room.u1 hr) (ce_var 1 (pv 1)) (ce_sub (ce_var 2 (pv 2)) ce_int) (fun _ _ => rfl)) cas_nil)) (nomark _)) (cw_or1 (ct_cmp (Cl.OpR.or op_lt (op_ltT (Nat.lt_of_le_of_lt (Nat.le_succ _) (Room.u1 hr)))) ab_ltT (ce_ixr (Room.u1 hr) (ce_var 1 (pv 1)) (ce_var 2 (pv 2)) (fun _ _ => rfl)) (ce_ixr (Room.u1 hr) (ce_var 1 (pv 1)) (ce_sub (ce_var 2 (pv 2)) ce_int) (fun _ _ => rfl)) (nomark _))))) (css_one (cs_raise1 O_BadValues rfl (takes_of rfl rfl rfl rfl) (hr.mono (by decide)) (by rfl) (ce_var 2 (pv 2)))) css_nil)))
    (css_one (cs_ret (ce_var 1 (pv 1)))))))
def S_checked_values : FN := fnOf N_checked_values.length m_checked_values
abbrev s_start : Stmt := topS 47
abbrev N_start : List Str := ["layout", "actor"]
abbrev P_start : List Str := ["layout", "actor"]
theorem sc_start : FnScope N_start P_start (defScope s_start) := ⟨rfl, rfl, rfl, by decide +kernel, rfl, by decide +kernel, by decide +kernel⟩
def m_start : MS :=
  (sRet (eTup (eCons (eBin vIx (eFld cl_first "first" (eVar 0)) (eVar 1)) (eCons (eC (.int 0)) (eCons (eBin (vMul false) (eTup (eCons (eC (.int 0)) eNil)) (eCall vLen (eCons (eBin vIx (eFld cl_marks "marks" (eVar 0)) (eVar 1)) eNil))) eNil)))))
theorem ok_start {f : Addr} {fd : FuncData} (F : Fun K "start" "start" s_start f fd) (FF_marks : FldOk K mg "marks" cl_marks) (B : Dg.Bi mg) (FF_first : FldOk K mg "first" cl_first) : FnOk P w K mg base (L2.CX P w) 1 f fd P_start (spC K mg P_start.length (fnOf N_start.length m_start)) :=
  fn_ok F sc_start fun cdv A outer s H E hr => (css_one (cs_ret (ce_tup (cas_cons (ce_ixr (Room.u1 hr) (ce_fld FF_first (ce_var 0 (pv 0)) rfl) (ce_var 1 (pv 1)) (fun _ _ => rfl)) (cas_cons ce_int (cas_cons (ce_mul false (ce_tup (cas_cons ce_int cas_nil)) (ce_cb (fun h => pe_callB call_len (by rfl) B.b_len (by decide +kernel) h) an_len (cas_cons (ce_ixr (Room.u1 hr) (ce_fld FF_marks (ce_var 0 (pv 0)) rfl) (ce_var 1 (pv 1)) (fun _ _ => rfl)) cas_nil))) cas_nil))))))
def S_start : FN := fnOf N_start.length m_start
abbrev s_swept_cell : Stmt := topS 49
abbrev N_swept_cell : List Str := ["direction", "many", "done"]
abbrev P_swept_cell : List Str := ["direction", "many", "done"]
theorem sc_swept_cell : FnScope N_swept_cell P_swept_cell (defScope s_swept_cell) := ⟨rfl, rfl, rfl, by decide +kernel, rfl, by decide +kernel, by decide +kernel⟩
def m_swept_cell : MS :=
  (sSeq (sIf (mBool (eBin (vEq false) (eVar 0) (eC (.str "up")))) (sRet (eBin vSub (eBin vSub (eVar 1) (eC (.int 1))) (eVar 2))) sNext)
    (sRet (eVar 2)))
theorem ok_swept_cell {f : Addr} {fd : FuncData} (F : Fun K "swept_cell" "swept_cell" s_swept_cell f fd)  : FnOk P w K mg base (L2.CX P w) 1 f fd P_swept_cell (spC K mg P_swept_cell.length (fnOf N_swept_cell.length m_swept_cell)) :=
  fn_ok F sc_swept_cell fun cdv A outer s H E hr => (css_cons (cs_if (ct_cmp (op_eqD (Room.u64 hr)) ab_eq (ce_var 0 (pv 0)) ce_str (nomark _)) (css_one (cs_ret (ce_sub (ce_sub (ce_var 1 (pv 1)) ce_int) (ce_var 2 (pv 2))))) css_nil)
    (css_one (cs_ret (ce_var 2 (pv 2)))))
def S_swept_cell : FN := fnOf N_swept_cell.length m_swept_cell
abbrev s_next_line : Stmt := topS 52
abbrev N_next_line : List Str := ["layout", "line"]
abbrev P_next_line : List Str := ["layout", "line"]
theorem sc_next_line : FnScope N_next_line P_next_line (defScope s_next_line) := ⟨rfl, rfl, rfl, by decide +kernel, rfl, by decide +kernel, by decide +kernel⟩
def m_next_line : MS :=
  (sSeq (sWhile (mAnd (mBool (eBin (vIn false) (eVar 1) (eFld cl_lines "lines" (eVar 0)))) (mBool (eBin (vIn false) (eBin vIx (eBin vIx (eFld cl_lines "lines" (eVar 0)) (eVar 1)) (eC (.int 0))) (eTup (eCons (eC (.str "else")) (eCons (eC (.str "end")) eNil)))))) (sAsg (.name 1) (eGet2 (eFld cl_jumps "jumps" (eVar 0)) (eVar 1) (eBin (vAdd false) (eVar 1) (eC (.int 1))))))
    (sSeq (sIf (mBool (eBin (vIn true) (eVar 1) (eFld cl_lines "lines" (eVar 0)))) (sRet (eC .non)) sNext)
    (sRet (eVar 1))))
theorem ok_next_line {f : Addr} {fd : FuncData} (F : Fun K "next_line" "next_line" s_next_line f fd) (FF_lines : FldOk K mg "lines" cl_lines) (FF_jumps : FldOk K mg "jumps" cl_jumps) : FnOk P w K mg base (L2.CX P w) 1 f fd P_next_line (spC K mg P_next_line.length (fnOf N_next_line.length m_next_line)) :=
  fn_ok F sc_next_line fun cdv A outer s H E hr => (css_cons (cs_while (passes_of rfl) (CW.pt (cw_and (ct_cmp (op_in (Room.u65 hr)) (ab_in false) (ce_var 1 (pv 1)) (ce_fld FF_lines (ce_var 0 (pv 0)) rfl) (by rfl)) (cw_and1 (ct_cmp (op_in (Room.u65 hr)) (ab_in false) (ce_ixr (Room.u1 hr) (ce_ixr (Room.u1 hr) (ce_fld FF_lines (ce_var 0 (pv 0)) rfl) (ce_var 1 (pv 1)) (fun _ _ => rfl)) ce_int (fun _ _ => rfl)) (ce_tup (cas_cons ce_str (cas_cons ce_str cas_nil))) (by rfl))))) (css_one (cs_set 1 sc_next_line.nd rfl (.inl rfl) (ce_get2 (Room.u1 hr) (ce_fld FF_jumps (ce_var 0 (pv 0)) rfl) (ce_var 1 (pv 1)) (ce_add false (ce_var 1 (pv 1)) ce_int) ⟨rfl, rfl, rfl, rfl⟩))))
    (css_cons (cs_if (ct_cmp (op_notin (Room.u65 hr)) (ab_in true) (ce_var 1 (pv 1)) (ce_fld FF_lines (ce_var 0 (pv 0)) rfl) (by rfl)) (css_one (cs_ret ce_non)) css_nil)
    (css_one (cs_ret (ce_var 1 (pv 1))))))
def S_next_line : FN := fnOf N_next_line.length m_next_line
abbrev s_place_at : Stmt := topS 51
abbrev N_place_at : List Str := ["layout", "line", "marks"]
abbrev P_place_at : List Str := ["layout", "line", "marks"]
theorem sc_place_at : FnScope N_place_at P_place_at (defScope s_place_at) := ⟨rfl, rfl, rfl, by decide +kernel, rfl, by decide +kernel, by decide +kernel⟩
def m_place_at : MS :=
  (sSeq (sAsg (.name 1) (eCall (arity P_next_line.length S_next_line) (eCons (eVar 0) (eCons (eVar 1) eNil))))
    (sSeq (sIf (mBool (eBin (vIs false) (eVar 1) (eC .non))) (sRet (eC .non)) sNext)
    (sRet (eTup (eCons (eVar 1) (eCons (eC (.int 0)) (eCons (eVar 2) eNil)))))))
theorem ok_place_at {f : Addr} {fd : FuncData} (F : Fun K "place_at" "place_at" s_place_at f fd) (C_next_line : Dg.Cal P w K mg base (L2.CX P w) 1 "next_line" P_next_line (spC K mg P_next_line.length S_next_line)) : FnOk P w K mg base (L2.CX P w) 2 f fd P_place_at (spC K mg P_place_at.length (fnOf N_place_at.length m_place_at)) :=
  fn_ok F sc_place_at fun cdv A outer s H E hr => (css_cons (cs_set 1 sc_place_at.nd rfl (.inl rfl) (ce_call C_next_line (takes_of rfl rfl rfl rfl) (hr.mono (by decide)) (by rfl) (cas_cons (ce_var 0 (pv 0)) (cas_cons (ce_var 1 (pv 1)) cas_nil))))
    (css_cons (cs_if (ct_cmp op_isN ab_is (ce_var 1 (pv 1)) ce_non (nomark _)) (css_one (cs_ret ce_non)) css_nil)
    (css_one (cs_ret (ce_tup (cas_cons (ce_var 1 (pv 1)) (cas_cons ce_int (cas_cons (ce_var 2 (pv 2)) cas_nil))))))))
def S_place_at : FN := fnOf N_place_at.length m_place_at
abbrev s_place_in_sweep : Stmt := topS 50
abbrev N_place_in_sweep : List Str := ["layout", "many", "place", "line", "done", "marks"]
abbrev P_place_in_sweep : List Str := ["layout", "many", "place"]
theorem sc_place_in_sweep : FnScope N_place_in_sweep P_place_in_sweep (defScope s_place_in_sweep) := ⟨rfl, rfl, rfl, by decide +kernel, rfl, by decide +kernel, by decide +kernel⟩
def m_place_in_sweep : MS :=
  (sSeq (sAsg (.tup [(.name 3), (.name 4), (.name 5)]) (eVar 2))
    (sSeq (sIf (mBool (eBin vLtT (eBin (vAdd false) (eVar 4) (eC (.int 1))) (eVar 1))) (sRet (eTup (eCons (eVar 3) (eCons (eBin (vAdd false) (eVar 4) (eC (.int 1))) (eCons (eVar 5) eNil))))) sNext)
    (sRet (eCall (arity P_place_at.length S_place_at) (eCons (eVar 0) (eCons (eBin (vAdd false) (eVar 3) (eC (.int 1))) (eCons (eVar 5) eNil)))))))
theorem ok_place_in_sweep {f : Addr} {fd : FuncData} (F : Fun K "place_in_sweep" "place_in_sweep" s_place_in_sweep f fd) (C_place_at : Dg.Cal P w K mg base (L2.CX P w) 2 "place_at" P_place_at (spC K mg P_place_at.length S_place_at)) : FnOk P w K mg base (L2.CX P w) 3 f fd P_place_in_sweep (spC K mg P_place_in_sweep.length (fnOf N_place_in_sweep.length m_place_in_sweep)) :=
  fn_ok F sc_place_in_sweep fun cdv A outer s H E hr => (css_cons (cs_asg (t := (.tup [(.name 3), (.name 4), (.name 5)])) (ce_var 2 (pv 2)) (tg_tup rfl (tgs_cons (tg_name 3 sc_place_in_sweep.nd rfl (.inl rfl)) (tgs_cons (tg_name 4 sc_place_in_sweep.nd rfl (.inl rfl)) (tgs_cons (tg_name 5 sc_place_in_sweep.nd rfl (.inl rfl)) tgs_nil)))))
    (css_cons (cs_if (ct_cmp (Cl.OpR.or op_lt (op_ltT (Nat.lt_of_le_of_lt (Nat.le_succ _) (Room.u1 hr)))) ab_ltT (ce_add false (ce_var 4 (pv 4)) ce_int) (ce_var 1 (pv 1)) (nomark _)) (css_one (cs_ret (ce_tup (cas_cons (ce_var 3 (pv 3)) (cas_cons (ce_add false (ce_var 4 (pv 4)) ce_int) (cas_cons (ce_var 5 (pv 5)) cas_nil)))))) css_nil)
    (css_one (cs_ret (ce_call C_place_at (takes_of rfl rfl rfl rfl) (hr.mono (by decide)) (by rfl) (cas_cons (ce_var 0 (pv 0)) (cas_cons (ce_add false (ce_var 3 (pv 3)) ce_int) (cas_cons (ce_var 5 (pv 5)) cas_nil))))))))
def S_place_in_sweep : FN := fnOf N_place_in_sweep.length m_place_in_sweep
abbrev s_put : Stmt := topS 58
abbrev N_put : List Str := ["row", "at", "number"]
abbrev P_put : List Str := ["row", "at", "number"]
theorem sc_put : FnScope N_put P_put (defScope s_put) := ⟨rfl, rfl, rfl, by decide +kernel, rfl, by decide +kernel, by decide +kernel⟩
def m_put : MS :=
  (sRet (eBin (vAdd false) (eBin (vAdd false) (eSl false (eVar 0) eNoPart (ePart (eVar 1))) (eTup (eCons (eVar 2) eNil))) (eSl false (eVar 0) (ePart (eBin (vAdd false) (eVar 1) (eC (.int 1)))) eNoPart)))
theorem ok_put {f : Addr} {fd : FuncData} (F : Fun K "put" "put" s_put f fd)  : FnOk P w K mg base (L2.CX P w) 1 f fd P_put (spC K mg P_put.length (fnOf N_put.length m_put)) :=
  fn_ok F sc_put fun cdv A outer s H E hr => (css_one (cs_ret (ce_add false (ce_add false (ce_sl false (ce_var 0 (pv 0)) cpo_none (cpo_some (ce_var 1 (pv 1)))) (ce_tup (cas_cons (ce_var 2 (pv 2)) cas_nil))) (ce_sl false (ce_var 0 (pv 0)) (cpo_some (ce_add false (ce_var 1 (pv 1)) ce_int)) cpo_none))))
def S_put : FN := fnOf N_put.length m_put
abbrev s_flag_holds : Stmt := topS 53
abbrev N_flag_holds : List Str := ["layout", "flags", "flag"]
abbrev P_flag_holds : List Str := ["layout", "flags", "flag"]
theorem sc_flag_holds : FnScope N_flag_holds P_flag_holds (defScope s_flag_holds) := ⟨rfl, rfl, rfl, by decide +kernel, rfl, by decide +kernel, by decide +kernel⟩
def m_flag_holds : MS :=
  (sRet (eBin vIx (eVar 1) (eBm isLst vIndex (eFld cl_flags "flags" (eVar 0)) (eCons (eVar 2) eNil))))
theorem ok_flag_holds {f : Addr} {fd : FuncData} (F : Fun K "flag_holds" "flag_holds" s_flag_holds f fd) (FF_flags : FldOk K mg "flags" cl_flags) : FnOk P w K mg base (L2.CX P w) 1 f fd P_flag_holds (spC K mg P_flag_holds.length (fnOf N_flag_holds.length m_flag_holds)) :=
  fn_ok F sc_flag_holds fun cdv A outer s H E hr => (css_one (cs_ret (ce_ixr (Room.u1 hr) (ce_var 1 (pv 1)) (ce_bm chk_lst am_index PySem.F.plainAttrs_list PySem.F.slot_list_index PySem.F.type_list_index mt_index (ce_fld FF_flags (ce_var 0 (pv 0)) rfl) (cas_cons (ce_var 2 (pv 2)) cas_nil)) (fun _ _ => rfl))))
def S_flag_holds : FN := fnOf N_flag_holds.length m_flag_holds
abbrev s_flags_behind : Stmt := topS 54
abbrev N_flags_behind : List Str := ["layout", "flags", "words", "greater"]
abbrev P_flags_behind : List Str := ["layout", "flags", "words"]
theorem sc_flags_behind : FnScope N_flags_behind P_flags_behind (defScope s_flags_behind) := ⟨rfl, rfl, rfl, by decide +kernel, rfl, by decide +kernel, by decide +kernel⟩
def m_flags_behind : MS :=
  (sSeq (sIf (mBool (eBin (vEq false) (eBin vIx (eVar 2) (eC (.int 0))) (eC (.str "set")))) (sRet (eCall (arity P_put.length S_put) (eCons (eVar 1) (eCons (eBm isLst vIndex (eFld cl_flags "flags" (eVar 0)) (eCons (eBin vIx (eVar 2) (eC (.int 1))) eNil)) (eCons (eCall vInt (eCons (eBin vIx (eVar 2) (eC (.int 2))) eNil)) eNil))))) sNext)
    (sSeq (sIf (mBool (eBin (vEq false) (eBin vIx (eVar 2) (eC (.int 0))) (eC (.str "step")))) (sSeq (sAsg (.name 3) (eBin (vAdd false) (eCall (arity P_flag_holds.length S_flag_holds) (eCons (eVar 0) (eCons (eVar 1) (eCons (eBin vIx (eVar 2) (eC (.int 1))) eNil)))) (eC (.int 1))))
        (sRet (eCall (arity P_put.length S_put) (eCons (eVar 1) (eCons (eBm isLst vIndex (eFld cl_flags "flags" (eVar 0)) (eCons (eBin vIx (eVar 2) (eC (.int 1))) eNil)) (eCons (eBin vMod (eVar 3) (eBin vIx (eFld cl_bounds "bounds" (eVar 0)) (eBin vIx (eVar 2) (eC (.int 1))))) eNil)))))) sNext)
    (sRet (eVar 1))))
theorem ok_flags_behind {f : Addr} {fd : FuncData} (F : Fun K "flags_behind" "flags_behind" s_flags_behind f fd) (C_put : Dg.Cal P w K mg base (L2.CX P w) 1 "put" P_put (spC K mg P_put.length S_put)) (B : Dg.Bi mg) (FF_flags : FldOk K mg "flags" cl_flags) (C_flag_holds : Dg.Cal P w K mg base (L2.CX P w) 1 "flag_holds" P_flag_holds (spC K mg P_flag_holds.length S_flag_holds)) (FF_bounds : FldOk K mg "bounds" cl_bounds) : FnOk P w K mg base (L2.CX P w) 2 f fd P_flags_behind (spC K mg P_flags_behind.length (fnOf N_flags_behind.length m_flags_behind)) :=
  fn_ok F sc_flags_behind fun cdv A outer s H E hr => (css_cons (cs_if (ct_cmp (op_eqD (Room.u64 hr)) ab_eq (ce_ixr (Room.u1 hr) (ce_var 2 (pv 2)) ce_int (fun _ _ => rfl)) ce_str (nomark _)) (css_one (cs_ret (ce_call C_put (takes_of rfl rfl rfl rfl) (hr.mono (by decide)) (by rfl) (cas_cons (ce_var 1 (pv 1)) (cas_cons (ce_bm chk_lst am_index PySem.F.plainAttrs_list PySem.F.slot_list_index PySem.F.type_list_index mt_index (ce_fld FF_flags (ce_var 0 (pv 0)) rfl) (cas_cons (ce_ixr (Room.u1 hr) (ce_var 2 (pv 2)) ce_int (fun _ _ => rfl)) cas_nil)) (cas_cons (ce_cb (fun h => pe_callTy (call_int1.or call_int_str) (by rfl) B.b_int (by decide +kernel) h) an_int (cas_cons (ce_ixr (Room.u1 hr) (ce_var 2 (pv 2)) ce_int (fun _ _ => rfl)) cas_nil)) cas_nil)))))) css_nil)
    (css_cons (cs_if (ct_cmp (op_eqD (Room.u64 hr)) ab_eq (ce_ixr (Room.u1 hr) (ce_var 2 (pv 2)) ce_int (fun _ _ => rfl)) ce_str (nomark _)) (css_cons (cs_set 3 sc_flags_behind.nd rfl (.inl rfl) (ce_add false (ce_call C_flag_holds (takes_of rfl rfl rfl rfl) (hr.mono (by decide)) (by rfl) (cas_cons (ce_var 0 (pv 0)) (cas_cons (ce_var 1 (pv 1)) (cas_cons (ce_ixr (Room.u1 hr) (ce_var 2 (pv 2)) ce_int (fun _ _ => rfl)) cas_nil)))) ce_int))
        (css_one (cs_ret (ce_call C_put (takes_of rfl rfl rfl rfl) (hr.mono (by decide)) (by rfl) (cas_cons (ce_var 1 (pv 1)) (cas_cons (ce_bm chk_lst am_index PySem.F.plainAttrs_list PySem.F.slot_list_index PySem.F.type_list_index mt_index (ce_fld FF_flags (ce_var 0 (pv 0)) rfl) (cas_cons (ce_ixr (Room.u1 hr) (ce_var 2 (pv 2)) ce_int (fun _ _ => rfl)) cas_nil)) (cas_cons (ce_mod (ce_var 3 (pv 3)) (ce_ixr (Room.u1 hr) (ce_fld FF_bounds (ce_var 0 (pv 0)) rfl) (ce_ixr (Room.u1 hr) (ce_var 2 (pv 2)) ce_int (fun _ _ => rfl)) (fun _ _ => rfl))) cas_nil))))))) css_nil)
    (css_one (cs_ret (ce_var 1 (pv 1))))))
def S_flags_behind : FN := fnOf N_flags_behind.length m_flags_behind
abbrev s_marks_behind : Stmt := topS 55
abbrev N_marks_behind : List Str := ["layout", "actor", "marks", "flags", "words"]
abbrev P_marks_behind : List Str := ["layout", "actor", "marks", "flags", "words"]
theorem sc_marks_behind : FnScope N_marks_behind P_marks_behind (defScope s_marks_behind) := ⟨rfl, rfl, rfl, by decide +kernel, rfl, by decide +kernel, by decide +kernel⟩
def m_marks_behind : MS :=
  (sSeq (sIf (mBool (eBin (vEq false) (eBin vIx (eVar 4) (eC (.int 0))) (eC (.str "look")))) (sRet (eCall (arity P_put.length S_put) (eCons (eVar 2) (eCons (eBm isLst vIndex (eBin vIx (eFld cl_marks "marks" (eVar 0)) (eVar 1)) (eCons (eBin vIx (eVar 4) (eC (.int 3))) eNil)) (eCons (eCall (arity P_flag_holds.length S_flag_holds) (eCons (eVar 0) (eCons (eVar 3) (eCons (eBin vIx (eVar 4) (eC (.int 1))) eNil)))) eNil))))) sNext)
    (sRet (eVar 2)))
theorem ok_marks_behind {f : Addr} {fd : FuncData} (F : Fun K "marks_behind" "marks_behind" s_marks_behind f fd) (C_put : Dg.Cal P w K mg base (L2.CX P w) 1 "put" P_put (spC K mg P_put.length S_put)) (C_flag_holds : Dg.Cal P w K mg base (L2.CX P w) 1 "flag_holds" P_flag_holds (spC K mg P_flag_holds.length S_flag_holds)) (FF_marks : FldOk K mg "marks" cl_marks) : FnOk P w K mg base (L2.CX P w) 2 f fd P_marks_behind (spC K mg P_marks_behind.length (fnOf N_marks_behind.length m_marks_behind)) :=
  fn_ok F sc_marks_behind fun cdv A outer s H E hr => (css_cons (cs_if (ct_cmp (op_eqD (Room.u64 hr)) ab_eq (ce_ixr (Room.u1 hr) (ce_var 4 (pv 4)) ce_int (fun _ _ => rfl)) ce_str (nomark _)) (css_one (cs_ret (ce_call C_put (takes_of rfl rfl rfl rfl) (hr.mono (by decide)) (by rfl) (cas_cons (ce_var 2 (pv 2)) (cas_cons (ce_bm chk_lst am_index PySem.F.plainAttrs_list PySem.F.slot_list_index PySem.F.type_list_index mt_index (ce_ixr (Room.u1 hr) (ce_fld FF_marks (ce_var 0 (pv 0)) rfl) (ce_var 1 (pv 1)) (fun _ _ => rfl)) (cas_cons (ce_ixr (Room.u1 hr) (ce_var 4 (pv 4)) ce_int (fun _ _ => rfl)) cas_nil)) (cas_cons (ce_call C_flag_holds (takes_of rfl rfl rfl rfl) (hr.mono (by decide)) (by rfl) (cas_cons (ce_var 0 (pv 0)) (cas_cons (ce_var 3 (pv 3)) (cas_cons (ce_ixr (Room.u1 hr) (ce_var 4 (pv 4)) ce_int (fun _ _ => rfl)) cas_nil)))) cas_nil)))))) css_nil)
    (css_one (cs_ret (ce_var 2 (pv 2)))))
def S_marks_behind : FN := fnOf N_marks_behind.length m_marks_behind
abbrev s_mark_holds : Stmt := topS 57
abbrev N_mark_holds : List Str := ["names", "marks", "word"]
abbrev P_mark_holds : List Str := ["names", "marks", "word"]
theorem sc_mark_holds : FnScope N_mark_holds P_mark_holds (defScope s_mark_holds) := ⟨rfl, rfl, rfl, by decide +kernel, rfl, by decide +kernel, by decide +kernel⟩
def m_mark_holds : MS :=
  (sSeq (sIf (mBool (eBin (vIn false) (eVar 2) (eC c_NUMBERS))) (sRet (eCall vInt (eCons (eVar 2) eNil))) sNext)
    (sSeq (sIf (mBool (eBin (vIn false) (eVar 2) (eVar 0))) (sRet (eBin vIx (eVar 1) (eBm isLst vIndex (eVar 0) (eCons (eVar 2) eNil)))) sNext)
    (sRet (eC (.int 0)))))
theorem ok_mark_holds {f : Addr} {fd : FuncData} (F : Fun K "mark_holds" "mark_holds" s_mark_holds f fd) (G_NUMBERS : GV K mg "NUMBERS" c_NUMBERS) (B : Dg.Bi mg) : FnOk P w K mg base (L2.CX P w) 1 f fd P_mark_holds (spC K mg P_mark_holds.length (fnOf N_mark_holds.length m_mark_holds)) :=
  fn_ok F sc_mark_holds fun cdv A outer s H E hr => (css_cons (cs_if (ct_cmp (op_in (Room.u65 hr)) (ab_in false) (ce_var 2 (pv 2)) (ce_glob G_NUMBERS (by rfl)) (by rfl)) (css_one (cs_ret (ce_cb (fun h => pe_callTy (call_int1.or call_int_str) (by rfl) B.b_int (by decide +kernel) h) an_int (cas_cons (ce_var 2 (pv 2)) cas_nil)))) css_nil)
    (css_cons (cs_if (ct_cmp (op_in (Room.u65 hr)) (ab_in false) (ce_var 2 (pv 2)) (ce_var 0 (pv 0)) (by rfl)) (css_one (cs_ret (ce_ixr (Room.u1 hr) (ce_var 1 (pv 1)) (ce_bm chk_lst am_index PySem.F.plainAttrs_list PySem.F.slot_list_index PySem.F.type_list_index mt_index (ce_var 0 (pv 0)) (cas_cons (ce_var 2 (pv 2)) cas_nil)) (fun _ _ => rfl)))) css_nil)
    (css_one (cs_ret ce_int))))
def S_mark_holds : FN := fnOf N_mark_holds.length m_mark_holds
abbrev s_is_same : Stmt := topS 56
abbrev N_is_same : List Str := ["names", "marks", "words"]
abbrev P_is_same : List Str := ["names", "marks", "words"]
theorem sc_is_same : FnScope N_is_same P_is_same (defScope s_is_same) := ⟨rfl, rfl, rfl, by decide +kernel, rfl, by decide +kernel, by decide +kernel⟩
def m_is_same : MS :=
  (sRet (eBin (vEq false) (eCall (arity P_mark_holds.length S_mark_holds) (eCons (eVar 0) (eCons (eVar 1) (eCons (eBin vIx (eVar 2) (eC (.int 1))) eNil)))) (eCall (arity P_mark_holds.length S_mark_holds) (eCons (eVar 0) (eCons (eVar 1) (eCons (eBin vIx (eVar 2) (eC (.int 3))) eNil))))))
theorem ok_is_same {f : Addr} {fd : FuncData} (F : Fun K "is_same" "is_same" s_is_same f fd) (C_mark_holds : Dg.Cal P w K mg base (L2.CX P w) 1 "mark_holds" P_mark_holds (spC K mg P_mark_holds.length S_mark_holds)) : FnOk P w K mg base (L2.CX P w) 2 f fd P_is_same (spC K mg P_is_same.length (fnOf N_is_same.length m_is_same)) :=
  fn_ok F sc_is_same fun cdv A outer s H E hr => (css_one (cs_ret (ce_cmp (op_eqD (Room.u64 hr)) ab_eq (ce_call C_mark_holds (takes_of rfl rfl rfl rfl) (hr.mono (by decide)) (by rfl) (cas_cons (ce_var 0 (pv 0)) (cas_cons (ce_var 1 (pv 1)) (cas_cons (ce_ixr (Room.u1 hr) (ce_var 2 (pv 2)) ce_int (fun _ _ => rfl)) cas_nil)))) (ce_call C_mark_holds (takes_of rfl rfl rfl rfl) (hr.mono (by decide)) (by rfl) (cas_cons (ce_var 0 (pv 0)) (cas_cons (ce_var 1 (pv 1)) (cas_cons (ce_ixr (Room.u1 hr) (ce_var 2 (pv 2)) ce_int (fun _ _ => rfl)) cas_nil)))) (nomark _))))
def S_is_same : FN := fnOf N_is_same.length m_is_same
abbrev s_move : Stmt := topS 48
abbrev N_move : List Str := ["layout", "many", "actor", "place", "flags", "line", "done", "marks", "words", "later"]
abbrev P_move : List Str := ["layout", "many", "actor", "place", "flags"]
theorem sc_move : FnScope N_move P_move (defScope s_move) := ⟨rfl, rfl, rfl, by decide +kernel, rfl, by decide +kernel, by decide +kernel⟩
def m_move : MS :=
  (sSeq (sAsg (.tup [(.name 5), (.name 6), (.name 7)]) (eVar 3))
    (sSeq (sAsg (.name 8) (eBin vIx (eFld cl_lines "lines" (eVar 0)) (eVar 5)))
    (sSeq (sIf (mBool (eBin (vIn false) (eBin vIx (eVar 8) (eC (.int 0))) (eC c_SWEEPS))) (sRet (eTup (eCons (eVar 5) (eCons (eCall (arity P_swept_cell.length S_swept_cell) (eCons (eBin vIx (eVar 8) (eC (.int 2))) (eCons (eVar 1) (eCons (eVar 6) eNil)))) (eCons (eCall (arity P_place_in_sweep.length S_place_in_sweep) (eCons (eVar 0) (eCons (eVar 1) (eCons (eVar 3) eNil)))) (eCons (eVar 4) eNil)))))) sNext)
    (sSeq (sIf (mAnd (mBool (eBin (vEq false) (eBin vIx (eVar 8) (eC (.int 0))) (eC (.str "wait")))) (mBool (eBin (vEq true) (eCall (arity P_flag_holds.length S_flag_holds) (eCons (eVar 0) (eCons (eVar 4) (eCons (eBin vIx (eVar 8) (eC (.int 1))) eNil)))) (eCall vInt (eCons (eBin vIx (eVar 8) (eC (.int 2))) eNil))))) (sRet (eTup (eCons (eC .non) (eCons (eC .non) (eCons (eVar 3) (eCons (eVar 4) eNil)))))) sNext)
    (sSeq (sIf (mBool (eBin (vEq false) (eBin vIx (eVar 8) (eC (.int 0))) (eC (.str "again")))) (sRet (eTup (eCons (eVar 5) (eCons (eC .non) (eCons (eCall (arity P_start.length S_start) (eCons (eVar 0) (eCons (eVar 2) eNil))) (eCons (eVar 4) eNil)))))) sNext)
    (sSeq (sAsg (.name 9) (eBin (vAdd false) (eVar 5) (eC (.int 1))))
    (sSeq (sIf (mAnd (mBool (eBin (vEq false) (eBin vIx (eVar 8) (eC (.int 0))) (eC (.str "if")))) (mNot (mTru (eCall (arity P_is_same.length S_is_same) (eCons (eBin vIx (eFld cl_marks "marks" (eVar 0)) (eVar 2)) (eCons (eVar 7) (eCons (eVar 8) eNil))))))) (sAsg (.name 9) (eBin vIx (eFld cl_jumps "jumps" (eVar 0)) (eVar 5))) sNext)
    (sSeq (sAsg (.name 7) (eCall (arity P_marks_behind.length S_marks_behind) (eCons (eVar 0) (eCons (eVar 2) (eCons (eVar 7) (eCons (eVar 4) (eCons (eVar 8) eNil)))))))
    (sRet (eTup (eCons (eVar 5) (eCons (eC .non) (eCons (eCall (arity P_place_at.length S_place_at) (eCons (eVar 0) (eCons (eVar 9) (eCons (eVar 7) eNil)))) (eCons (eCall (arity P_flags_behind.length S_flags_behind) (eCons (eVar 0) (eCons (eVar 4) (eCons (eVar 8) eNil)))) eNil))))))))))))))
theorem ok_move {f : Addr} {fd : FuncData} (F : Fun K "move" "move" s_move f fd) (FF_lines : FldOk K mg "lines" cl_lines) (G_SWEEPS : GV K mg "SWEEPS" c_SWEEPS) (C_place_in_sweep : Dg.Cal P w K mg base (L2.CX P w) 3 "place_in_sweep" P_place_in_sweep (spC K mg P_place_in_sweep.length S_place_in_sweep)) (C_swept_cell : Dg.Cal P w K mg base (L2.CX P w) 1 "swept_cell" P_swept_cell (spC K mg P_swept_cell.length S_swept_cell)) (C_flag_holds : Dg.Cal P w K mg base (L2.CX P w) 1 "flag_holds" P_flag_holds (spC K mg P_flag_holds.length S_flag_holds)) (B : Dg.Bi mg) (C_start : Dg.Cal P w K mg base (L2.CX P w) 1 "start" P_start (spC K mg P_start.length S_start)) (C_is_same : Dg.Cal P w K mg base (L2.CX P w) 2 "is_same" P_is_same (spC K mg P_is_same.length S_is_same)) (FF_marks : FldOk K mg "marks" cl_marks) (FF_jumps : FldOk K mg "jumps" cl_jumps) (C_marks_behind : Dg.Cal P w K mg base (L2.CX P w) 2 "marks_behind" P_marks_behind (spC K mg P_marks_behind.length S_marks_behind)) (C_flags_behind : Dg.Cal P w K mg base (L2.CX P w) 2 "flags_behind" P_flags_behind (spC K mg P_flags_behind.length S_flags_behind)) (C_place_at : Dg.Cal P w K mg base (L2.CX P w) 2 "place_at" P_place_at (spC K mg P_place_at.length S_place_at)) : FnOk P w K mg base (L2.CX P w) 4 f fd P_move (spC K mg P_move.length (fnOf N_move.length m_move)) :=
  fn_ok F sc_move fun cdv A outer s H E hr => (css_cons (cs_asg (t := (.tup [(.name 5), (.name 6), (.name 7)])) (ce_var 3 (pv 3)) (tg_tup rfl (tgs_cons (tg_name 5 sc_move.nd rfl (.inl rfl)) (tgs_cons (tg_name 6 sc_move.nd rfl (.inl rfl)) (tgs_cons (tg_name 7 sc_move.nd rfl (.inl rfl)) tgs_nil)))))
    (css_cons (cs_set 8 sc_move.nd rfl (.inl rfl) (ce_ixr (Room.u1 hr) (ce_fld FF_lines (ce_var 0 (pv 0)) rfl) (ce_var 5 (pv 5)) (fun _ _ => rfl)))
    (css_cons (cs_if (ct_cmp (op_in (Room.u65 hr)) (ab_in false) (ce_ixr (Room.u1 hr) (ce_var 8 (pv 8)) ce_int (fun _ _ => rfl)) (ce_glob G_SWEEPS (by rfl)) (by rfl)) (css_one (cs_ret (ce_tup (cas_cons (ce_var 5 (pv 5)) (cas_cons (ce_call C_swept_cell (takes_of rfl rfl rfl rfl) (hr.mono (by decide)) (by rfl) (cas_cons (ce_ixr (Room.u1 hr) (ce_var 8 (pv 8)) ce_int (fun _ _ => rfl)) (cas_cons (ce_var 1 (pv 1)) (cas_cons (ce_var 6 (pv 6)) cas_nil)))) (cas_cons (ce_call C_place_in_sweep (takes_of rfl rfl rfl rfl) (hr.mono (by decide)) (by rfl) (cas_cons (ce_var 0 (pv 0)) (cas_cons (ce_var 1 (pv 1)) (cas_cons (ce_var 3 (pv 3)) cas_nil)))) (cas_cons (ce_var 4 (pv 4)) cas_nil))))))) css_nil)
    (css_cons (cs_if (CW.pt (cw_and (ct_cmp (op_eqD (Room.u64 hr)) ab_eq (ce_ixr (Room.u1 hr) (ce_var 8 (pv 8)) ce_int (fun _ _ => rfl)) ce_str (nomark _)) (cw_and1 (ct_cmp (op_neD (Room.u64 hr)) ab_ne (ce_call C_flag_holds (takes_of rfl rfl rfl rfl) (hr.mono (by decide)) (by rfl) (cas_cons (ce_var 0 (pv 0)) (cas_cons (ce_var 4 (pv 4)) (cas_cons (ce_ixr (Room.u1 hr) (ce_var 8 (pv 8)) ce_int (fun _ _ => rfl)) cas_nil)))) (ce_cb (fun h => pe_callTy (call_int1.or call_int_str) (by rfl) B.b_int (by decide +kernel) h) an_int (cas_cons (ce_ixr (Room.u1 hr) (ce_var 8 (pv 8)) ce_int (fun _ _ => rfl)) cas_nil)) (nomark _))))) (css_one (cs_ret (ce_tup (cas_cons ce_non (cas_cons ce_non (cas_cons (ce_var 3 (pv 3)) (cas_cons (ce_var 4 (pv 4)) cas_nil))))))) css_nil)
    (css_cons (cs_if (ct_cmp (op_eqD (Room.u64 hr)) ab_eq (ce_ixr (Room.u1 hr) (ce_var 8 (pv 8)) ce_int (fun _ _ => rfl)) ce_str (nomark _)) (css_one (cs_ret (ce_tup (cas_cons (ce_var 5 (pv 5)) (cas_cons ce_non (cas_cons (ce_call C_start (takes_of rfl rfl rfl rfl) (hr.mono (by decide)) (by rfl) (cas_cons (ce_var 0 (pv 0)) (cas_cons (ce_var 2 (pv 2)) cas_nil))) (cas_cons (ce_var 4 (pv 4)) cas_nil))))))) css_nil)
    (css_cons (cs_set 9 sc_move.nd rfl (.inl rfl) (ce_add false (ce_var 5 (pv 5)) ce_int))
    (css_cons (cs_if (CW.pt (cw_and (ct_cmp (op_eqD (Room.u64 hr)) ab_eq (ce_ixr (Room.u1 hr) (ce_var 8 (pv 8)) ce_int (fun _ _ => rfl)) ce_str (nomark _)) (cw_and1 (ct_not (ct_tru (ce_call C_is_same (takes_of rfl rfl rfl rfl) (hr.mono (by decide)) (by rfl) (cas_cons (ce_ixr (Room.u1 hr) (ce_fld FF_marks (ce_var 0 (pv 0)) rfl) (ce_var 2 (pv 2)) (fun _ _ => rfl)) (cas_cons (ce_var 7 (pv 7)) (cas_cons (ce_var 8 (pv 8)) cas_nil))))))))) (css_one (cs_set 9 sc_move.nd rfl (.inl rfl) (ce_ixr (Room.u1 hr) (ce_fld FF_jumps (ce_var 0 (pv 0)) rfl) (ce_var 5 (pv 5)) (fun _ _ => rfl)))) css_nil)
    (css_cons (cs_set 7 sc_move.nd rfl (.inl rfl) (ce_call C_marks_behind (takes_of rfl rfl rfl rfl) (hr.mono (by decide)) (by rfl) (cas_cons (ce_var 0 (pv 0)) (cas_cons (ce_var 2 (pv 2)) (cas_cons (ce_var 7 (pv 7)) (cas_cons (ce_var 4 (pv 4)) (cas_cons (ce_var 8 (pv 8)) cas_nil)))))))
    (css_one (cs_ret (ce_tup (cas_cons (ce_var 5 (pv 5)) (cas_cons ce_non (cas_cons (ce_call C_place_at (takes_of rfl rfl rfl rfl) (hr.mono (by decide)) (by rfl) (cas_cons (ce_var 0 (pv 0)) (cas_cons (ce_var 9 (pv 9)) (cas_cons (ce_var 7 (pv 7)) cas_nil)))) (cas_cons (ce_call C_flags_behind (takes_of rfl rfl rfl rfl) (hr.mono (by decide)) (by rfl) (cas_cons (ce_var 0 (pv 0)) (cas_cons (ce_var 4 (pv 4)) (cas_cons (ce_var 8 (pv 8)) cas_nil)))) cas_nil)))))))))))))))
def S_move : FN := fnOf N_move.length m_move
abbrev s_checked_actors : Stmt := topS 60
abbrev N_checked_actors : List Str := ["layout", "actors", "actor"]
abbrev P_checked_actors : List Str := ["layout", "actors"]
theorem sc_checked_actors : FnScope N_checked_actors P_checked_actors (defScope s_checked_actors) := ⟨rfl, rfl, rfl, by decide +kernel, rfl, by decide +kernel, by decide +kernel⟩
def m_checked_actors : MS :=
  (sSeq (sForS (.name 2) (eVar 1) (sIf (mBool (eBin (vIn true) (eVar 2) (eFld cl_first "first" (eVar 0)))) (sRaise1 "NoActor" "name" (eVar 2)) sNext))
    (sRet (eCall (vList false) (eCons (eVar 1) eNil))))
theorem ok_checked_actors {f : Addr} {fd : FuncData} {cNoActor : Addr} (F : Fun K "checked_actors" "checked_actors" s_checked_actors f fd) (FF_first : FldOk K mg "first" cl_first) (O_NoActor : Dg.Ef P w K mg base "NoActor" "name" cNoActor) (B : Dg.Bi mg) : FnOk P w K mg base (L2.CX P w) 3 f fd P_checked_actors (spC K mg P_checked_actors.length (fnOf N_checked_actors.length m_checked_actors)) :=
  fn_ok F sc_checked_actors fun cdv A outer s H E hr => (css_cons (cs_forS (t := (.name 2)) (passes_of rfl) rfl (ce_var 1 (pv 1)) (tg_name 2 sc_checked_actors.nd rfl (.inl rfl)) (css_one (cs_if (ct_cmp (op_notin (Room.u65 hr)) (ab_in true) (ce_var 2 (pv 2)) (ce_fld FF_first (ce_var 0 (pv 0)) rfl) (by rfl)) (css_one (cs_raise1 O_NoActor rfl (takes_of rfl rfl rfl rfl) (hr.mono (by decide)) (by rfl) (ce_var 2 (pv 2)))) css_nil)))
    (css_one (cs_ret (ce_cb (fun h => pe_callTy (call_list_of.or (call_listD rfl)) (by rfl) B.b_list (by decide +kernel) h) (an_list false) (cas_cons (ce_var 1 (pv 1)) cas_nil)))))
def S_checked_actors : FN := fnOf N_checked_actors.length m_checked_actors
abbrev s_Run___init : Stmt := inClass (topS 61) 0
abbrev N_Run___init : List Str := ["self", "layout", "rows", "actor", "name", "reader"]
abbrev P_Run___init : List Str := ["self", "layout", "rows"]
theorem sc_Run___init : FnScope N_Run___init P_Run___init (defScope s_Run___init) := ⟨rfl, rfl, rfl, by decide +kernel, rfl, by decide +kernel, by decide +kernel⟩
def m_Run___init : MS :=
  (sSeq (sFldA cl_layout "layout" (eVar 0) (eVar 1))
    (sSeq (sFldA cl_rows "rows" (eVar 0) (eVar 2))
    (sSeq (sFldA cl_flags "flags" (eVar 0) (eBin (vMul false) (eTup (eCons (eC (.int 0)) eNil)) (eCall vLen (eCons (eFld cl_flags "flags" (eVar 1)) eNil))))
    (sSeq (sFldA cl_places "places" (eVar 0) (eDcD true 0 1 [("first", cl_first)] (.name 3) [3] mYes (eVar 3) (eC .non)))
    (sSeq (sFldA cl_cells "cells" (eVar 0) (eDcS true 1 [("registers", cl_registers)] (.name 4) [4] mYes (eVar 4) (eBin vIx (eVar 2) (eC (.int 0)))))
    (sSeq (sFldA cl_begun "begun" (eVar 0) (eC (.int 0)))
    (sSeq (sFldA cl_ended "ended" (eVar 0) (eC (.int 0)))
    (sSeq (sFldA cl_olds "olds" (eVar 0) (eDcS true 1 [("readers", cl_readers)] (.name 5) [5] mYes (eVar 5) (eC .non)))
    (sSeq (sFldA cl_found "found" (eVar 0) (eDcS true 1 [("readings", cl_readings)] (.name 4) [4] mYes (eVar 4) (eC .non)))
    (sFldA cl_call "call" (eVar 0) (eC .non)))))))))))
theorem ok_Run___init {f : Addr} {fd : FuncData} (F : Fun K "__init__" "Run.__init__" s_Run___init f fd) (FF_layout : FldOk K mg "layout" cl_layout) (FF_rows : FldOk K mg "rows" cl_rows) (FF_flags : FldOk K mg "flags" cl_flags) (B : Dg.Bi mg) (FF_first : FldOk K mg "first" cl_first) (FF_places : FldOk K mg "places" cl_places) (FF_registers : FldOk K mg "registers" cl_registers) (FF_cells : FldOk K mg "cells" cl_cells) (FF_begun : FldOk K mg "begun" cl_begun) (FF_ended : FldOk K mg "ended" cl_ended) (FF_readers : FldOk K mg "readers" cl_readers) (FF_olds : FldOk K mg "olds" cl_olds) (FF_readings : FldOk K mg "readings" cl_readings) (FF_found : FldOk K mg "found" cl_found) (FF_call : FldOk K mg "call" cl_call) : FnOk P w K mg base (L2.CX P w) 1 f fd P_Run___init (spC K mg P_Run___init.length (fnOf N_Run___init.length m_Run___init)) :=
  fn_ok F sc_Run___init fun cdv A outer s H E hr => (css_cons (cs_fld FF_layout (ce_var 0 (pv 0)) (ce_var 1 (pv 1)) rfl)
    (css_cons (cs_fld FF_rows (ce_var 0 (pv 0)) (ce_var 2 (pv 2)) rfl)
    (css_cons (cs_fld FF_flags (ce_var 0 (pv 0)) (ce_mul false (ce_tup (cas_cons ce_int cas_nil)) (ce_cb (fun h => pe_callB call_len (by rfl) B.b_len (by decide +kernel) h) an_len (cas_cons (ce_fld FF_flags (ce_var 1 (pv 1)) rfl) cas_nil))) rfl)
    (css_cons (cs_fld FF_places (ce_var 0 (pv 0)) (ce_dcD (t := (.name 3)) (own := [("actor", 3)]) true 0 1 [("first", cl_first)] (by rfl) sc_Run___init.nd (pi_keys (pe_fld (pv 1) rfl)) (path_cons FF_first path_nil) (blkOk_by (own := [("actor", 3)]) (N := N_Run___init) (sc := defScope s_Run___init) (by decide +kernel)) (by decide) (fun _ _ _ _ _ => (tg_name 3 sc_Run___init.nd rfl (by first | exact .inl rfl | exact .inr rfl))) (fun _ _ _ _ _ => cts_nil) (fun _ _ _ _ _ => (ce_var 3 (pv 3))) (fun _ _ _ _ _ => ce_non)) rfl)
    (css_cons (cs_fld FF_cells (ce_var 0 (pv 0)) (ce_dcS (t := (.name 4)) (own := [("name", 4)]) true 1 [("registers", cl_registers)] (by rfl) sc_Run___init.nd (pe_fld (pv 1) rfl) (path_cons FF_registers path_nil) (blkOk_by (own := [("name", 4)]) (N := N_Run___init) (sc := defScope s_Run___init) (by decide +kernel)) (by decide) (fun _ _ _ _ _ => (tg_name 4 sc_Run___init.nd rfl (by first | exact .inl rfl | exact .inr rfl))) (fun _ _ _ _ _ => cts_nil) (fun _ _ _ _ _ => (ce_var 4 (pv 4))) (fun _ _ _ _ _ => (ce_ixr (Room.u1 hr) (ce_var 2 (pv 2)) ce_int (fun _ _ => rfl)))) rfl)
    (css_cons (cs_fld FF_begun (ce_var 0 (pv 0)) ce_int rfl)
    (css_cons (cs_fld FF_ended (ce_var 0 (pv 0)) ce_int rfl)
    (css_cons (cs_fld FF_olds (ce_var 0 (pv 0)) (ce_dcS (t := (.name 5)) (own := [("reader", 5)]) true 1 [("readers", cl_readers)] (by rfl) sc_Run___init.nd (pe_fld (pv 1) rfl) (path_cons FF_readers path_nil) (blkOk_by (own := [("reader", 5)]) (N := N_Run___init) (sc := defScope s_Run___init) (by decide +kernel)) (by decide) (fun _ _ _ _ _ => (tg_name 5 sc_Run___init.nd rfl (by first | exact .inl rfl | exact .inr rfl))) (fun _ _ _ _ _ => cts_nil) (fun _ _ _ _ _ => (ce_var 5 (pv 5))) (fun _ _ _ _ _ => ce_non)) rfl)
    (css_cons (cs_fld FF_found (ce_var 0 (pv 0)) (ce_dcS (t := (.name 4)) (own := [("name", 4)]) true 1 [("readings", cl_readings)] (by rfl) sc_Run___init.nd (pe_fld (pv 1) rfl) (path_cons FF_readings path_nil) (blkOk_by (own := [("name", 4)]) (N := N_Run___init) (sc := defScope s_Run___init) (by decide +kernel)) (by decide) (fun _ _ _ _ _ => (tg_name 4 sc_Run___init.nd rfl (by first | exact .inl rfl | exact .inr rfl))) (fun _ _ _ _ _ => cts_nil) (fun _ _ _ _ _ => (ce_var 4 (pv 4))) (fun _ _ _ _ _ => ce_non)) rfl)
    (css_one (cs_fld FF_call (ce_var 0 (pv 0)) ce_non rfl)))))))))))
def S_Run___init : FN := fnOf N_Run___init.length m_Run___init
abbrev s_Run_begin_round : Stmt := inClass (topS 61) 4
abbrev N_Run_begin_round : List Str := ["self", "version"]
abbrev P_Run_begin_round : List Str := ["self", "version"]
theorem sc_Run_begin_round : FnScope N_Run_begin_round P_Run_begin_round (defScope s_Run_begin_round) := ⟨rfl, rfl, rfl, by decide +kernel, rfl, by decide +kernel, by decide +kernel⟩
def m_Run_begin_round : MS :=
  (sSeq (sFldA cl_begun "begun" (eVar 0) (eVar 1))
    (sSub (eFld cl_places "places" (eVar 0)) (eC c_WRITER) (eCall (arity P_start.length S_start) (eCons (eFld cl_layout "layout" (eVar 0)) (eCons (eC c_WRITER) eNil)))))
theorem ok_Run_begin_round {f : Addr} {fd : FuncData} (F : Fun K "begin_round" "Run.begin_round" s_Run_begin_round f fd) (FF_begun : FldOk K mg "begun" cl_begun) (FF_places : FldOk K mg "places" cl_places) (G_WRITER : GV K mg "WRITER" c_WRITER) (C_start : Dg.Cal P w K mg base (L2.CX P w) 1 "start" P_start (spC K mg P_start.length S_start)) (FF_layout : FldOk K mg "layout" cl_layout) : FnOk P w K mg base (L2.CX P w) 2 f fd P_Run_begin_round (spC K mg P_Run_begin_round.length (fnOf N_Run_begin_round.length m_Run_begin_round)) :=
  fn_ok F sc_Run_begin_round fun cdv A outer s H E hr => (css_cons (cs_fld FF_begun (ce_var 0 (pv 0)) (ce_var 1 (pv 1)) rfl)
    (css_one (cs_sub (Room.u1 hr) (ce_fld FF_places (ce_var 0 (pv 0)) rfl) (ce_glob G_WRITER (by rfl)) (ce_call C_start (takes_of rfl rfl rfl rfl) (hr.mono (by decide)) (by rfl) (cas_cons (ce_fld FF_layout (ce_var 0 (pv 0)) rfl) (cas_cons (ce_glob G_WRITER (by rfl)) cas_nil))))))
def S_Run_begin_round : FN := fnOf N_Run_begin_round.length m_Run_begin_round
abbrev s_Run_begin : Stmt := inClass (topS 61) 3
abbrev N_Run_begin : List Str := ["self", "actor"]
abbrev P_Run_begin : List Str := ["self", "actor"]
theorem sc_Run_begin : FnScope N_Run_begin P_Run_begin (defScope s_Run_begin) := ⟨rfl, rfl, rfl, by decide +kernel, rfl, by decide +kernel, by decide +kernel⟩
def m_Run_begin : MS :=
  (sSeq (sIf (mBool (eBin (vEq true) (eVar 1) (eC c_WRITER))) (sSeq (sSub (eFld cl_olds "olds" (eVar 0)) (eVar 1) (eFld cl_ended "ended" (eVar 0)))
        (sSub (eFld cl_places "places" (eVar 0)) (eVar 1) (eCall (arity P_start.length S_start) (eCons (eFld cl_layout "layout" (eVar 0)) (eCons (eVar 1) eNil))))) (sIf (mBool (eBin vLtT (eBin (vAdd false) (eFld cl_begun "begun" (eVar 0)) (eC (.int 1))) (eCall vLen (eCons (eFld cl_rows "rows" (eVar 0)) eNil)))) (sExpr (eMeth "Run" "begin_round" (arity P_Run_begin_round.length S_Run_begin_round) (eVar 0) (eCons (eBin (vAdd false) (eFld cl_begun "begun" (eVar 0)) (eC (.int 1))) eNil))) (sRet (eTup (eCons (eVar 1) (eCons (eC .non) (eCons (eC .non) eNil)))))))
    (sRet (eTup (eCons (eVar 1) (eCons (eC (.int 0)) (eCons (eC .non) eNil))))))
theorem ok_Run_begin {f : Addr} {fd : FuncData} (F : Fun K "begin" "Run.begin" s_Run_begin f fd) (G_WRITER : GV K mg "WRITER" c_WRITER) (FF_olds : FldOk K mg "olds" cl_olds) (FF_ended : FldOk K mg "ended" cl_ended) (FF_places : FldOk K mg "places" cl_places) (C_start : Dg.Cal P w K mg base (L2.CX P w) 1 "start" P_start (spC K mg P_start.length S_start)) (FF_layout : FldOk K mg "layout" cl_layout) (FF_begun : FldOk K mg "begun" cl_begun) (FF_rows : FldOk K mg "rows" cl_rows) (B : Dg.Bi mg) (M_Run_begin_round : MetC P w K mg base 2 "Run" "begin_round" P_Run_begin_round S_Run_begin_round) : FnOk P w K mg base (L2.CX P w) 3 f fd P_Run_begin (spC K mg P_Run_begin.length (fnOf N_Run_begin.length m_Run_begin)) :=
  fn_ok F sc_Run_begin fun cdv A outer s H E hr => (css_cons (cs_if (ct_cmp (op_neD (Room.u64 hr)) ab_ne (ce_var 1 (pv 1)) (ce_glob G_WRITER (by rfl)) (nomark _)) (css_cons (cs_sub (Room.u1 hr) (ce_fld FF_olds (ce_var 0 (pv 0)) rfl) (ce_var 1 (pv 1)) (ce_fld FF_ended (ce_var 0 (pv 0)) rfl))
        (css_one (cs_sub (Room.u1 hr) (ce_fld FF_places (ce_var 0 (pv 0)) rfl) (ce_var 1 (pv 1)) (ce_call C_start (takes_of rfl rfl rfl rfl) (hr.mono (by decide)) (by rfl) (cas_cons (ce_fld FF_layout (ce_var 0 (pv 0)) rfl) (cas_cons (ce_var 1 (pv 1)) cas_nil)))))) (css_one (cs_if (ct_cmp (Cl.OpR.or op_lt (op_ltT (Nat.lt_of_le_of_lt (Nat.le_succ _) (Room.u1 hr)))) ab_ltT (ce_add false (ce_fld FF_begun (ce_var 0 (pv 0)) rfl) ce_int) (ce_cb (fun h => pe_callB call_len (by rfl) B.b_len (by decide +kernel) h) an_len (cas_cons (ce_fld FF_rows (ce_var 0 (pv 0)) rfl) cas_nil)) (nomark _)) (css_one (cs_expr (ce_meth M_Run_begin_round (takes_of rfl rfl rfl rfl) (hr.mono (by decide)) (ce_var 0 (pv 0)) (cas_cons (ce_add false (ce_fld FF_begun (ce_var 0 (pv 0)) rfl) ce_int) cas_nil)))) (css_one (cs_ret (ce_tup (cas_cons (ce_var 1 (pv 1)) (cas_cons ce_non (cas_cons ce_non cas_nil)))))))))
    (css_one (cs_ret (ce_tup (cas_cons (ce_var 1 (pv 1)) (cas_cons ce_int (cas_cons ce_non cas_nil)))))))
def S_Run_begin : FN := fnOf N_Run_begin.length m_Run_begin
abbrev s_Run_forget : Stmt := inClass (topS 61) 6
abbrev N_Run_forget : List Str := ["self", "reader", "name", "owner"]
abbrev P_Run_forget : List Str := ["self", "reader"]
theorem sc_Run_forget : FnScope N_Run_forget P_Run_forget (defScope s_Run_forget) := ⟨rfl, rfl, rfl, by decide +kernel, rfl, by decide +kernel, by decide +kernel⟩
def m_Run_forget : MS :=
  (sForD 2 0 [("owners", cl_owners), ("layout", cl_layout)] (.tup [(.name 2), (.name 3)]) (sIf (mBool (eBin (vEq false) (eVar 3) (eVar 1))) (sSub (eFld cl_found "found" (eVar 0)) (eVar 2) (eC .non)) sNext))
theorem ok_Run_forget {f : Addr} {fd : FuncData} (F : Fun K "forget" "Run.forget" s_Run_forget f fd) (FF_layout : FldOk K mg "layout" cl_layout) (FF_owners : FldOk K mg "owners" cl_owners) (FF_found : FldOk K mg "found" cl_found) : FnOk P w K mg base (L2.CX P w) 1 f fd P_Run_forget (spC K mg P_Run_forget.length (fnOf N_Run_forget.length m_Run_forget)) :=
  fn_ok F sc_Run_forget fun cdv A outer s H E hr => (css_one (cs_forD (t := (.tup [(.name 2), (.name 3)])) 2 0 [("owners", cl_owners), ("layout", cl_layout)] (passes_of rfl) rfl (pi_items (pe_fld (pe_fld (pv 0) rfl) rfl)) (path_cons FF_owners (path_cons FF_layout path_nil)) (tg_tup rfl (tgs_cons (tg_name 2 sc_Run_forget.nd rfl (.inl rfl)) (tgs_cons (tg_name 3 sc_Run_forget.nd rfl (.inl rfl)) tgs_nil))) (css_one (cs_if (ct_cmp (op_eqD (Room.u64 hr)) ab_eq (ce_var 3 (pv 3)) (ce_var 1 (pv 1)) (nomark _)) (css_one (cs_sub (Room.u1 hr) (ce_fld FF_found (ce_var 0 (pv 0)) rfl) (ce_var 2 (pv 2)) ce_non)) css_nil))))
def S_Run_forget : FN := fnOf N_Run_forget.length m_Run_forget
abbrev s_Run_keep : Stmt := inClass (topS 61) 5
abbrev N_Run_keep : List Str := ["self", "actor", "words", "cell", "row"]
abbrev P_Run_keep : List Str := ["self", "actor", "words", "cell"]
theorem sc_Run_keep : FnScope N_Run_keep P_Run_keep (defScope s_Run_keep) := ⟨rfl, rfl, rfl, by decide +kernel, rfl, by decide +kernel, by decide +kernel⟩
def m_Run_keep : MS :=
  (sIf (mBool (eBin (vEq false) (eBin vIx (eVar 2) (eC (.int 0))) (eC (.str "write")))) (sSub (eFld cl_cells "cells" (eVar 0)) (eBin vIx (eVar 2) (eC (.int 1))) (eCall (arity P_put.length S_put) (eCons (eBin vIx (eFld cl_cells "cells" (eVar 0)) (eBin vIx (eVar 2) (eC (.int 1)))) (eCons (eVar 3) (eCons (eBin vIx (eBin vIx (eFld cl_rows "rows" (eVar 0)) (eFld cl_begun "begun" (eVar 0))) (eVar 3)) eNil))))) (sIf (mBool (eBin (vEq false) (eBin vIx (eVar 2) (eC (.int 0))) (eC (.str "read")))) (sSeq (sAsg (.name 4) (eBin vIx (eFld cl_found "found" (eVar 0)) (eBin vIx (eVar 2) (eC (.int 4)))))
            (sSeq (sIf (mBool (eBin (vIs false) (eVar 4) (eC .non))) (sAsg (.name 4) (eBin vIx (eFld cl_rows "rows" (eVar 0)) (eC (.int 0)))) sNext)
            (sSub (eFld cl_found "found" (eVar 0)) (eBin vIx (eVar 2) (eC (.int 4))) (eCall (arity P_put.length S_put) (eCons (eVar 4) (eCons (eVar 3) (eCons (eBin vIx (eBin vIx (eFld cl_cells "cells" (eVar 0)) (eBin vIx (eVar 2) (eC (.int 1)))) (eVar 3)) eNil))))))) (sIf (mBool (eBin (vEq false) (eBin vIx (eVar 2) (eC (.int 0))) (eC (.str "again")))) (sExpr (eMeth "Run" "forget" (arity P_Run_forget.length S_Run_forget) (eVar 0) (eCons (eVar 1) eNil))) sNext)))
theorem ok_Run_keep {f : Addr} {fd : FuncData} (F : Fun K "keep" "Run.keep" s_Run_keep f fd) (FF_cells : FldOk K mg "cells" cl_cells) (C_put : Dg.Cal P w K mg base (L2.CX P w) 1 "put" P_put (spC K mg P_put.length S_put)) (FF_rows : FldOk K mg "rows" cl_rows) (FF_begun : FldOk K mg "begun" cl_begun) (FF_found : FldOk K mg "found" cl_found) (M_Run_forget : MetC P w K mg base 1 "Run" "forget" P_Run_forget S_Run_forget) : FnOk P w K mg base (L2.CX P w) 2 f fd P_Run_keep (spC K mg P_Run_keep.length (fnOf N_Run_keep.length m_Run_keep)) :=
  fn_ok F sc_Run_keep fun cdv A outer s H E hr => (css_one (cs_if (ct_cmp (op_eqD (Room.u64 hr)) ab_eq (ce_ixr (Room.u1 hr) (ce_var 2 (pv 2)) ce_int (fun _ _ => rfl)) ce_str (nomark _)) (css_one (cs_sub (Room.u1 hr) (ce_fld FF_cells (ce_var 0 (pv 0)) rfl) (ce_ixr (Room.u1 hr) (ce_var 2 (pv 2)) ce_int (fun _ _ => rfl)) (ce_call C_put (takes_of rfl rfl rfl rfl) (hr.mono (by decide)) (by rfl) (cas_cons (ce_ixr (Room.u1 hr) (ce_fld FF_cells (ce_var 0 (pv 0)) rfl) (ce_ixr (Room.u1 hr) (ce_var 2 (pv 2)) ce_int (fun _ _ => rfl)) (fun _ _ => rfl)) (cas_cons (ce_var 3 (pv 3)) (cas_cons (ce_ixr (Room.u1 hr) (ce_ixr (Room.u1 hr) (ce_fld FF_rows (ce_var 0 (pv 0)) rfl) (ce_fld FF_begun (ce_var 0 (pv 0)) rfl) (fun _ _ => rfl)) (ce_var 3 (pv 3)) (fun _ _ => rfl)) cas_nil)))))) (css_one (cs_if (ct_cmp (op_eqD (Room.u64 hr)) ab_eq (ce_ixr (Room.u1 hr) (ce_var 2 (pv 2)) ce_int (fun _ _ => rfl)) ce_str (nomark _)) (css_cons (cs_set 4 sc_Run_keep.nd rfl (.inl rfl) (ce_ixr (Room.u1 hr) (ce_fld FF_found (ce_var 0 (pv 0)) rfl) (ce_ixr (Room.u1 hr) (ce_var 2 (pv 2)) ce_int (fun _ _ => rfl)) (fun _ _ => rfl)))
            (css_cons (cs_if (ct_cmp op_isN ab_is (ce_var 4 (pv 4)) ce_non (nomark _)) (css_one (cs_set 4 sc_Run_keep.nd rfl (.inl rfl) (ce_ixr (Room.u1 hr) (ce_fld FF_rows (ce_var 0 (pv 0)) rfl) ce_int (fun _ _ => rfl)))) css_nil)
            (css_one (cs_sub (Room.u1 hr) (ce_fld FF_found (ce_var 0 (pv 0)) rfl) (ce_ixr (Room.u1 hr) (ce_var 2 (pv 2)) ce_int (fun _ _ => rfl)) (ce_call C_put (takes_of rfl rfl rfl rfl) (hr.mono (by decide)) (by rfl) (cas_cons (ce_var 4 (pv 4)) (cas_cons (ce_var 3 (pv 3)) (cas_cons (ce_ixr (Room.u1 hr) (ce_ixr (Room.u1 hr) (ce_fld FF_cells (ce_var 0 (pv 0)) rfl) (ce_ixr (Room.u1 hr) (ce_var 2 (pv 2)) ce_int (fun _ _ => rfl)) (fun _ _ => rfl)) (ce_var 3 (pv 3)) (fun _ _ => rfl)) cas_nil)))))))) (css_one (cs_if (ct_cmp (op_eqD (Room.u64 hr)) ab_eq (ce_ixr (Room.u1 hr) (ce_var 2 (pv 2)) ce_int (fun _ _ => rfl)) ce_str (nomark _)) (css_one (cs_expr (ce_meth M_Run_forget (takes_of rfl rfl rfl rfl) (hr.mono (by decide)) (ce_var 0 (pv 0)) (cas_cons (ce_var 1 (pv 1)) cas_nil)))) css_nil))))))
def S_Run_keep : FN := fnOf N_Run_keep.length m_Run_keep
abbrev s_Run_finish : Stmt := inClass (topS 61) 7
abbrev N_Run_finish : List Str := ["self", "actor", "owners", "readings", "name", "row"]
abbrev P_Run_finish : List Str := ["self", "actor"]
theorem sc_Run_finish : FnScope N_Run_finish P_Run_finish (defScope s_Run_finish) := ⟨rfl, rfl, rfl, by decide +kernel, rfl, by decide +kernel, by decide +kernel⟩
def m_Run_finish : MS :=
  (sSeq (sIf (mBool (eBin (vEq false) (eVar 1) (eC c_WRITER))) (sSeq (sFldA cl_ended "ended" (eVar 0) (eFld cl_begun "begun" (eVar 0)))
        sRetN) sNext)
    (sSeq (sAsg (.name 2) (eFld cl_owners "owners" (eFld cl_layout "layout" (eVar 0))))
    (sSeq (sAsg (.name 3) (eDcD false 2 0 [("found", cl_found)] (.tup [(.name 4), (.name 5)]) [4, 5] (mAnd (mBool (eBin (vIs true) (eVar 5) (eC .non))) (mBool (eBin (vEq false) (eBin vIx (eVar 2) (eVar 4)) (eVar 1)))) (eVar 4) (eVar 5)))
    (sSeq (sFldA cl_call "call" (eVar 0) (eTup (eCons (eVar 1) (eCons (eBin vIx (eFld cl_olds "olds" (eVar 0)) (eVar 1)) (eCons (eFld cl_begun "begun" (eVar 0)) (eCons (eVar 3) eNil))))))
    (sSeq (sExpr (eMeth "Run" "forget" (arity P_Run_forget.length S_Run_forget) (eVar 0) (eCons (eVar 1) eNil)))
    (sSub (eFld cl_olds "olds" (eVar 0)) (eVar 1) (eC .non)))))))
theorem ok_Run_finish {f : Addr} {fd : FuncData} (F : Fun K "finish" "Run.finish" s_Run_finish f fd) (G_WRITER : GV K mg "WRITER" c_WRITER) (FF_begun : FldOk K mg "begun" cl_begun) (FF_ended : FldOk K mg "ended" cl_ended) (FF_layout : FldOk K mg "layout" cl_layout) (FF_owners : FldOk K mg "owners" cl_owners) (FF_found : FldOk K mg "found" cl_found) (FF_olds : FldOk K mg "olds" cl_olds) (FF_call : FldOk K mg "call" cl_call) (M_Run_forget : MetC P w K mg base 1 "Run" "forget" P_Run_forget S_Run_forget) : FnOk P w K mg base (L2.CX P w) 2 f fd P_Run_finish (spC K mg P_Run_finish.length (fnOf N_Run_finish.length m_Run_finish)) :=
  fn_ok F sc_Run_finish fun cdv A outer s H E hr => (css_cons (cs_if (ct_cmp (op_eqD (Room.u64 hr)) ab_eq (ce_var 1 (pv 1)) (ce_glob G_WRITER (by rfl)) (nomark _)) (css_cons (cs_fld FF_ended (ce_var 0 (pv 0)) (ce_fld FF_begun (ce_var 0 (pv 0)) rfl) rfl)
        (css_one cs_retN)) css_nil)
    (css_cons (cs_set 2 sc_Run_finish.nd rfl (.inr rfl) (ce_fld FF_owners (ce_fld FF_layout (ce_var 0 (pv 0)) rfl) rfl))
    (css_cons (cs_setDcD (t := (.tup [(.name 4), (.name 5)])) (own := [("name", 4), ("row", 5)]) (j := 3) false 2 0 [("found", cl_found)] (by rfl) sc_Run_finish.nd (pi_items (pe_fld (pv 0) rfl)) (path_cons FF_found path_nil) (blkOk_by (own := [("name", 4), ("row", 5)]) (N := N_Run_finish) (sc := defScope s_Run_finish) (by decide +kernel)) (by decide) (fun _ _ _ _ _ => (tg_tup rfl (tgs_cons (tg_name 4 sc_Run_finish.nd rfl (by first | exact .inl rfl | exact .inr rfl)) (tgs_cons (tg_name 5 sc_Run_finish.nd rfl (by first | exact .inl rfl | exact .inr rfl)) tgs_nil)))) (fun _ _ _ _ _ => (cts_one (CW.pt (cw_and (ct_cmp op_notN ab_isnt (ce_var 5 (pv 5)) ce_non (nomark _)) (cw_and1 (ct_cmp (op_eqD (Room.u64 hr)) ab_eq (ce_ixr (Room.u1 hr) (ce_var 2 (pv 2)) (ce_var 4 (pv 4)) (fun _ _ => rfl)) (ce_var 1 (pv 1)) (nomark _))))))) (fun _ _ _ _ _ => (ce_var 4 (pv 4))) (fun _ _ _ _ _ => (ce_var 5 (pv 5))) rfl rfl (sw_trueD rfl rfl rfl (by decide +kernel)))
    (css_cons (cs_fld FF_call (ce_var 0 (pv 0)) (ce_tup (cas_cons (ce_var 1 (pv 1)) (cas_cons (ce_ixr (Room.u1 hr) (ce_fld FF_olds (ce_var 0 (pv 0)) rfl) (ce_var 1 (pv 1)) (fun _ _ => rfl)) (cas_cons (ce_fld FF_begun (ce_var 0 (pv 0)) rfl) (cas_cons (ce_var 3 (pv 3)) cas_nil))))) rfl)
    (css_cons (cs_expr (ce_meth M_Run_forget (takes_of rfl rfl rfl rfl) (hr.mono (by decide)) (ce_var 0 (pv 0)) (cas_cons (ce_var 1 (pv 1)) cas_nil)))
    (css_one (cs_sub (Room.u1 hr) (ce_fld FF_olds (ce_var 0 (pv 0)) rfl) (ce_var 1 (pv 1)) ce_non)))))))
def S_Run_finish : FN := fnOf N_Run_finish.length m_Run_finish
abbrev s_Run_step : Stmt := inClass (topS 61) 2
abbrev N_Run_step : List Str := ["self", "actor", "place", "line", "cell", "flags"]
abbrev P_Run_step : List Str := ["self", "actor"]
theorem sc_Run_step : FnScope N_Run_step P_Run_step (defScope s_Run_step) := ⟨rfl, rfl, rfl, by decide +kernel, rfl, by decide +kernel, by decide +kernel⟩
def m_Run_step : MS :=
  (sSeq (sFldA cl_call "call" (eVar 0) (eC .non))
    (sSeq (sAsg (.name 2) (eBin vIx (eFld cl_places "places" (eVar 0)) (eVar 1)))
    (sSeq (sIf (mBool (eBin (vIs false) (eVar 2) (eC .non))) (sRet (eMeth "Run" "begin" (arity P_Run_begin.length S_Run_begin) (eVar 0) (eCons (eVar 1) eNil))) sNext)
    (sSeq (sAsg (.tup [(.name 3), (.name 4), (.name 2), (.name 5)]) (eCall (arity P_move.length S_move) (eCons (eFld cl_layout "layout" (eVar 0)) (eCons (eCall vLen (eCons (eBin vIx (eFld cl_rows "rows" (eVar 0)) (eC (.int 0))) eNil)) (eCons (eVar 1) (eCons (eVar 2) (eCons (eFld cl_flags "flags" (eVar 0)) eNil)))))))
    (sSeq (sSub (eFld cl_places "places" (eVar 0)) (eVar 1) (eVar 2))
    (sSeq (sFldA cl_flags "flags" (eVar 0) (eVar 5))
    (sSeq (sIf (mBool (eBin (vIs true) (eVar 3) (eC .non))) (sExpr (eMeth "Run" "keep" (arity P_Run_keep.length S_Run_keep) (eVar 0) (eCons (eVar 1) (eCons (eBin vIx (eFld cl_lines "lines" (eFld cl_layout "layout" (eVar 0))) (eVar 3)) (eCons (eVar 4) eNil))))) sNext)
    (sSeq (sIf (mBool (eBin (vIs false) (eVar 2) (eC .non))) (sExpr (eMeth "Run" "finish" (arity P_Run_finish.length S_Run_finish) (eVar 0) (eCons (eVar 1) eNil))) sNext)
    (sRet (eTup (eCons (eVar 1) (eCons (eVar 3) (eCons (eVar 4) eNil)))))))))))))
theorem ok_Run_step {f : Addr} {fd : FuncData} (F : Fun K "step" "Run.step" s_Run_step f fd) (FF_call : FldOk K mg "call" cl_call) (FF_places : FldOk K mg "places" cl_places) (M_Run_begin : MetC P w K mg base 3 "Run" "begin" P_Run_begin S_Run_begin) (C_move : Dg.Cal P w K mg base (L2.CX P w) 4 "move" P_move (spC K mg P_move.length S_move)) (FF_flags : FldOk K mg "flags" cl_flags) (FF_rows : FldOk K mg "rows" cl_rows) (B : Dg.Bi mg) (FF_layout : FldOk K mg "layout" cl_layout) (M_Run_keep : MetC P w K mg base 2 "Run" "keep" P_Run_keep S_Run_keep) (FF_lines : FldOk K mg "lines" cl_lines) (M_Run_finish : MetC P w K mg base 2 "Run" "finish" P_Run_finish S_Run_finish) : FnOk P w K mg base (L2.CX P w) 5 f fd P_Run_step (spC K mg P_Run_step.length (fnOf N_Run_step.length m_Run_step)) :=
  fn_ok F sc_Run_step fun cdv A outer s H E hr => (css_cons (cs_fld FF_call (ce_var 0 (pv 0)) ce_non rfl)
    (css_cons (cs_set 2 sc_Run_step.nd rfl (.inl rfl) (ce_ixr (Room.u1 hr) (ce_fld FF_places (ce_var 0 (pv 0)) rfl) (ce_var 1 (pv 1)) (fun _ _ => rfl)))
    (css_cons (cs_if (ct_cmp op_isN ab_is (ce_var 2 (pv 2)) ce_non (nomark _)) (css_one (cs_ret (ce_meth M_Run_begin (takes_of rfl rfl rfl rfl) (hr.mono (by decide)) (ce_var 0 (pv 0)) (cas_cons (ce_var 1 (pv 1)) cas_nil)))) css_nil)
    (css_cons (cs_asg (t := (.tup [(.name 3), (.name 4), (.name 2), (.name 5)])) (ce_call C_move (takes_of rfl rfl rfl rfl) (hr.mono (by decide)) (by rfl) (cas_cons (ce_fld FF_layout (ce_var 0 (pv 0)) rfl) (cas_cons (ce_cb (fun h => pe_callB call_len (by rfl) B.b_len (by decide +kernel) h) an_len (cas_cons (ce_ixr (Room.u1 hr) (ce_fld FF_rows (ce_var 0 (pv 0)) rfl) ce_int (fun _ _ => rfl)) cas_nil)) (cas_cons (ce_var 1 (pv 1)) (cas_cons (ce_var 2 (pv 2)) (cas_cons (ce_fld FF_flags (ce_var 0 (pv 0)) rfl) cas_nil)))))) (tg_tup rfl (tgs_cons (tg_name 3 sc_Run_step.nd rfl (.inl rfl)) (tgs_cons (tg_name 4 sc_Run_step.nd rfl (.inl rfl)) (tgs_cons (tg_name 2 sc_Run_step.nd rfl (.inl rfl)) (tgs_cons (tg_name 5 sc_Run_step.nd rfl (.inl rfl)) tgs_nil))))))
    (css_cons (cs_sub (Room.u1 hr) (ce_fld FF_places (ce_var 0 (pv 0)) rfl) (ce_var 1 (pv 1)) (ce_var 2 (pv 2)))
    (css_cons (cs_fld FF_flags (ce_var 0 (pv 0)) (ce_var 5 (pv 5)) rfl)
    (css_cons (cs_if (ct_cmp op_notN ab_isnt (ce_var 3 (pv 3)) ce_non (nomark _)) (css_one (cs_expr (ce_meth M_Run_keep (takes_of rfl rfl rfl rfl) (hr.mono (by decide)) (ce_var 0 (pv 0)) (cas_cons (ce_var 1 (pv 1)) (cas_cons (ce_ixr (Room.u1 hr) (ce_fld FF_lines (ce_fld FF_layout (ce_var 0 (pv 0)) rfl) rfl) (ce_var 3 (pv 3)) (fun _ _ => rfl)) (cas_cons (ce_var 4 (pv 4)) cas_nil)))))) css_nil)
    (css_cons (cs_if (ct_cmp op_isN ab_is (ce_var 2 (pv 2)) ce_non (nomark _)) (css_one (cs_expr (ce_meth M_Run_finish (takes_of rfl rfl rfl rfl) (hr.mono (by decide)) (ce_var 0 (pv 0)) (cas_cons (ce_var 1 (pv 1)) cas_nil)))) css_nil)
    (css_one (cs_ret (ce_tup (cas_cons (ce_var 1 (pv 1)) (cas_cons (ce_var 3 (pv 3)) (cas_cons (ce_var 4 (pv 4)) cas_nil))))))))))))))
def S_Run_step : FN := fnOf N_Run_step.length m_Run_step
abbrev s_World___init : Stmt := inClass (topS 63) 0
abbrev N_World___init : List Str := ["self", "text"]
abbrev P_World___init : List Str := ["self", "text"]
theorem sc_World___init : FnScope N_World___init P_World___init (defScope s_World___init) := ⟨rfl, rfl, rfl, by decide +kernel, rfl, by decide +kernel, by decide +kernel⟩
def m_World___init : MS :=
  (sSeq (sFldA cl_layout "layout" (eVar 0) (eCall (arity P_read_layout.length S_read_layout) (eCons (eVar 1) eNil)))
    (sSeq (sFldA cl_text "text" (eVar 0) (eVar 1))
    (sSeq (sFldA cl_flags "flags" (eVar 0) (eCall vTuple (eCons (eFld cl_flags "flags" (eFld cl_layout "layout" (eVar 0))) eNil)))
    (sSeq (sFldA cl_registers "registers" (eVar 0) (eCall vTuple (eCons (eFld cl_registers "registers" (eFld cl_layout "layout" (eVar 0))) eNil)))
    (sSeq (sFldA cl_readers "readers" (eVar 0) (eCall vTuple (eCons (eFld cl_readers "readers" (eFld cl_layout "layout" (eVar 0))) eNil)))
    (sFldA cl_readings "readings" (eVar 0) (eCall vTuple (eCons (eFld cl_readings "readings" (eFld cl_layout "layout" (eVar 0))) eNil))))))))
theorem ok_World___init {f : Addr} {fd : FuncData} (F : Fun K "__init__" "World.__init__" s_World___init f fd) (C_read_layout : Dg.Cal P w K mg base (L2.CX P w) 5 "read_layout" P_read_layout (spC K mg P_read_layout.length S_read_layout)) (FF_layout : FldOk K mg "layout" cl_layout) (FF_text : FldOk K mg "text" cl_text) (FF_flags : FldOk K mg "flags" cl_flags) (B : Dg.Bi mg) (FF_registers : FldOk K mg "registers" cl_registers) (FF_readers : FldOk K mg "readers" cl_readers) (FF_readings : FldOk K mg "readings" cl_readings) : FnOk P w K mg base (L2.CX P w) 6 f fd P_World___init (spC K mg P_World___init.length (fnOf N_World___init.length m_World___init)) :=
  fn_ok F sc_World___init fun cdv A outer s H E hr => (css_cons (cs_fld FF_layout (ce_var 0 (pv 0)) (ce_call C_read_layout (takes_of rfl rfl rfl rfl) (hr.mono (by decide)) (by rfl) (cas_cons (ce_var 1 (pv 1)) cas_nil)) rfl)
    (css_cons (cs_fld FF_text (ce_var 0 (pv 0)) (ce_var 1 (pv 1)) rfl)
    (css_cons (cs_fld FF_flags (ce_var 0 (pv 0)) (ce_cb (fun h => pe_callTy call_tuple_of (by rfl) B.b_tuple (by decide +kernel) h) an_tuple (cas_cons (ce_fld FF_flags (ce_fld FF_layout (ce_var 0 (pv 0)) rfl) rfl) cas_nil)) rfl)
    (css_cons (cs_fld FF_registers (ce_var 0 (pv 0)) (ce_cb (fun h => pe_callTy call_tuple_of (by rfl) B.b_tuple (by decide +kernel) h) an_tuple (cas_cons (ce_fld FF_registers (ce_fld FF_layout (ce_var 0 (pv 0)) rfl) rfl) cas_nil)) rfl)
    (css_cons (cs_fld FF_readers (ce_var 0 (pv 0)) (ce_cb (fun h => pe_callTy call_tuple_of (by rfl) B.b_tuple (by decide +kernel) h) an_tuple (cas_cons (ce_fld FF_readers (ce_fld FF_layout (ce_var 0 (pv 0)) rfl) rfl) cas_nil)) rfl)
    (css_one (cs_fld FF_readings (ce_var 0 (pv 0)) (ce_cb (fun h => pe_callTy call_tuple_of (by rfl) B.b_tuple (by decide +kernel) h) an_tuple (cas_cons (ce_fld FF_readings (ce_fld FF_layout (ce_var 0 (pv 0)) rfl) rfl) cas_nil)) rfl)))))))
def S_World___init : FN := fnOf N_World___init.length m_World___init
abbrev s_World_run : Stmt := inClass (topS 63) 2
abbrev N_World_run : List Str := ["self", "values", "actors", "order", "play", "calls", "actor"]
abbrev P_World_run : List Str := ["self", "values", "actors"]
theorem sc_World_run : FnScope N_World_run P_World_run (defScope s_World_run) := ⟨rfl, rfl, rfl, by decide +kernel, rfl, by decide +kernel, by decide +kernel⟩
def m_World_run : MS :=
  (sSeq (sAsg (.name 3) (eCall (arity P_checked_actors.length S_checked_actors) (eCons (eFld cl_layout "layout" (eVar 0)) (eCons (eVar 2) eNil))))
    (sSeq (sAsg (.name 4) (eMake "Run" (arity P_Run___init.length S_Run___init) (eCons (eFld cl_layout "layout" (eVar 0)) (eCons (eCall (arity P_checked_values.length S_checked_values) (eCons (eVar 1) eNil)) eNil))))
    (sSeq (sAsg (.name 5) (eLst true eNil))
    (sSeq (sForS (.name 6) (eVar 3) (sSeq (sExpr (eMeth "Run" "step" (arity P_Run_step.length S_Run_step) (eVar 4) (eCons (eVar 6) eNil)))
        (sIf (mBool (eBin (vIs true) (eFld cl_call "call" (eVar 4)) (eC .non))) (sExpr (eBm isLst vAppend (eVar 5) (eCons (eFld cl_call "call" (eVar 4)) eNil))) sNext)))
    (sRet (eVar 5))))))
theorem ok_World_run {f : Addr} {fd : FuncData} (F : Fun K "run" "World.run" s_World_run f fd) (C_checked_actors : Dg.Cal P w K mg base (L2.CX P w) 3 "checked_actors" P_checked_actors (spC K mg P_checked_actors.length S_checked_actors)) (FF_layout : FldOk K mg "layout" cl_layout) (K_Run : MakC P w K mg base 1 "Run" P_Run___init S_Run___init) (C_checked_values : Dg.Cal P w K mg base (L2.CX P w) 3 "checked_values" P_checked_values (spC K mg P_checked_values.length S_checked_values)) (M_Run_step : MetC P w K mg base 5 "Run" "step" P_Run_step S_Run_step) (FF_call : FldOk K mg "call" cl_call) : FnOk P w K mg base (L2.CX P w) 6 f fd P_World_run (spC K mg P_World_run.length (fnOf N_World_run.length m_World_run)) :=
  fn_ok F sc_World_run fun cdv A outer s H E hr => (css_cons (cs_set 3 sc_World_run.nd rfl (.inl rfl) (ce_call C_checked_actors (takes_of rfl rfl rfl rfl) (hr.mono (by decide)) (by rfl) (cas_cons (ce_fld FF_layout (ce_var 0 (pv 0)) rfl) (cas_cons (ce_var 2 (pv 2)) cas_nil))))
    (css_cons (cs_set 4 sc_World_run.nd rfl (.inl rfl) (ce_make K_Run (takes_of rfl rfl rfl rfl) (hr.mono (by decide)) (by rfl) (cas_cons (ce_fld FF_layout (ce_var 0 (pv 0)) rfl) (cas_cons (ce_call C_checked_values (takes_of rfl rfl rfl rfl) (hr.mono (by decide)) (by rfl) (cas_cons (ce_var 1 (pv 1)) cas_nil)) cas_nil))))
    (css_cons (cs_set 5 sc_World_run.nd rfl (.inl rfl) (ce_lst true cas_nil))
    (css_cons (cs_forS (t := (.name 6)) (passes_of rfl) rfl (ce_var 3 (pv 3)) (tg_name 6 sc_World_run.nd rfl (.inl rfl)) (css_cons (cs_expr (ce_meth M_Run_step (takes_of rfl rfl rfl rfl) (hr.mono (by decide)) (ce_var 4 (pv 4)) (cas_cons (ce_var 6 (pv 6)) cas_nil)))
        (css_one (cs_if (ct_cmp op_notN ab_isnt (ce_fld FF_call (ce_var 4 (pv 4)) rfl) ce_non (nomark _)) (css_one (cs_expr (ce_bm chk_lst am_append PySem.F.plainAttrs_list PySem.F.slot_list_append PySem.F.type_list_append mt_append (ce_var 5 (pv 5)) (cas_cons (ce_fld FF_call (ce_var 4 (pv 4)) rfl) cas_nil)))) css_nil))))
    (css_one (cs_ret (ce_var 5 (pv 5))))))))
def S_World_run : FN := fnOf N_World_run.length m_World_run
abbrev s_World_steps : Stmt := inClass (topS 63) 3
abbrev N_World_steps : List Str := ["self", "values", "actors", "order", "play", "actor"]
abbrev P_World_steps : List Str := ["self", "values", "actors"]
theorem sc_World_steps : GScope N_World_steps P_World_steps (defScope s_World_steps) := ⟨rfl, rfl, rfl, by decide +kernel, rfl, by decide +kernel, by decide +kernel⟩
def m_World_steps : MGS :=
  (gSeq (gPlain (sAsg (.name 3) (eCall (arity P_checked_actors.length S_checked_actors) (eCons (eFld cl_layout "layout" (eVar 0)) (eCons (eVar 2) eNil)))))
    (gSeq (gPlain (sAsg (.name 4) (eMake "Run" (arity P_Run___init.length S_Run___init) (eCons (eFld cl_layout "layout" (eVar 0)) (eCons (eCall (arity P_checked_values.length S_checked_values) (eCons (eVar 1) eNil)) eNil)))))
    (gSeq (gFor (.name 5) (itSeq (eVar 3)) (gSeq (gYield (eMeth "Run" "step" (arity P_Run_step.length S_Run_step) (eVar 4) (eCons (eVar 5) eNil)))
      gNext))
    gNext)))
theorem ok_World_steps {f : Addr} {fd : FuncData} (F : Fun K "steps" "World.steps" s_World_steps f fd) (M_Run_step : MetC P w K mg base 5 "Run" "step" P_Run_step S_Run_step) (K_Run : MakC P w K mg base 1 "Run" P_Run___init S_Run___init) (C_checked_values : Dg.Cal P w K mg base (L2.CX P w) 3 "checked_values" P_checked_values (spC K mg P_checked_values.length S_checked_values)) (FF_layout : FldOk K mg "layout" cl_layout) (C_checked_actors : Dg.Cal P w K mg base (L2.CX P w) 3 "checked_actors" P_checked_actors (spC K mg P_checked_actors.length S_checked_actors)) : GFn P w K mg base 6 f fd P_World_steps (spG K mg P_World_steps.length (genOf N_World_steps.length m_World_steps)) :=
  gfn_ok F sc_World_steps fun cdv A outer s H E pn hr => (cgs_cons (cg_plain (cs_set 3 sc_World_steps.nd rfl (.inl rfl) (ce_call C_checked_actors takes0 (hr.mono (by decide)) (by rfl) (cas_cons (ce_fld FF_layout (ce_var 0 (pv 0)) rfl) (cas_cons (ce_var 2 (pv 2)) cas_nil)))))
    (cgs_cons (cg_plain (cs_set 4 sc_World_steps.nd rfl (.inl rfl) (ce_make K_Run takes0 (hr.mono (by decide)) (by rfl) (cas_cons (ce_fld FF_layout (ce_var 0 (pv 0)) rfl) (cas_cons (ce_call C_checked_values takes0 (hr.mono (by decide)) (by rfl) (cas_cons (ce_var 1 (pv 1)) cas_nil)) cas_nil)))))
    (cgs_cons (cg_for (t := (.name 5)) owns_gcx rfl (ci_seq (ce_var 3 (pv 3))) (tg_name 5 sc_World_steps.nd rfl (.inl rfl)) (cgs_cons (cg_yield (ce_meth M_Run_step takes0 (hr.mono (by decide)) (ce_var 4 (pv 4)) (cas_cons (ce_var 5 (pv 5)) cas_nil)))
      cgs_nil))
    cgs_nil)))
def S_World_steps : List A → AH → R (List A) := genOf N_World_steps.length m_World_steps
end
end Cl
namespace Cl
open PySem PySem.Spec PyProof.Rows L2
section
variable {P : Program} {w : World} {K : PySem.W.Frag} {mg : Str → Option Value} {base : Heap}
abbrev s_begun_pen : Stmt := topS 65
abbrev N_begun_pen : List Str := ["script"]
abbrev P_begun_pen : List Str := ["script"]
theorem sc_begun_pen : FnScope N_begun_pen P_begun_pen (defScope s_begun_pen) := ⟨rfl, rfl, rfl, by decide +kernel, rfl, by decide +kernel, by decide +kernel⟩
def m_begun_pen : MS :=
  (sRet (eDisp true [((eC (.str "cells")), (eCall (vList false) (eCons (eSl false (eVar 0) eNoPart (ePart (eC (.int 63)))) eNil))), ((eC (.str "turn")), (eC (.int 0))), ((eC (.str "left")), (eC (.int 0)))]))
theorem ok_begun_pen {f : Addr} {fd : FuncData} (F : Fun K "_law_begun_pen" "_law_begun_pen" s_begun_pen f fd) (B : Dg.Bi mg) : FnOk P w K mg base (L2.CX P w) 1 f fd P_begun_pen (spC K mg P_begun_pen.length (fnOf N_begun_pen.length m_begun_pen)) :=
  fn_ok F sc_begun_pen fun cdv A outer s H E hr => (css_one (cs_ret (ce_disp true (cps_cons ce_str (ce_cb (fun h => pe_callTy (call_list_of.or (call_listD rfl)) (by rfl) B.b_list (by decide +kernel) h) (an_list false) (cas_cons (ce_sl false (ce_var 0 (pv 0)) cpo_none (cpo_some ce_int)) cas_nil)) (cps_cons ce_str ce_int (cps_cons ce_str ce_int cps_nil))) rfl rfl (by intro z; cases z) (by decide))))
def S_begun_pen : FN := fnOf N_begun_pen.length m_begun_pen
abbrev s_draw : Stmt := topS 66
abbrev N_draw : List Str := ["pen", "span", "digit", "turn", "cell", "mixed"]
abbrev P_draw : List Str := ["pen", "span"]
theorem sc_draw : FnScope N_draw P_draw (defScope s_draw) := ⟨rfl, rfl, rfl, by decide +kernel, rfl, by decide +kernel, by decide +kernel⟩
def m_draw : MS :=
  (sSeq (sIf (mBool (eBin vGt (eBin vIx (eVar 0) (eC (.str "left"))) (eC (.int 0)))) (sSeq (sAsg (.name 2) (eBin vMod (eCall vInt (eCons (eBin vIx (eVar 0) (eC (.str "left"))) eNil)) (eVar 1)))
        (sSeq (sSub (eVar 0) (eC (.str "left")) (eBin vFdiv (eBin vIx (eVar 0) (eC (.str "left"))) (eVar 1)))
        (sRet (eVar 2)))) sNext)
    (sSeq (sAsg (.name 3) (eBin vIx (eVar 0) (eC (.str "turn"))))
    (sSeq (sSub (eVar 0) (eC (.str "turn")) (eBin (vAdd false) (eVar 3) (eC (.int 1))))
    (sSeq (sAsg (.name 4) (eBin (vAdd false) (eBin (vMul false) (eC (.int 61)) (eVar 3)) (eC (.int 13))))
    (sSeq (sIf (mBool (eBin (vEq true) (eBin vIx (eVar 0) (eC (.str "cells"))) (eLst false eNil))) (sAsg (.name 4) (eBin vIx (eBin vIx (eVar 0) (eC (.str "cells"))) (eBin vMod (eCall vInt (eCons (eVar 3) eNil)) (eCall vLen (eCons (eBin vIx (eVar 0) (eC (.str "cells"))) eNil))))) sNext)
    (sSeq (sIf (mAnd (mBool (eBin vLtT (eVar 3) (eCall vLen (eCons (eBin vIx (eVar 0) (eC (.str "cells"))) eNil)))) (mBool (eBin vGe (eCall vAbs (eCons (eVar 4) eNil)) (eBin vPow (eC (.int 10)) (eC (.int 18)))))) (sSeq (sSub (eVar 0) (eC (.str "left")) (eBin vFdiv (eBin vSub (eCall vAbs (eCons (eVar 4) eNil)) (eBin vPow (eC (.int 10)) (eC (.int 18)))) (eVar 1)))
        (sRet (eBin vMod (eCall vInt (eCons (eBin vSub (eCall vAbs (eCons (eVar 4) eNil)) (eBin vPow (eC (.int 10)) (eC (.int 18)))) eNil)) (eVar 1)))) sNext)
    (sSeq (sAsg (.name 5) (eBin (vMul false) (eBin vMod (eCall vInt (eCons (eVar 4) eNil)) (eC (.int 4294967087))) (eC (.int 48611))))
    (sSeq (sAsg (.name 5) (eBin vMod (eCall vInt (eCons (eBin (vAdd false) (eBin (vAdd false) (eVar 5) (eBin (vMul false) (eVar 3) (eBin (vAdd false) (eBin (vMul false) (eVar 3) (eC (.int 27919))) (eC (.int 10601))))) (eC (.int 41))) eNil)) (eC (.int 4294967029))))
    (sSeq (sAsg (.name 5) (eBin vMod (eCall vInt (eCons (eBin (vMul false) (eVar 5) (eBin (vAdd false) (eVar 5) (eC (.int 75013)))) eNil)) (eC (.int 4294966997))))
    (sSeq (sAsg (.name 5) (eBin vMod (eCall vInt (eCons (eBin (vAdd false) (eBin (vAdd false) (eBin (vMul false) (eVar 5) (eVar 5)) (eBin (vMul false) (eC (.int 30427)) (eVar 5))) (eBin (vMul false) (eC (.int 19)) (eVar 3))) eNil)) (eC (.int 4294966981))))
    (sRet (eBin vMod (eCall vInt (eCons (eBin vFdiv (eBin vMod (eCall vInt (eCons (eBin (vMul false) (eVar 5) (eBin (vAdd false) (eVar 5) (eC (.int 58111)))) eNil)) (eC (.int 4294966943))) (eC (.int 64))) eNil)) (eVar 1)))))))))))))
theorem ok_draw {f : Addr} {fd : FuncData} (F : Fun K "_law_draw" "_law_draw" s_draw f fd) (B : Dg.Bi mg) : FnOk P w K mg base (L2.CX P w) 1 f fd P_draw (spC K mg P_draw.length (fnOf N_draw.length m_draw)) :=
  fn_ok F sc_draw fun cdv A outer s H E hr => (css_cons (cs_if (ct_cmp op_gt ab_gt (ce_ixr (Room.u1 hr) (ce_var 0 (pv 0)) ce_str (fun _ _ => rfl)) ce_int (nomark _)) (css_cons (cs_set 2 sc_draw.nd rfl (.inl rfl) (ce_mod (ce_cb (fun h => pe_callTy (call_int1.or call_int_str) (by rfl) B.b_int (by decide +kernel) h) an_int (cas_cons (ce_ixr (Room.u1 hr) (ce_var 0 (pv 0)) ce_str (fun _ _ => rfl)) cas_nil)) (ce_var 1 (pv 1))))
        (css_cons (cs_sub (Room.u1 hr) (ce_var 0 (pv 0)) ce_str (ce_fdiv (ce_ixr (Room.u1 hr) (ce_var 0 (pv 0)) ce_str (fun _ _ => rfl)) (ce_var 1 (pv 1))))
        (css_one (cs_ret (ce_var 2 (pv 2)))))) css_nil)
    (css_cons (cs_set 3 sc_draw.nd rfl (.inl rfl) (ce_ixr (Room.u1 hr) (ce_var 0 (pv 0)) ce_str (fun _ _ => rfl)))
    (css_cons (cs_sub (Room.u1 hr) (ce_var 0 (pv 0)) ce_str (ce_add false (ce_var 3 (pv 3)) ce_int))
    (css_cons (cs_set 4 sc_draw.nd rfl (.inl rfl) (ce_add false (ce_mul false ce_int (ce_var 3 (pv 3))) ce_int))
    (css_cons (cs_if (ct_cmp (op_neD (Room.u64 hr)) ab_ne (ce_ixr (Room.u1 hr) (ce_var 0 (pv 0)) ce_str (fun _ _ => rfl)) (ce_lst false cas_nil) (nomark _)) (css_one (cs_set 4 sc_draw.nd rfl (.inl rfl) (ce_ixr (Room.u1 hr) (ce_ixr (Room.u1 hr) (ce_var 0 (pv 0)) ce_str (fun _ _ => rfl)) (ce_mod (ce_cb (fun h => pe_callTy (call_int1.or call_int_str) (by rfl) B.b_int (by decide +kernel) h) an_int (cas_cons (ce_var 3 (pv 3)) cas_nil)) (ce_cb (fun h => pe_callB call_len (by rfl) B.b_len (by decide +kernel) h) an_len (cas_cons (ce_ixr (Room.u1 hr) (ce_var 0 (pv 0)) ce_str (fun _ _ => rfl)) cas_nil))) (fun _ _ => rfl)))) css_nil)
    (css_cons (cs_if (CW.pt (cw_and (ct_cmp (Cl.OpR.or op_lt (op_ltT (Nat.lt_of_le_of_lt (Nat.le_succ _) (Room.u1 hr)))) ab_ltT (ce_var 3 (pv 3)) (ce_cb (fun h => pe_callB call_len (by rfl) B.b_len (by decide +kernel) h) an_len (cas_cons (ce_ixr (Room.u1 hr) (ce_var 0 (pv 0)) ce_str (fun _ _ => rfl)) cas_nil)) (nomark _)) (cw_and1 (ct_cmp op_ge ab_ge (ce_cb (fun h => pe_callB call_abs (by rfl) B.b_abs (by decide +kernel) h) an_abs (cas_cons (ce_var 4 (pv 4)) cas_nil)) (ce_pow ce_int ce_int) (nomark _))))) (css_cons (cs_sub (Room.u1 hr) (ce_var 0 (pv 0)) ce_str (ce_fdiv (ce_sub (ce_cb (fun h => pe_callB call_abs (by rfl) B.b_abs (by decide +kernel) h) an_abs (cas_cons (ce_var 4 (pv 4)) cas_nil)) (ce_pow ce_int ce_int)) (ce_var 1 (pv 1))))
        (css_one (cs_ret (ce_mod (ce_cb (fun h => pe_callTy (call_int1.or call_int_str) (by rfl) B.b_int (by decide +kernel) h) an_int (cas_cons (ce_sub (ce_cb (fun h => pe_callB call_abs (by rfl) B.b_abs (by decide +kernel) h) an_abs (cas_cons (ce_var 4 (pv 4)) cas_nil)) (ce_pow ce_int ce_int)) cas_nil)) (ce_var 1 (pv 1)))))) css_nil)
    (css_cons (cs_set 5 sc_draw.nd rfl (.inl rfl) (ce_mul false (ce_mod (ce_cb (fun h => pe_callTy (call_int1.or call_int_str) (by rfl) B.b_int (by decide +kernel) h) an_int (cas_cons (ce_var 4 (pv 4)) cas_nil)) ce_int) ce_int))
    (css_cons (cs_set 5 sc_draw.nd rfl (.inl rfl) (ce_mod (ce_cb (fun h => pe_callTy (call_int1.or call_int_str) (by rfl) B.b_int (by decide +kernel) h) an_int (cas_cons (ce_add false (ce_add false (ce_var 5 (pv 5)) (ce_mul false (ce_var 3 (pv 3)) (ce_add false (ce_mul false (ce_var 3 (pv 3)) ce_int) ce_int))) ce_int) cas_nil)) ce_int))
    (css_cons (cs_set 5 sc_draw.nd rfl (.inl rfl) (ce_mod (ce_cb (fun h => pe_callTy (call_int1.or call_int_str) (by rfl) B.b_int (by decide +kernel) h) an_int (cas_cons (ce_mul false (ce_var 5 (pv 5)) (ce_add false (ce_var 5 (pv 5)) ce_int)) cas_nil)) ce_int))
    (css_cons (cs_set 5 sc_draw.nd rfl (.inl rfl) (ce_mod (ce_cb (fun h => pe_callTy (call_int1.or call_int_str) (by rfl) B.b_int (by decide +kernel) h) an_int (cas_cons (ce_add false (ce_add false (ce_mul false (ce_var 5 (pv 5)) (ce_var 5 (pv 5))) (ce_mul false ce_int (ce_var 5 (pv 5)))) (ce_mul false ce_int (ce_var 3 (pv 3)))) cas_nil)) ce_int))
    (css_one (cs_ret (ce_mod (ce_cb (fun h => pe_callTy (call_int1.or call_int_str) (by rfl) B.b_int (by decide +kernel) h) an_int (cas_cons (ce_fdiv (ce_mod (ce_cb (fun h => pe_callTy (call_int1.or call_int_str) (by rfl) B.b_int (by decide +kernel) h) an_int (cas_cons (ce_mul false (ce_var 5 (pv 5)) (ce_add false (ce_var 5 (pv 5)) ce_int)) cas_nil)) ce_int) ce_int) cas_nil)) (ce_var 1 (pv 1)))))))))))))))
def S_draw : FN := fnOf N_draw.length m_draw
abbrev s_actor : Stmt := topS 67
abbrev N_actor : List Str := ["sign"]
abbrev P_actor : List Str := ["sign"]
theorem sc_actor : FnScope N_actor P_actor (defScope s_actor) := ⟨rfl, rfl, rfl, by decide +kernel, rfl, by decide +kernel, by decide +kernel⟩
def m_actor : MS :=
  (sRet (eIf (mBool (eBin (vEq false) (eVar 0) (eC (.str "w")))) (eC (.str "writer")) (eVar 0)))
theorem ok_actor {f : Addr} {fd : FuncData} (F : Fun K "_law_actor" "_law_actor" s_actor f fd)  : FnOk P w K mg base (L2.CX P w) 1 f fd P_actor (spC K mg P_actor.length (fnOf N_actor.length m_actor)) :=
  fn_ok F sc_actor fun cdv A outer s H E hr => (css_one (cs_ret (ce_if (ct_cmp (op_eqD (Room.u64 hr)) ab_eq (ce_var 0 (pv 0)) ce_str (nomark _)) ce_str (ce_var 0 (pv 0)))))
def S_actor : FN := fnOf N_actor.length m_actor
abbrev s_steps : Stmt := topS 68
abbrev N_steps : List Str := ["text", "found", "word", "parts", "line"]
abbrev P_steps : List Str := ["text"]
theorem sc_steps : FnScope N_steps P_steps (defScope s_steps) := ⟨rfl, rfl, rfl, by decide +kernel, rfl, by decide +kernel, by decide +kernel⟩
def m_steps : MS :=
  (sSeq (sAsg (.name 1) (eLst true eNil))
    (sSeq (sForS (.name 2) (eBm isStr (vSplit false) (eVar 0) (eCons (eC (.str " ")) eNil)) (sSeq (sAsg (.name 3) (eBm isStr (vSplit false) (eSl false (eVar 2) (ePart (eC (.int 1))) eNoPart) (eCons (eC (.str ".")) eNil)))
        (sSeq (sAsg (.name 4) (eIf (mBool (eBin (vEq true) (eBin vIx (eVar 3) (eC (.int 0))) (eC (.str "-")))) (eCall vInt (eCons (eBin vIx (eVar 3) (eC (.int 0))) eNil)) (eC .non)))
        (sExpr (eBm isLst vAppend (eVar 1) (eCons (eTup (eCons (eCall (arity P_actor.length S_actor) (eCons (eBin vIx (eVar 2) (eC (.int 0))) eNil)) (eCons (eVar 4) (eCons (eIf (mBool (eBin vGt (eCall vLen (eCons (eVar 3) eNil)) (eC (.int 1)))) (eCall vInt (eCons (eBin vIx (eVar 3) (eC (.int 1))) eNil)) (eC .non)) eNil)))) eNil))))))
    (sRet (eVar 1))))
theorem ok_steps {f : Addr} {fd : FuncData} (F : Fun K "_law_steps" "_law_steps" s_steps f fd) (B : Dg.Bi mg) (C_actor : Dg.Cal P w K mg base (L2.CX P w) 1 "_law_actor" P_actor (spC K mg P_actor.length S_actor)) : FnOk P w K mg base (L2.CX P w) 2 f fd P_steps (spC K mg P_steps.length (fnOf N_steps.length m_steps)) :=
  fn_ok F sc_steps fun cdv A outer s H E hr => (css_cons (cs_set 1 sc_steps.nd rfl (.inl rfl) (ce_lst true cas_nil))
    (css_cons (cs_forS (t := (.name 2)) (passes_of rfl) rfl (ce_bm chk_str (am_split false) PySem.F.plainAttrs_str PySem.F.slot_str_split PySem.F.type_str_split mt_split (ce_var 0 (pv 0)) (cas_cons ce_str cas_nil)) (tg_name 2 sc_steps.nd rfl (.inl rfl)) (css_cons (cs_set 3 sc_steps.nd rfl (.inl rfl) (ce_bm chk_str (am_split false) PySem.F.plainAttrs_str PySem.F.slot_str_split PySem.F.type_str_split mt_split (ce_sl false (ce_var 2 (pv 2)) (cpo_some ce_int) cpo_none) (cas_cons ce_str cas_nil)))
        (css_cons (cs_set 4 sc_steps.nd rfl (.inl rfl) (ce_if (ct_cmp (op_neD (Room.u64 hr)) ab_ne (ce_ixr (Room.u1 hr) (ce_var 3 (pv 3)) ce_int (fun _ _ => rfl)) ce_str (nomark _)) (ce_cb (fun h => pe_callTy (call_int1.or call_int_str) (by rfl) B.b_int (by decide +kernel) h) an_int (cas_cons (ce_ixr (Room.u1 hr) (ce_var 3 (pv 3)) ce_int (fun _ _ => rfl)) cas_nil)) ce_non))
        (css_one (cs_expr (ce_bm chk_lst am_append PySem.F.plainAttrs_list PySem.F.slot_list_append PySem.F.type_list_append mt_append (ce_var 1 (pv 1)) (cas_cons (ce_tup (cas_cons (ce_call C_actor (takes_of rfl rfl rfl rfl) (hr.mono (by decide)) (by rfl) (cas_cons (ce_ixr (Room.u1 hr) (ce_var 2 (pv 2)) ce_int (fun _ _ => rfl)) cas_nil)) (cas_cons (ce_var 4 (pv 4)) (cas_cons (ce_if (ct_cmp op_gt ab_gt (ce_cb (fun h => pe_callB call_len (by rfl) B.b_len (by decide +kernel) h) an_len (cas_cons (ce_var 3 (pv 3)) cas_nil)) ce_int (nomark _)) (ce_cb (fun h => pe_callTy (call_int1.or call_int_str) (by rfl) B.b_int (by decide +kernel) h) an_int (cas_cons (ce_ixr (Room.u1 hr) (ce_var 3 (pv 3)) ce_int (fun _ _ => rfl)) cas_nil)) ce_non) cas_nil)))) cas_nil)))))))
    (css_one (cs_ret (ce_var 1 (pv 1))))))
def S_steps : FN := fnOf N_steps.length m_steps
abbrev s_more_cases : Stmt := topS 70
abbrev N_more_cases : List Str := ["lines", "rows", "steps", "calls"]
abbrev P_more_cases : List Str := []
theorem sc_more_cases : FnScope N_more_cases P_more_cases (defScope s_more_cases) := ⟨rfl, rfl, rfl, by decide +kernel, rfl, by decide +kernel, by decide +kernel⟩
def m_more_cases : MS :=
  (sSeq (sAsg (.name 0) (eC (.str "flag f 4/register x/writer/write x up/reader r/read x up as v/look f as s/if s is t")))
    (sSeq (sPar 0 1 (eCons (eBin (vAdd false) (eVar 0) (eC (.str "/step f/again/else/read x down as z/end"))) (eCons (eLst true eNil) eNil)))
    (sSeq (sAsg (.name 2) (eC (.str "r0 r6.0 r7 r8 r9 r10 r6.0 r7 w0 r8 w4.0 r12.0")))
    (sSeq (sExpr (eBm isLst vAppend (eVar 1) (eCons (eTup (eCons (eVar 0) (eCons (eLst false (eCons (eTup (eCons (eC (.int 1)) eNil)) (eCons (eTup (eCons (eC (.int 2)) eNil)) eNil))) (eCons (eVar 2) (eCons (eLst false (eCons (eTup (eCons (eC (.str "r")) (eCons (eC (.int 0)) (eCons (eC (.int 1)) (eCons (eDisp false [((eC (.str "v")), (eTup (eCons (eC (.int 1)) eNil))), ((eC (.str "z")), (eTup (eCons (eC (.int 2)) eNil)))]) eNil))))) eNil)) eNil))))) eNil)))
    (sSeq (sAsg (.name 0) (eC (.str "flag f 2/flag g 4/register x/writer/step f/step g/write x up/reader r/look g as a")))
    (sSeq (sAsg (.name 0) (eBin (vAdd false) (eVar 0) (eC (.str "/look f as b/if a is b/read x up as v/end"))))
    (sSeq (sAsg (.name 2) (eC (.str "r0 r9 r10 r11 r12.0 w0 w5 w6 w7.0 r0 r9 r10 r11 r12.0 w0 w5 w6 w7.0 r0 r9 r10 r11")))
    (sSeq (sAsg (.name 2) (eBin (vAdd false) (eVar 2) (eC (.str " w0 w5 w6 w7.0 w0 w5 w6 w7.0 r0 r9 r10 r11 r12.0 w-"))))
    (sSeq (sAsg (.name 3) (eLst true (eCons (eTup (eCons (eC (.str "r")) (eCons (eC (.int 0)) (eCons (eC (.int 0)) (eCons (eDisp false [((eC (.str "v")), (eTup (eCons (eC (.int 3)) eNil)))]) eNil))))) (eCons (eTup (eCons (eC (.str "r")) (eCons (eC (.int 1)) (eCons (eC (.int 1)) (eCons (eDisp false [((eC (.str "v")), (eTup (eCons (eC (.int 3)) eNil)))]) eNil))))) (eCons (eTup (eCons (eC (.str "r")) (eCons (eC (.int 2)) (eCons (eC (.int 2)) (eCons (eDict0 false) eNil))))) eNil)))))
    (sSeq (sExpr (eBm isLst vAppend (eVar 3) (eCons (eTup (eCons (eC (.str "r")) (eCons (eC (.int 4)) (eCons (eC (.int 4)) (eCons (eDisp false [((eC (.str "v")), (eTup (eCons (eC (.int 5)) eNil)))]) eNil))))) eNil)))
    (sSeq (sExpr (eBm isLst vAppend (eVar 1) (eCons (eTup (eCons (eVar 0) (eCons (eLst false (eCons (eTup (eCons (eC (.int 3)) eNil)) (eCons (eTup (eCons (eC (.int 3)) eNil)) (eCons (eTup (eCons (eC (.int 4)) eNil)) (eCons (eTup (eCons (eC (.int 5)) eNil)) (eCons (eTup (eCons (eC (.int 5)) eNil)) eNil)))))) (eCons (eVar 2) (eCons (eVar 3) eNil))))) eNil)))
    (sSeq (sAsg (.name 0) (eC (.str "flag f 2/register x/writer/write x up/reader r/look f as s/if s is 0/read x down as v")))
    (sSeq (sAsg (.name 2) (eC (.str "r0 r6 r7 r8.0 r9 r10 r6 r7")))
    (sSeq (sExpr (eBm isLst vAppend (eVar 1) (eCons (eTup (eCons (eBin (vAdd false) (eVar 0) (eC (.str "/step f/again/end"))) (eCons (eLst false (eCons (eTup (eCons (eC (.int 5)) eNil)) eNil)) (eCons (eVar 2) (eCons (eLst false (eCons (eTup (eCons (eC (.str "r")) (eCons (eC (.int 0)) (eCons (eC (.int 0)) (eCons (eDict0 false) eNil))))) eNil)) eNil))))) eNil)))
    (sSeq (sAsg (.name 0) (eC (.str "flag f 2/register x/writer/set f 1/write x up/set f 0/reader r/if s is 1/read x up as v")))
    (sSeq (sAsg (.name 0) (eBin (vAdd false) (eVar 0) (eC (.str "/end/look f as s/if s is 1/read x up as w/again/end"))))
    (sSeq (sAsg (.name 2) (eC (.str "w0 w4 r0 r8 r11 r12 r13.0 w5.0 w6 r14 r8 r11 r12 r0 r8 r11 r12")))
    (sSeq (sExpr (eBm isLst vAppend (eVar 1) (eCons (eTup (eCons (eVar 0) (eCons (eLst false (eCons (eTup (eCons (eC (.int 1)) eNil)) (eCons (eTup (eCons (eC (.int 2)) eNil)) eNil))) (eCons (eVar 2) (eCons (eLst false (eCons (eTup (eCons (eC (.str "r")) (eCons (eC (.int 0)) (eCons (eC (.int 1)) (eCons (eDict0 false) eNil))))) (eCons (eTup (eCons (eC (.str "r")) (eCons (eC (.int 1)) (eCons (eC (.int 1)) (eCons (eDict0 false) eNil))))) eNil))) eNil))))) eNil)))
    (sSeq (sAsg (.name 0) (eC (.str "flag f 2/register x/writer/set f 1/look f as s/write x up/reader r/if s is 1")))
    (sSeq (sAsg (.name 2) (eC (.str "w0 w4 w5 r0 r8 w6.0 r0 r8")))
    (sSeq (sAsg (.name 3) (eLst true (eCons (eTup (eCons (eC (.str "r")) (eCons (eC (.int 0)) (eCons (eC (.int 1)) (eCons (eDict0 false) eNil))))) (eCons (eTup (eCons (eC (.str "r")) (eCons (eC (.int 1)) (eCons (eC (.int 1)) (eCons (eDict0 false) eNil))))) eNil))))
    (sSeq (sExpr (eBm isLst vAppend (eVar 1) (eCons (eTup (eCons (eBin (vAdd false) (eVar 0) (eC (.str "/read x up as v/end"))) (eCons (eLst false (eCons (eTup (eCons (eC (.int 1)) eNil)) (eCons (eTup (eCons (eC (.int 2)) eNil)) eNil))) (eCons (eVar 2) (eCons (eVar 3) eNil))))) eNil)))
    (sSeq (sAsg (.name 0) (eC (.str "flag f 2/register x/writer/if s is 0/step f/end/look f as s/write x up/reader r/if t is 0")))
    (sSeq (sAsg (.name 2) (eC (.str "w0 w4 w5 w7 w8.0 w0 w4 w5 w7 w8.0 w0 w4 w5 r0 r10 r11 r12.0 r0 r10 r11 r12.0")))
    (sSeq (sAsg (.name 3) (eLst true (eCons (eTup (eCons (eC (.str "r")) (eCons (eC (.int 2)) (eCons (eC (.int 3)) (eCons (eDisp false [((eC (.str "v")), (eTup (eCons (eC (.int 3)) eNil)))]) eNil))))) (eCons (eTup (eCons (eC (.str "r")) (eCons (eC (.int 2)) (eCons (eC (.int 3)) (eCons (eDisp false [((eC (.str "v")), (eTup (eCons (eC (.int 3)) eNil)))]) eNil))))) eNil))))
    (sSeq (sExpr (eBm isLst vAppend (eVar 1) (eCons (eTup (eCons (eBin (vAdd false) (eVar 0) (eC (.str "/look f as t/read x up as v/end"))) (eCons (eLst false (eCons (eTup (eCons (eC (.int 1)) eNil)) (eCons (eTup (eCons (eC (.int 2)) eNil)) (eCons (eTup (eCons (eC (.int 3)) eNil)) (eCons (eTup (eCons (eC (.int 4)) eNil)) eNil))))) (eCons (eVar 2) (eCons (eVar 3) eNil))))) eNil)))
    (sSeq (sAsg (.name 0) (eC (.str "flag f 2/register x/writer/set f 1/write x up/reader r/look f as v/read x up as v")))
    (sSeq (sAsg (.name 2) (eC (.str "r0 r7 r8.0 r9 w0 w4 r0 r7 w5.0 r8.0 r9 r10.0")))
    (sSeq (sAsg (.name 3) (eLst true (eCons (eTup (eCons (eC (.str "r")) (eCons (eC (.int 0)) (eCons (eC (.int 0)) (eCons (eDisp false [((eC (.str "v")), (eTup (eCons (eC (.int 1)) eNil)))]) eNil))))) (eCons (eTup (eCons (eC (.str "r")) (eCons (eC (.int 0)) (eCons (eC (.int 1)) (eCons (eDisp false [((eC (.str "v")), (eTup (eCons (eC (.int 2)) eNil))), ((eC (.str "w")), (eTup (eCons (eC (.int 2)) eNil)))]) eNil))))) eNil))))
    (sSeq (sExpr (eBm isLst vAppend (eVar 1) (eCons (eTup (eCons (eBin (vAdd false) (eVar 0) (eC (.str "/if v is 1/read x down as w/end"))) (eCons (eLst false (eCons (eTup (eCons (eC (.int 1)) eNil)) (eCons (eTup (eCons (eC (.int 2)) eNil)) eNil))) (eCons (eVar 2) (eCons (eVar 3) eNil))))) eNil)))
    (sSeq (sAsg (.name 0) (eC (.str "register x/writer/write x down/reader r/read x up as v/reader q/read x down as u")))
    (sSeq (sAsg (.name 2) (eC (.str "r0 q0 q7.0 w0 w3.0 r5.2 r5.1 q7.1 w3.1 w3.2 q7.2 r5.0 q0 q7.0 q7.1 q7.2")))
    (sSeq (sAsg (.name 3) (eLst true (eCons (eTup (eCons (eC (.str "q")) (eCons (eC (.int 0)) (eCons (eC (.int 1)) (eCons (eDisp false [((eC (.str "u")), (eTup (eCons (eC (.int 1)) (eCons (eC (.int 9)) (eCons (eC (.int 0)) eNil)))))]) eNil))))) (eCons (eTup (eCons (eC (.str "r")) (eCons (eC (.int 0)) (eCons (eC (.int 1)) (eCons (eDisp false [((eC (.str "v")), (eTup (eCons (eC (.int 2)) (eCons (eC (.int 9)) (eCons (eC (.int 9)) eNil)))))]) eNil))))) (eCons (eTup (eCons (eC (.str "q")) (eCons (eC (.int 1)) (eCons (eC (.int 1)) (eCons (eDisp false [((eC (.str "u")), (eTup (eCons (eC (.int 2)) (eCons (eC (.int 0)) (eCons (eC (.int 0)) eNil)))))]) eNil))))) eNil)))))
    (sSeq (sExpr (eBm isLst vAppend (eVar 1) (eCons (eTup (eCons (eVar 0) (eCons (eLst false (eCons (eTup (eCons (eC (.int 1)) (eCons (eC (.int 9)) (eCons (eC (.int 9)) eNil)))) (eCons (eTup (eCons (eC (.int 2)) (eCons (eC (.int 0)) (eCons (eC (.int 0)) eNil)))) eNil))) (eCons (eVar 2) (eCons (eVar 3) eNil))))) eNil)))
    (sRet (eVar 1))))))))))))))))))))))))))))))))))))
theorem ok_more_cases {f : Addr} {fd : FuncData} (F : Fun K "_law_more_cases" "_law_more_cases" s_more_cases f fd)  : FnOk P w K mg base (L2.CX P w) 1 f fd P_more_cases (spC K mg P_more_cases.length (fnOf N_more_cases.length m_more_cases)) :=
  fn_ok F sc_more_cases fun cdv A outer s H E hr => (css_cons (cs_set 0 sc_more_cases.nd rfl (.inl rfl) ce_str)
    (css_cons (cs_par (i := 0) (j := 1) (by rfl) sc_more_cases.nd rfl rfl (by decide) rfl rfl (cas_cons (ce_add false (ce_var 0 (pv 0)) ce_str) (cas_cons (ce_lst true cas_nil) cas_nil)) (by rfl))
    (css_cons (cs_set 2 sc_more_cases.nd rfl (.inl rfl) ce_str)
    (css_cons (cs_expr (ce_bm chk_lst am_append PySem.F.plainAttrs_list PySem.F.slot_list_append PySem.F.type_list_append mt_append (ce_var 1 (pv 1)) (cas_cons (ce_tup (cas_cons (ce_var 0 (pv 0)) (cas_cons (ce_lst false (cas_cons (ce_tup (cas_cons ce_int cas_nil)) (cas_cons (ce_tup (cas_cons ce_int cas_nil)) cas_nil))) (cas_cons (ce_var 2 (pv 2)) (cas_cons (ce_lst false (cas_cons (ce_tup (cas_cons ce_str (cas_cons ce_int (cas_cons ce_int (cas_cons (ce_disp false (cps_cons ce_str (ce_tup (cas_cons ce_int cas_nil)) (cps_cons ce_str (ce_tup (cas_cons ce_int cas_nil)) cps_nil)) rfl rfl (by intro z; cases z) (by decide)) cas_nil))))) cas_nil)) cas_nil))))) cas_nil)))
    (css_cons (cs_set 0 sc_more_cases.nd rfl (.inl rfl) ce_str)
    (css_cons (cs_set 0 sc_more_cases.nd rfl (.inl rfl) (ce_add false (ce_var 0 (pv 0)) ce_str))
    (css_cons (cs_set 2 sc_more_cases.nd rfl (.inl rfl) ce_str)
    (css_cons (cs_set 2 sc_more_cases.nd rfl (.inl rfl) (ce_add false (ce_var 2 (pv 2)) ce_str))
    (css_cons (cs_set 3 sc_more_cases.nd rfl (.inl rfl) (ce_lst true (cas_cons (ce_tup (cas_cons ce_str (cas_cons ce_int (cas_cons ce_int (cas_cons (ce_disp false (cps_cons ce_str (ce_tup (cas_cons ce_int cas_nil)) cps_nil) rfl rfl (by intro z; cases z) (by decide)) cas_nil))))) (cas_cons (ce_tup (cas_cons ce_str (cas_cons ce_int (cas_cons ce_int (cas_cons (ce_disp false (cps_cons ce_str (ce_tup (cas_cons ce_int cas_nil)) cps_nil) rfl rfl (by intro z; cases z) (by decide)) cas_nil))))) (cas_cons (ce_tup (cas_cons ce_str (cas_cons ce_int (cas_cons ce_int (cas_cons (ce_dict0 false pe_dnewK) cas_nil))))) cas_nil)))))
    (css_cons (cs_expr (ce_bm chk_lst am_append PySem.F.plainAttrs_list PySem.F.slot_list_append PySem.F.type_list_append mt_append (ce_var 3 (pv 3)) (cas_cons (ce_tup (cas_cons ce_str (cas_cons ce_int (cas_cons ce_int (cas_cons (ce_disp false (cps_cons ce_str (ce_tup (cas_cons ce_int cas_nil)) cps_nil) rfl rfl (by intro z; cases z) (by decide)) cas_nil))))) cas_nil)))
    (css_cons (cs_expr (ce_bm chk_lst am_append PySem.F.plainAttrs_list PySem.F.slot_list_append PySem.F.type_list_append mt_append (ce_var 1 (pv 1)) (cas_cons (ce_tup (cas_cons (ce_var 0 (pv 0)) (cas_cons (ce_lst false (cas_cons (ce_tup (cas_cons ce_int cas_nil)) (cas_cons (ce_tup (cas_cons ce_int cas_nil)) (cas_cons (ce_tup (cas_cons ce_int cas_nil)) (cas_cons (ce_tup (cas_cons ce_int cas_nil)) (cas_cons (ce_tup (cas_cons ce_int cas_nil)) cas_nil)))))) (cas_cons (ce_var 2 (pv 2)) (cas_cons (ce_var 3 (pv 3)) cas_nil))))) cas_nil)))
    (css_cons (cs_set 0 sc_more_cases.nd rfl (.inl rfl) ce_str)
    (css_cons (cs_set 2 sc_more_cases.nd rfl (.inl rfl) ce_str)
    (css_cons (cs_expr (ce_bm chk_lst am_append PySem.F.plainAttrs_list PySem.F.slot_list_append PySem.F.type_list_append mt_append (ce_var 1 (pv 1)) (cas_cons (ce_tup (cas_cons (ce_add false (ce_var 0 (pv 0)) ce_str) (cas_cons (ce_lst false (cas_cons (ce_tup (cas_cons ce_int cas_nil)) cas_nil)) (cas_cons (ce_var 2 (pv 2)) (cas_cons (ce_lst false (cas_cons (ce_tup (cas_cons ce_str (cas_cons ce_int (cas_cons ce_int (cas_cons (ce_dict0 false pe_dnewK) cas_nil))))) cas_nil)) cas_nil))))) cas_nil)))
    (css_cons (cs_set 0 sc_more_cases.nd rfl (.inl rfl) ce_str)
    (css_cons (cs_set 0 sc_more_cases.nd rfl (.inl rfl) (ce_add false (ce_var 0 (pv 0)) ce_str))
    (css_cons (cs_set 2 sc_more_cases.nd rfl (.inl rfl) ce_str)
    (css_cons (cs_expr (ce_bm chk_lst am_append PySem.F.plainAttrs_list PySem.F.slot_list_append PySem.F.type_list_append mt_append (ce_var 1 (pv 1)) (cas_cons (ce_tup (cas_cons (ce_var 0 (pv 0)) (cas_cons (ce_lst false (cas_cons (ce_tup (cas_cons ce_int cas_nil)) (cas_cons (ce_tup (cas_cons ce_int cas_nil)) cas_nil))) (cas_cons (ce_var 2 (pv 2)) (cas_cons (ce_lst false (cas_cons (ce_tup (cas_cons ce_str (cas_cons ce_int (cas_cons ce_int (cas_cons (ce_dict0 false pe_dnewK) cas_nil))))) (cas_cons (ce_tup (cas_cons ce_str (cas_cons ce_int (cas_cons ce_int (cas_cons (ce_dict0 false pe_dnewK) cas_nil))))) cas_nil))) cas_nil))))) cas_nil)))
    (css_cons (cs_set 0 sc_more_cases.nd rfl (.inl rfl) ce_str)
    (css_cons (cs_set 2 sc_more_cases.nd rfl (.inl rfl) ce_str)
    (css_cons (cs_set 3 sc_more_cases.nd rfl (.inl rfl) (ce_lst true (cas_cons (ce_tup (cas_cons ce_str (cas_cons ce_int (cas_cons ce_int (cas_cons (ce_dict0 false pe_dnewK) cas_nil))))) (cas_cons (ce_tup (cas_cons ce_str (cas_cons ce_int (cas_cons ce_int (cas_cons (ce_dict0 false pe_dnewK) cas_nil))))) cas_nil))))
    (css_cons (cs_expr (ce_bm chk_lst am_append PySem.F.plainAttrs_list PySem.F.slot_list_append PySem.F.type_list_append mt_append (ce_var 1 (pv 1)) (cas_cons (ce_tup (cas_cons (ce_add false (ce_var 0 (pv 0)) ce_str) (cas_cons (ce_lst false (cas_cons (ce_tup (cas_cons ce_int cas_nil)) (cas_cons (ce_tup (cas_cons ce_int cas_nil)) cas_nil))) (cas_cons (ce_var 2 (pv 2)) (cas_cons (ce_var 3 (pv 3)) cas_nil))))) cas_nil)))
    (css_cons (cs_set 0 sc_more_cases.nd rfl (.inl rfl) ce_str)
    (css_cons (cs_set 2 sc_more_cases.nd rfl (.inl rfl) ce_str)
    (css_cons (cs_set 3 sc_more_cases.nd rfl (.inl rfl) (ce_lst true (cas_cons (ce_tup (cas_cons ce_str (cas_cons ce_int (cas_cons ce_int (cas_cons (ce_disp false (cps_cons ce_str (ce_tup (cas_cons ce_int cas_nil)) cps_nil) rfl rfl (by intro z; cases z) (by decide)) cas_nil))))) (cas_cons (ce_tup (cas_cons ce_str (cas_cons ce_int (cas_cons ce_int (cas_cons (ce_disp false (cps_cons ce_str (ce_tup (cas_cons ce_int cas_nil)) cps_nil) rfl rfl (by intro z; cases z) (by decide)) cas_nil))))) cas_nil))))
    (css_cons (cs_expr (ce_bm chk_lst am_append PySem.F.plainAttrs_list PySem.F.slot_list_append PySem.F.type_list_append mt_append (ce_var 1 (pv 1)) (cas_cons (ce_tup (cas_cons (ce_add false (ce_var 0 (pv 0)) ce_str) (cas_cons (ce_lst false (cas_cons (ce_tup (cas_cons ce_int cas_nil)) (cas_cons (ce_tup (cas_cons ce_int cas_nil)) (cas_cons (ce_tup (cas_cons ce_int cas_nil)) (cas_cons (ce_tup (cas_cons ce_int cas_nil)) cas_nil))))) (cas_cons (ce_var 2 (pv 2)) (cas_cons (ce_var 3 (pv 3)) cas_nil))))) cas_nil)))
    (css_cons (cs_set 0 sc_more_cases.nd rfl (.inl rfl) ce_str)
    (css_cons (cs_set 2 sc_more_cases.nd rfl (.inl rfl) ce_str)
    (css_cons (cs_set 3 sc_more_cases.nd rfl (.inl rfl) (ce_lst true (cas_cons (ce_tup (cas_cons ce_str (cas_cons ce_int (cas_cons ce_int (cas_cons (ce_disp false (cps_cons ce_str (ce_tup (cas_cons ce_int cas_nil)) cps_nil) rfl rfl (by intro z; cases z) (by decide)) cas_nil))))) (cas_cons (ce_tup (cas_cons ce_str (cas_cons ce_int (cas_cons ce_int (cas_cons (ce_disp false (cps_cons ce_str (ce_tup (cas_cons ce_int cas_nil)) (cps_cons ce_str (ce_tup (cas_cons ce_int cas_nil)) cps_nil)) rfl rfl (by intro z; cases z) (by decide)) cas_nil))))) cas_nil))))
    (css_cons (cs_expr (ce_bm chk_lst am_append PySem.F.plainAttrs_list PySem.F.slot_list_append PySem.F.type_list_append mt_append (ce_var 1 (pv 1)) (cas_cons (ce_tup (cas_cons (ce_add false (ce_var 0 (pv 0)) ce_str) (cas_cons (ce_lst false (cas_cons (ce_tup (cas_cons ce_int cas_nil)) (cas_cons (ce_tup (cas_cons ce_int cas_nil)) cas_nil))) (cas_cons (ce_var 2 (pv 2)) (cas_cons (ce_var 3 (pv 3)) cas_nil))))) cas_nil)))
    (css_cons (cs_set 0 sc_more_cases.nd rfl (.inl rfl) ce_str)
    (css_cons (cs_set 2 sc_more_cases.nd rfl (.inl rfl) ce_str)
    (css_cons (cs_set 3 sc_more_cases.nd rfl (.inl rfl) (ce_lst true (cas_cons (ce_tup (cas_cons ce_str (cas_cons ce_int (cas_cons ce_int (cas_cons (ce_disp false (cps_cons ce_str (ce_tup (cas_cons ce_int (cas_cons ce_int (cas_cons ce_int cas_nil)))) cps_nil) rfl rfl (by intro z; cases z) (by decide)) cas_nil))))) (cas_cons (ce_tup (cas_cons ce_str (cas_cons ce_int (cas_cons ce_int (cas_cons (ce_disp false (cps_cons ce_str (ce_tup (cas_cons ce_int (cas_cons ce_int (cas_cons ce_int cas_nil)))) cps_nil) rfl rfl (by intro z; cases z) (by decide)) cas_nil))))) (cas_cons (ce_tup (cas_cons ce_str (cas_cons ce_int (cas_cons ce_int (cas_cons (ce_disp false (cps_cons ce_str (ce_tup (cas_cons ce_int (cas_cons ce_int (cas_cons ce_int cas_nil)))) cps_nil) rfl rfl (by intro z; cases z) (by decide)) cas_nil))))) cas_nil)))))
    (css_cons (cs_expr (ce_bm chk_lst am_append PySem.F.plainAttrs_list PySem.F.slot_list_append PySem.F.type_list_append mt_append (ce_var 1 (pv 1)) (cas_cons (ce_tup (cas_cons (ce_var 0 (pv 0)) (cas_cons (ce_lst false (cas_cons (ce_tup (cas_cons ce_int (cas_cons ce_int (cas_cons ce_int cas_nil)))) (cas_cons (ce_tup (cas_cons ce_int (cas_cons ce_int (cas_cons ce_int cas_nil)))) cas_nil))) (cas_cons (ce_var 2 (pv 2)) (cas_cons (ce_var 3 (pv 3)) cas_nil))))) cas_nil)))
    (css_one (cs_ret (ce_var 1 (pv 1))))))))))))))))))))))))))))))))))))))
def S_more_cases : FN := fnOf N_more_cases.length m_more_cases
abbrev s_cases : Stmt := topS 69
abbrev N_cases : List Str := ["plain", "two", "rows", "calls", "steps", "lines"]
abbrev P_cases : List Str := []
theorem sc_cases : FnScope N_cases P_cases (defScope s_cases) := ⟨rfl, rfl, rfl, by decide +kernel, rfl, by decide +kernel, by decide +kernel⟩
def m_cases : MS :=
  (sSeq (sAsg (.name 0) (eC (.str "register x/writer/write x up/reader r/read x down as v")))
    (sSeq (sPar 1 2 (eCons (eLst false (eCons (eTup (eCons (eC (.int 0)) (eCons (eC (.int 9)) eNil))) (eCons (eTup (eCons (eC (.int 1)) (eCons (eC (.int 0)) eNil))) (eCons (eTup (eCons (eC (.int 1)) (eCons (eC (.int 0)) eNil))) eNil)))) (eCons (eLst true eNil) eNil)))
    (sSeq (sAsg (.name 3) (eLst false (eCons (eTup (eCons (eC (.str "r")) (eCons (eC (.int 0)) (eCons (eC (.int 1)) (eCons (eDisp false [((eC (.str "v")), (eTup (eCons (eC (.int 0)) (eCons (eC (.int 0)) eNil))))]) eNil))))) (eCons (eTup (eCons (eC (.str "r")) (eCons (eC (.int 1)) (eCons (eC (.int 2)) (eCons (eDisp false [((eC (.str "v")), (eTup (eCons (eC (.int 1)) (eCons (eC (.int 0)) eNil))))]) eNil))))) (eCons (eTup (eCons (eC (.str "r")) (eCons (eC (.int 1)) (eCons (eC (.int 2)) (eCons (eDisp false [((eC (.str "v")), (eTup (eCons (eC (.int 1)) (eCons (eC (.int 0)) eNil))))]) eNil))))) eNil)))))
    (sSeq (sAsg (.name 4) (eC (.str "r0 r5.0 w0 w3.1 r5.1 w3.0 r0 w0 r5.0 r5.1 r0 r5.0 r5.1 w3.1 w3.0 w- w-")))
    (sSeq (sExpr (eBm isLst vAppend (eVar 2) (eCons (eTup (eCons (eVar 0) (eCons (eVar 1) (eCons (eVar 4) (eCons (eVar 3) eNil))))) eNil)))
    (sSeq (sExpr (eBm isLst vAppend (eVar 2) (eCons (eTup (eCons (eVar 0) (eCons (eVar 1) (eCons (eC (.str "w0 w3.1 w3.0 w0 w3.1 w3.0 w- w-")) (eCons (eLst false eNil) eNil))))) eNil)))
    (sSeq (sAsg (.name 5) (eC (.str "flag f 3/register x/writer/step f/write x down/step f/reader r/look f as f/if f is 2")))
    (sSeq (sAsg (.name 4) (eC (.str "w0 w4 w5.0 w6 r0 r8 r9 r10 r8 w0 w4 r9 r10 r8 r9 r12.0")))
    (sSeq (sAsg (.name 3) (eLst false (eCons (eTup (eCons (eC (.str "r")) (eCons (eC (.int 1)) (eCons (eC (.int 2)) (eCons (eDisp false [((eC (.str "v")), (eTup (eCons (eC (.int 6)) eNil)))]) eNil))))) eNil)))
    (sSeq (sExpr (eBm isLst vAppend (eVar 2) (eCons (eTup (eCons (eBin (vAdd false) (eVar 5) (eC (.str "/again/end/read x up as v"))) (eCons (eLst false (eCons (eTup (eCons (eC (.int 5)) eNil)) (eCons (eTup (eCons (eC (.int 6)) eNil)) (eCons (eTup (eCons (eC (.int 7)) eNil)) eNil)))) (eCons (eVar 4) (eCons (eVar 3) eNil))))) eNil)))
    (sSeq (sAsg (.name 5) (eC (.str "flag f 2/register x/register y/writer/wait f 1/write x up/set f 0/reader r/read y up as v")))
    (sSeq (sAsg (.name 5) (eBin (vAdd false) (eVar 5) (eC (.str "/set f 1/reader q/wait f 1/read x down as u/if s is 0/else/again/end"))))
    (sSeq (sAsg (.name 4) (eC (.str "w0 w- q0 q- r0 r9.0 q- r10 q12 w5 q13.0 w6.0 q14 w7 w0 w-")))
    (sSeq (sAsg (.name 3) (eLst false (eCons (eTup (eCons (eC (.str "r")) (eCons (eC (.int 0)) (eCons (eC (.int 1)) (eCons (eDisp false [((eC (.str "v")), (eTup (eCons (eC (.int 4)) eNil)))]) eNil))))) (eCons (eTup (eCons (eC (.str "q")) (eCons (eC (.int 0)) (eCons (eC (.int 1)) (eCons (eDisp false [((eC (.str "u")), (eTup (eCons (eC (.int 4)) eNil)))]) eNil))))) eNil))))
    (sSeq (sExpr (eBm isLst vAppend (eVar 2) (eCons (eTup (eCons (eVar 5) (eCons (eLst false (eCons (eTup (eCons (eC (.int 4)) eNil)) (eCons (eTup (eCons (eC (.int 5)) eNil)) (eCons (eTup (eCons (eC (.int 9)) eNil)) eNil)))) (eCons (eVar 4) (eCons (eVar 3) eNil))))) eNil)))
    (sRet (eBin (vAdd false) (eVar 2) (eCall (arity P_more_cases.length S_more_cases) eNil))))))))))))))))))
theorem ok_cases {f : Addr} {fd : FuncData} (F : Fun K "_law_cases" "_law_cases" s_cases f fd) (C_more_cases : Dg.Cal P w K mg base (L2.CX P w) 1 "_law_more_cases" P_more_cases (spC K mg P_more_cases.length S_more_cases)) : FnT P w K mg base 2 f fd P_cases (spC0 K mg P_cases.length (fnOf N_cases.length m_cases)) :=
  fnT_ok (i := 0) (c := "register x/writer/write x up/reader r/read x down as v") F sc_cases rfl rfl rfl fun cdv A outer s H E hr => (css_cons (cs_par (i := 1) (j := 2) (by rfl) sc_cases.nd rfl rfl (by decide) rfl rfl (cas_cons (ce_lst false (cas_cons (ce_tup (cas_cons ce_int (cas_cons ce_int cas_nil))) (cas_cons (ce_tup (cas_cons ce_int (cas_cons ce_int cas_nil))) (cas_cons (ce_tup (cas_cons ce_int (cas_cons ce_int cas_nil))) cas_nil)))) (cas_cons (ce_lst true cas_nil) cas_nil)) (by rfl))
    (css_cons (cs_set 3 sc_cases.nd rfl (.inl rfl) (ce_lst false (cas_cons (ce_tup (cas_cons ce_str (cas_cons ce_int (cas_cons ce_int (cas_cons (ce_disp false (cps_cons ce_str (ce_tup (cas_cons ce_int (cas_cons ce_int cas_nil))) cps_nil) rfl rfl (by intro z; cases z) (by decide)) cas_nil))))) (cas_cons (ce_tup (cas_cons ce_str (cas_cons ce_int (cas_cons ce_int (cas_cons (ce_disp false (cps_cons ce_str (ce_tup (cas_cons ce_int (cas_cons ce_int cas_nil))) cps_nil) rfl rfl (by intro z; cases z) (by decide)) cas_nil))))) (cas_cons (ce_tup (cas_cons ce_str (cas_cons ce_int (cas_cons ce_int (cas_cons (ce_disp false (cps_cons ce_str (ce_tup (cas_cons ce_int (cas_cons ce_int cas_nil))) cps_nil) rfl rfl (by intro z; cases z) (by decide)) cas_nil))))) cas_nil)))))
    (css_cons (cs_set 4 sc_cases.nd rfl (.inl rfl) ce_str)
    (css_cons (cs_expr (ce_bm chk_lst am_append PySem.F.plainAttrs_list PySem.F.slot_list_append PySem.F.type_list_append mt_append (ce_var 2 (pv 2)) (cas_cons (ce_tup (cas_cons (ce_var 0 (pv 0)) (cas_cons (ce_var 1 (pv 1)) (cas_cons (ce_var 4 (pv 4)) (cas_cons (ce_var 3 (pv 3)) cas_nil))))) cas_nil)))
    (css_cons (cs_expr (ce_bm chk_lst am_append PySem.F.plainAttrs_list PySem.F.slot_list_append PySem.F.type_list_append mt_append (ce_var 2 (pv 2)) (cas_cons (ce_tup (cas_cons (ce_var 0 (pv 0)) (cas_cons (ce_var 1 (pv 1)) (cas_cons ce_str (cas_cons (ce_lst false cas_nil) cas_nil))))) cas_nil)))
    (css_cons (cs_set 5 sc_cases.nd rfl (.inl rfl) ce_str)
    (css_cons (cs_set 4 sc_cases.nd rfl (.inl rfl) ce_str)
    (css_cons (cs_set 3 sc_cases.nd rfl (.inl rfl) (ce_lst false (cas_cons (ce_tup (cas_cons ce_str (cas_cons ce_int (cas_cons ce_int (cas_cons (ce_disp false (cps_cons ce_str (ce_tup (cas_cons ce_int cas_nil)) cps_nil) rfl rfl (by intro z; cases z) (by decide)) cas_nil))))) cas_nil)))
    (css_cons (cs_expr (ce_bm chk_lst am_append PySem.F.plainAttrs_list PySem.F.slot_list_append PySem.F.type_list_append mt_append (ce_var 2 (pv 2)) (cas_cons (ce_tup (cas_cons (ce_add false (ce_var 5 (pv 5)) ce_str) (cas_cons (ce_lst false (cas_cons (ce_tup (cas_cons ce_int cas_nil)) (cas_cons (ce_tup (cas_cons ce_int cas_nil)) (cas_cons (ce_tup (cas_cons ce_int cas_nil)) cas_nil)))) (cas_cons (ce_var 4 (pv 4)) (cas_cons (ce_var 3 (pv 3)) cas_nil))))) cas_nil)))
    (css_cons (cs_set 5 sc_cases.nd rfl (.inl rfl) ce_str)
    (css_cons (cs_set 5 sc_cases.nd rfl (.inl rfl) (ce_add false (ce_var 5 (pv 5)) ce_str))
    (css_cons (cs_set 4 sc_cases.nd rfl (.inl rfl) ce_str)
    (css_cons (cs_set 3 sc_cases.nd rfl (.inl rfl) (ce_lst false (cas_cons (ce_tup (cas_cons ce_str (cas_cons ce_int (cas_cons ce_int (cas_cons (ce_disp false (cps_cons ce_str (ce_tup (cas_cons ce_int cas_nil)) cps_nil) rfl rfl (by intro z; cases z) (by decide)) cas_nil))))) (cas_cons (ce_tup (cas_cons ce_str (cas_cons ce_int (cas_cons ce_int (cas_cons (ce_disp false (cps_cons ce_str (ce_tup (cas_cons ce_int cas_nil)) cps_nil) rfl rfl (by intro z; cases z) (by decide)) cas_nil))))) cas_nil))))
    (css_cons (cs_expr (ce_bm chk_lst am_append PySem.F.plainAttrs_list PySem.F.slot_list_append PySem.F.type_list_append mt_append (ce_var 2 (pv 2)) (cas_cons (ce_tup (cas_cons (ce_var 5 (pv 5)) (cas_cons (ce_lst false (cas_cons (ce_tup (cas_cons ce_int cas_nil)) (cas_cons (ce_tup (cas_cons ce_int cas_nil)) (cas_cons (ce_tup (cas_cons ce_int cas_nil)) cas_nil)))) (cas_cons (ce_var 4 (pv 4)) (cas_cons (ce_var 3 (pv 3)) cas_nil))))) cas_nil)))
    (css_one (cs_ret (ce_add false (ce_var 2 (pv 2)) (ce_call0 C_more_cases takes0 (hr.mono (by decide)) (by rfl)))))))))))))))))))
def S_cases : FN := fnOf N_cases.length m_cases
abbrev s_law : Stmt := topS 71
abbrev N_law : List Str := ["script", "pen", "lines", "values", "text", "calls", "made", "steps", "actors", "told", "row"]
abbrev P_law : List Str := ["script"]
theorem sc_law : FnScope N_law P_law (defScope s_law) := ⟨rfl, rfl, rfl, by decide +kernel, rfl, by decide +kernel, by decide +kernel⟩
def m_law : MS :=
  (sSeq (sAsg (.name 1) (eCall (arity P_begun_pen.length S_begun_pen) (eCons (eVar 0) eNil)))
    (sSeq (sForT (iso S_cases) (.tup [(.name 2), (.name 3), (.name 4), (.name 5)]) (sSeq (sPar 6 7 (eCons (eMakeI "World" (arity P_World___init.length S_World___init) (eCons (eRepl "/" "\n" (eVar 2)) eNil)) (eCons (eCall (arity P_steps.length (iso S_steps)) (eCons (eVar 4) eNil)) eNil))) (sSeq (sAsg (.name 8) (eLcS false 7 [] (.name 10) [10] mYes (eBin vIx (eVar 10) (eC (.int 0)))))
        (sSeq (sIf (mBool (eBin vSameN (eMeth "World" "run" (arity P_World_run.length (iso S_World_run)) (eVar 6) (eCons (eVar 3) (eCons (eVar 8) eNil))) (eVar 5))) (sRet (eC (.bl false))) sNext)
        (sSeq (sIf (mBool (eBin vNeS (eCall vRepr (eCons (eListM false "World" "steps" P_World_steps.length (isoG S_World_steps) (eVar 6) (eCons (eVar 3) (eCons (eVar 8) eNil))) eNil)) (eCall vRepr (eCons (eVar 7) eNil)))) (sRet (eC (.bl false))) sNext)
        (sSeq (sAsg (.name 9) (eMeth "World" "run" (arity P_World_run.length (iso S_World_run)) (eVar 6) (eCons (eVar 3) (eCons (eSl false (eVar 8) eNoPart (ePart (eCall (arity P_draw.length S_draw) (eCons (eVar 1) (eCons (eBin (vAdd false) (eCall vLen (eCons (eVar 8) eNil)) (eC (.int 1))) eNil))))) eNil))))
        (sIf (mBool (eBin vSameN (eVar 9) (eSl false (eVar 5) eNoPart (ePart (eCall vLen (eCons (eVar 9) eNil)))))) (sRet (eC (.bl false))) sNext)))))))
    (sRet (eC (.bl true)))))
theorem ok_law {f : Addr} {fd : FuncData} (F : Fun K "law" "law" s_law f fd) (C_begun_pen : Dg.Cal P w K mg base (L2.CX P w) 1 "_law_begun_pen" P_begun_pen (spC K mg P_begun_pen.length S_begun_pen)) (C_steps : Dg.Cal P w K mg base (L2.CX P w) 2 "_law_steps" P_steps (spC K mg P_steps.length (iso S_steps))) (K_World : MakC P w K mg base 6 "World" P_World___init S_World___init) (M_World_run : MetC P w K mg base 6 "World" "run" P_World_run (iso S_World_run)) (MG_World_steps : MetG P w K mg base 6 "World" "steps" P_World_steps (isoG S_World_steps)) (B : Dg.Bi mg) (C_draw : Dg.Cal P w K mg base (L2.CX P w) 1 "_law_draw" P_draw (spC K mg P_draw.length S_draw)) (CT_cases : CalT P w K mg base 2 "_law_cases" (iso S_cases)) : Dg.FnG P w K mg base CX0 10 f fd P_law (spC0 K mg P_law.length (fnOf N_law.length m_law)) :=
  law_ok F sc_law fun cdv A outer s H E hgd hr => (css_cons (cs_set 1 sc_law.nd rfl (.inl rfl) (ce_call C_begun_pen takes0 (hr.mono (by decide)) (by rfl) (cas_cons (ce_var 0 (pv 0)) cas_nil)))
    (css_cons (cs_forT (t := (.tup [(.name 2), (.name 3), (.name 4), (.name 5)])) CT_cases PassesOwn.never rfl (hr.mono (by decide)) (by rfl) (tg_tup rfl (tgs_cons (tg_name 2 sc_law.nd rfl (.inl rfl)) (tgs_cons (tg_name 3 sc_law.nd rfl (.inl rfl)) (tgs_cons (tg_name 4 sc_law.nd rfl (.inl rfl)) (tgs_cons (tg_name 5 sc_law.nd rfl (.inl rfl)) tgs_nil))))) (csst_cons (cst_par (i := 6) (j := 7) (by rfl) sc_law.nd rfl rfl (by decide) rfl rfl (cat_cons (cet_makeI K_World takes0 (hr.mono (by decide)) (by rfl) (cat_cons (cet_repl (ce_var 2 (pv 2))) (cat_of cas_nil))) (cat_cons (cet_of (ce_call C_steps takes0 (hr.mono (by decide)) (by rfl) (cas_cons (ce_var 4 (pv 4)) cas_nil))) (cat_of cas_nil))) (by rfl)) (csst_of (css_cons (cs_setLcS (t := (.name 10)) (own := [("row", 10)]) (j := 8) false 7 [] (by rfl) sc_law.nd (pv 7) path_nil (blkOk_by (own := [("row", 10)]) (N := N_law) (sc := defScope s_law) (by decide +kernel)) (by decide) (fun _ _ _ _ _ => (tg_name 10 sc_law.nd rfl (by first | exact .inl rfl | exact .inr rfl))) (fun _ _ _ _ _ => cts_nil) (fun _ _ _ _ _ => (ce_ixr (Room.u1 hr) (ce_var 10 (pv 10)) ce_int (fun _ _ => rfl))) rfl rfl (sw_true rfl rfl rfl (by decide +kernel)))
        (css_cons (cs_if (ct_cmp (op_neS (Room.u64 hr)) ab_sameN (ce_meth M_World_run takes0 (hr.mono (by decide)) (ce_var 6 (pv 6)) (cas_cons (ce_var 3 (pv 3)) (cas_cons (ce_var 8 (pv 8)) cas_nil))) (ce_var 5 (pv 5)) (nomark _)) (css_one (cs_ret ce_bl)) css_nil)
        (css_cons (cs_if (ct_cmp op_ne ab_neS (ce_cb (fun h => pe_callB (Dg.cr_repr hgd (Room.u64 hr)) (by rfl) B.b_repr (by decide +kernel) h) an_repr (cas_cons (ce_listM false MG_World_steps (hr.mono (by decide)) (by rfl) B.b_list (by decide +kernel) (ce_var 6 (pv 6)) (cas_cons (ce_var 3 (pv 3)) (cas_cons (ce_var 8 (pv 8)) cas_nil))) cas_nil)) (ce_cb (fun h => pe_callB (Dg.cr_repr hgd (Room.u64 hr)) (by rfl) B.b_repr (by decide +kernel) h) an_repr (cas_cons (ce_var 7 (pv 7)) cas_nil)) (nomark _)) (css_one (cs_ret ce_bl)) css_nil)
        (css_cons (cs_set 9 sc_law.nd rfl (.inl rfl) (ce_meth M_World_run takes0 (hr.mono (by decide)) (ce_var 6 (pv 6)) (cas_cons (ce_var 3 (pv 3)) (cas_cons (ce_sl false (ce_var 8 (pv 8)) cpo_none (cpo_some (ce_call C_draw takes0 (hr.mono (by decide)) (by rfl) (cas_cons (ce_var 1 (pv 1)) (cas_cons (ce_add false (ce_cb (fun h => pe_callB call_len (by rfl) B.b_len (by decide +kernel) h) an_len (cas_cons (ce_var 8 (pv 8)) cas_nil)) ce_int) cas_nil))))) cas_nil))))
        (css_one (cs_if (ct_cmp (op_neS (Room.u64 hr)) ab_sameN (ce_var 9 (pv 9)) (ce_sl false (ce_var 5 (pv 5)) cpo_none (cpo_some (ce_cb (fun h => pe_callB call_len (by rfl) B.b_len (by decide +kernel) h) an_len (cas_cons (ce_var 9 (pv 9)) cas_nil)))) (nomark _)) (css_one (cs_ret ce_bl)) css_nil)))))))))
    (css_one (cs_ret ce_bl))))
def S_law : FN := fnOf N_law.length m_law
def b_law : MS :=
  (sSeq (sPar 6 7 (eCons (eMakeI "World" (arity P_World___init.length S_World___init) (eCons (eRepl "/" "\n" (eVar 2)) eNil)) (eCons (eCall (arity P_steps.length (iso S_steps)) (eCons (eVar 4) eNil)) eNil))) (sSeq (sAsg (.name 8) (eLcS false 7 [] (.name 10) [10] mYes (eBin vIx (eVar 10) (eC (.int 0)))))
        (sSeq (sIf (mBool (eBin vSameN (eMeth "World" "run" (arity P_World_run.length (iso S_World_run)) (eVar 6) (eCons (eVar 3) (eCons (eVar 8) eNil))) (eVar 5))) (sRet (eC (.bl false))) sNext)
        (sSeq (sIf (mBool (eBin vNeS (eCall vRepr (eCons (eListM false "World" "steps" P_World_steps.length (isoG S_World_steps) (eVar 6) (eCons (eVar 3) (eCons (eVar 8) eNil))) eNil)) (eCall vRepr (eCons (eVar 7) eNil)))) (sRet (eC (.bl false))) sNext)
        (sSeq (sAsg (.name 9) (eMeth "World" "run" (arity P_World_run.length (iso S_World_run)) (eVar 6) (eCons (eVar 3) (eCons (eSl false (eVar 8) eNoPart (ePart (eCall (arity P_draw.length S_draw) (eCons (eVar 1) (eCons (eBin (vAdd false) (eCall vLen (eCons (eVar 8) eNil)) (eC (.int 1))) eNil))))) eNil))))
        (sIf (mBool (eBin vSameN (eVar 9) (eSl false (eVar 5) eNoPart (ePart (eCall vLen (eCons (eVar 9) eNil)))))) (sRet (eC (.bl false))) sNext))))))
end
end Cl
namespace Cl
open PySem PySem.Spec PyProof.Rows L2
def penO (cs : List Int) (t l : Int) : AO := .dct [(.str "cells", .lst (cs.map .int)), (.str "turn", .int t), (.str "left", .int l)]
theorem get_cells (c t l : A) : kvGet [(A.str "cells", c), (A.str "turn", t), (A.str "left", l)] (.str "cells") = some c := rfl
theorem get_turn (c t l : A) : kvGet [(A.str "cells", c), (A.str "turn", t), (A.str "left", l)] (.str "turn") = some t := rfl
theorem get_left (c t l : A) : kvGet [(A.str "cells", c), (A.str "turn", t), (A.str "left", l)] (.str "left") = some l := rfl
theorem put_turn (c t l v : A) : kvPut [(A.str "cells", c), (A.str "turn", t), (A.str "left", l)] (.str "turn") v = [(A.str "cells", c), (A.str "turn", v), (A.str "left", l)] := rfl
theorem put_left (c t l v : A) : kvPut [(A.str "cells", c), (A.str "turn", t), (A.str "left", l)] (.str "left") v = [(A.str "cells", c), (A.str "turn", t), (A.str "left", v)] := rfl
theorem toDs_ints : ∀ cs : List Int, toDs (cs.map A.int) = some (cs.map PyData.int)
  | [] => rfl
  | c :: cs => by
    rw [List.map_cons, toDs, toDs_ints cs]
    rfl
theorem ne_nil (cs : List Int) (h : AH) : vEq true (.lst (cs.map .int)) (.lst []) h = .ok (.bl (!cs.isEmpty)) h := by
  unfold vEq
  have e1 : toDh h (.lst (cs.map A.int)) = some (.list (cs.map PyData.int)) := by
    show (toDs _).map _ = _
    rw [toDs_ints]; rfl
  have e2 : toDh h (.lst []) = some (.list []) := rfl
  rw [e1, e2]
  have s1 : SeqAt.shaped (.list (cs.map PyData.int)) = true := PySem.W.shaped_ints cs
  have s2 : SeqAt.shaped (.list []) = true := by decide
  simp only [s1, s2, Bool.and_self, if_true]
  cases cs <;> rfl
section
variable {h : AH} {n : Nat} {cs : List Int} {t l s : Int}
theorem ix_pen {k : A} (e : h[n]? = some (some (penO cs t l))) : vIx (.ref n) k h = if isKey k then (match kvGet [(A.str "cells", .lst (cs.map .int)), (A.str "turn", .int t), (A.str "left", .int l)] k with
  | some v => .ok v h
  | none => .bad) else .bad := by
  unfold vIx
  have : dctOf h (.ref n) = some [(A.str "cells", .lst (cs.map .int)), (A.str "turn", .int t), (A.str "left", .int l)] := by
    simp only [dctOf, e, penO]
  simp only [this] <;> rfl
theorem log2_lt {i : Int} (hi : i.natAbs < 1000000000000000000000000000000) : i.natAbs.log2 < 100 := by
  by_cases z : i.natAbs = 0
  · rw [z]; decide
  · exact (Nat.log2_lt z).mpr (Nat.lt_of_lt_of_le hi (by decide))
theorem mul_ok {i j : Int} (hi : i.natAbs < 1000000000000000000000000000000) (hj : j.natAbs < 1000000000000000000000000000000) : vMul false (.int i) (.int j) h = .ok (.int (i * j)) h := by
  show (if _ then _ else _) = _
  rw [if_pos]
  have := log2_lt hi
  have := log2_lt hj
  omega
theorem fdiv_ok {i : Int} (hs : 0 < s) (hs2 : s < 1000000000) : vFdiv (.int i) (.int s) h = .ok (.int (i / s)) h := by
  show (if _ then _ else _) = _
  rw [if_pos]
  refine decide_eq_true ⟨hs, ?_⟩
  have := log2_lt (i := s) (by omega)
  omega
theorem mod_ok {i : Int} (hs : 0 < s) : vMod (.int i) (.int s) h = .ok (.int (i % s)) h := by
  show (if _ then _ else _) = _
  rw [if_pos (decide_eq_true hs)]
theorem add_i {i j : Int} : vAdd false (.int i) (.int j) h = .ok (.int (i + j)) h := rfl
theorem len_ints : vLen [.lst (cs.map A.int)] h = .ok (.int cs.length) h := by
  show R.ok (A.int (cs.map A.int).length) h = _
  rw [List.length_map]
theorem ix_ints {i : Int} (h0 : 0 ≤ i) (h1 : i < cs.length) : ∃ c, vIx (.lst (cs.map A.int)) (.int i) h = .ok (.int c) h := by
  have e : ∃ c, atI (cs.map A.int) i = some (A.int c) := by
    obtain ⟨j, rfl⟩ := Int.eq_ofNat_of_zero_le h0
    have hj : j < cs.length := by omega
    exact ⟨cs[j], atI_nat (by rw [List.getElem?_map, List.getElem?_eq_getElem hj]; rfl)⟩
  obtain ⟨c, e⟩ := e
  refine ⟨c, ?_⟩
  show (match atI (cs.map A.int) i with | some v => R.ok v h | none => R.bad) = _
  rw [e]
theorem sub_pen {env : Env} {i : Nat} {k : Str} {x : A} {mv : M A} {l2 : List (A × A)} (e : h[n]? = some (some (penO cs t l))) (e0 : env[i]? = some (some (.ref n))) (ev : mv env h = .ok x h)
    (ep : kvPut [(A.str "cells", .lst (cs.map .int)), (A.str "turn", .int t), (A.str "left", .int l)] (.str k) x = l2) : sSub (eVar i) (eC (.str k)) mv env h = .nx env (h.set n (some (.dct l2))) := by
  unfold sSub
  rw [ev]
  simp only [v_st, v_var e0, v_c, e, penO, isKey, ep]
  rfl
theorem vx_left (e : h[n]? = some (some (penO cs t l))) : vIx (.ref n) (.str "left") h = .ok (.int l) h := ix_pen e
theorem vx_turn (e : h[n]? = some (some (penO cs t l))) : vIx (.ref n) (.str "turn") h = .ok (.int t) h := ix_pen e
theorem vx_cells (e : h[n]? = some (some (penO cs t l))) : vIx (.ref n) (.str "cells") h = .ok (.lst (cs.map .int)) h := ix_pen e
theorem draw_ok (e : h[n]? = some (some (penO cs t l))) (ht : 0 ≤ t) (ht2 : t < 1000000000) (hl : 0 ≤ l) (hs : 0 < s) (hs2 : s < 1000000000) :
    ∃ d t' l', S_draw [.ref n, .int s] h = .ok (.int d) (h.set n (some (penO cs t' l'))) ∧ 0 ≤ d ∧ d < s ∧ 0 ≤ t' ∧ t' ≤ t + 1 ∧ 0 ≤ l' := by
  have hn : n < h.length := (List.getElem?_eq_some_iff.mp e).1
  have start : S_draw [.ref n, .int s] h = bodyR (m_draw [some (.ref n), some (.int s), none, none, none, none] h) := rfl
  by_cases c : 0 < l
  · refine ⟨l % s, t, l / s, ?_, Int.emod_nonneg _ (Int.ne_of_gt hs), Int.emod_lt_of_pos _ hs, ht, Int.le_add_one (Int.le_refl _), Int.ediv_nonneg hl (Int.le_of_lt hs)⟩
    rw [start]
    unfold m_draw
    rw [v_seq, v_if, v_boolOk (k := true) (by simp only [v_bin, v_v0, v_c, v_bind, vx_left e, v_gt, c, decide_true]), v_st, if_pos rfl]
    rw [v_seq]
    simp only [v_a2, v_bin, v_call, v_cons, v_nil, v_v0, v_v1, v_v2, v_c, v_bind, vx_left e, v_int, mod_ok hs, v_st, v_sq, v_seq]
    rw [sub_pen e rfl (by simp only [v_bin, v_v0, v_v1, v_c, v_bind, vx_left e, fdiv_ok hs hs2]; rfl) (put_left _ _ _ _)]
    rfl
  · have c0 : l = 0 := by omega
    subst c0
    have e1 : (h.set n (some (penO cs (t + 1) 0)))[n]? = some (some (penO cs (t + 1) 0)) := by rw [List.getElem?_set_self hn]
    rw [start]
    unfold m_draw
    rw [v_seq, v_if, v_boolOk (k := false) (by simp only [v_bin, v_v0, v_c, v_bind, vx_left e, v_gt]; rfl), v_st, if_neg Bool.false_ne_true, v_nx, v_sq, v_seq]
    simp only [v_a3, v_bin, v_v0, v_c, v_bind, vx_turn e, v_st, v_sq, v_seq]
    rw [sub_pen e rfl (by simp only [v_bin, v_v3, v_c, v_bind, v_addI]; rfl) (put_turn _ _ _ _)]
    change ∃ d t' l', bodyR (SR1.sq (SR1.nx _ (h.set n (some (penO cs (t + 1) 0)))) _) = _ ∧ _
    rw [v_sq, v_seq]
    simp (disch := omega) only [v_a4, v_bin, v_v3, v_c, v_bind, mul_ok, v_addI, v_st, v_sq, v_seq]
    have cell : ∃ z : Int, (sIf (mBool (eBin (vEq true) (eBin vIx (eVar 0) (eC (.str "cells"))) (eLst false eNil))) (sAsg (.name 4) (eBin vIx (eBin vIx (eVar 0) (eC (.str "cells"))) (eBin vMod (eCall vInt (eCons (eVar 3) eNil)) (eCall vLen (eCons (eBin vIx (eVar 0) (eC (.str "cells"))) eNil))))) sNext)
        [some (.ref n), some (.int s), none, some (.int t), some (.int (61 * t + 13)), none] (h.set n (some (penO cs (t + 1) 0))) = .nx [some (.ref n), some (.int s), none, some (.int t), some (.int z), none] (h.set n (some (penO cs (t + 1) 0))) := by
      rw [v_if, v_boolOk (k := !cs.isEmpty) (by simp only [v_bin, v_v0, v_c, v_bind, vx_cells e1, v_lst0, ne_nil]), v_st]
      cases cs with
      | nil => exact ⟨_, rfl⟩
      | cons c0 cs =>
        have pos : (0 : Int) < (c0 :: cs).length := by rw [List.length_cons]; omega
        obtain ⟨z, ez⟩ := ix_ints (h := h.set n (some (penO (c0 :: cs) (t + 1) 0))) (cs := c0 :: cs) (i := t % (c0 :: cs).length) (Int.emod_nonneg _ (Int.ne_of_gt pos)) (Int.emod_lt_of_pos _ pos)
        refine ⟨z, ?_⟩
        rw [if_pos (by rfl)]
        simp only [v_a4, v_bin, v_v0, v_v3, v_c, v_bind, vx_cells e1, v_call, v_cons, v_nil, v_int, len_ints, mod_ok pos, ez, v_st]
    obtain ⟨z, ez⟩ := cell
    rw [ez]
    rw [v_sq, v_seq, v_if]
    have hset : ∀ x, (h.set n (some (penO cs (t + 1) 0))).set n x = h.set n x := fun x => List.set_set ..
    generalize hh : h.set n (some (penO cs (t + 1) 0)) = h1 at e1 hset
    have test : ∃ k, mAnd (mBool (eBin vLtT (eVar 3) (eCall vLen (eCons (eBin vIx (eVar 0) (eC (.str "cells"))) eNil)))) (mBool (eBin vGe (eCall vAbs (eCons (eVar 4) eNil)) (eBin vPow (eC (.int 10)) (eC (.int 18)))))
        [some (.ref n), some (.int s), none, some (.int t), some (.int z), none] h1 = .ok k h1 ∧ (k = true → 1000000000000000000 ≤ if z < 0 then -z else z) := by
      rw [v_and, v_boolOk (k := decide (t < cs.length)) (by simp only [v_bin, v_v3, v_v0, v_c, v_bind, vx_cells e1, v_call, v_cons, v_nil, len_ints, v_lt]), v_bind]
      by_cases d1 : t < cs.length
      · rw [if_pos (decide_eq_true d1), v_boolOk (k := decide (1000000000000000000 ≤ if z < 0 then -z else z)) (by simp only [v_bin, v_v4, v_call, v_cons, v_nil, v_abs, v_c, v_bind, v_pow18, v_ge])]
        exact ⟨_, rfl, of_decide_eq_true⟩
      · rw [if_neg (by simp [d1])]
        exact ⟨_, rfl, fun x => by cases x⟩
    obtain ⟨k, ek, hk⟩ := test
    rw [ek, v_st]
    cases k with
    | true =>
      have big := hk rfl
      refine ⟨((if z < 0 then -z else z) - 1000000000000000000) % s, t + 1, ((if z < 0 then -z else z) - 1000000000000000000) / s, ?_, Int.emod_nonneg _ (Int.ne_of_gt hs), Int.emod_lt_of_pos _ hs, by omega, Int.le_refl _, Int.ediv_nonneg (by omega) (Int.le_of_lt hs)⟩
      rw [if_pos rfl, v_seq, sub_pen e1 rfl (by simp only [v_bin, v_v4, v_v1, v_call, v_cons, v_nil, v_abs, v_c, v_bind, v_pow18, v_subI, fdiv_ok hs hs2]; rfl) (put_left _ _ _ _), v_sq]
      simp only [v_ret, v_bin, v_v4, v_v1, v_call, v_cons, v_nil, v_abs, v_int, v_c, v_bind, v_pow18, v_subI, mod_ok hs, v_st, v_sqR, v_bodyR]
      rw [hset]
      rfl
    | false =>
      rw [if_neg Bool.false_ne_true, v_nx, v_sq, v_seq]
      simp (disch := omega) only [v_a5, v_bin, v_v1, v_v3, v_v4, v_v5, v_c, v_bind, v_call, v_cons, v_nil, v_int, mul_ok, mod_ok, fdiv_ok, v_addI, v_st, v_sq, v_seq, v_ret, v_bodyR]
      refine ⟨_, t + 1, 0, by rw [← hh], Int.emod_nonneg _ (Int.ne_of_gt hs), Int.emod_lt_of_pos _ hs, by omega, Int.le_refl _, Int.le_refl _⟩
end
end Cl
namespace Cl
open PySem PySem.Spec PyProof.Rows L2
theorem isoR_h {r : R A} {a : A} {h0 h1 h : AH} (e : isoR r h0 = .ok a h1) : isoR r h = .ok a h := by
  unfold isoR at e ⊢
  split at e
  · split at e
    · rename_i b eb
      split at e
      · rename_i lo
        cases e
        simp only [eb, lo, if_true]
      · cases e
    · cases e
  · cases e
  · split at e <;> cases e
  · cases e
theorem iso_h {f : FN} {as : List A} {a : A} {h0 h1 h : AH} (e : iso f as h0 = .ok a h1) : iso f as h = .ok a h := by
  unfold iso at e ⊢
  split at e
  · rename_i lo
    rw [if_pos lo]
    exact isoR_h e
  · cases e
theorem mkIso_h {C : Str} {f : FN} {as : List A} {a : A} {h0 h1 h : AH} (e : mkIso C f as h0 = .ok a h1) : mkIso C f as h = .ok a h := by
  unfold mkIso at e ⊢
  split at e
  · rename_i lo
    rw [if_pos lo]
    exact isoR_h e
  · cases e
theorem isoG_h {f : List A → AH → R (List A)} {as ys : List A} {h0 h1 h : AH} (e : isoG f as h0 = .ok ys h1) : isoG f as h = .ok ys h := by
  unfold isoG at e ⊢
  split at e
  · rename_i lo
    rw [if_pos lo]
    unfold isoL at e ⊢
    split at e
    · split at e
      · rename_i zs ez
        split at e
        · rename_i lz
          cases e
          simp only [ez, lz, if_true]
        · cases e
      · cases e
    · cases e
  · cases e
def headsA : List A → Option (List A)
  | [] => some []
  | .tup (a :: _) :: r => (headsA r).map (a :: ·)
  | _ => none
theorem heads_ok {env : Env} {h : AH} {i : Nat} (hi : i < env.length) : ∀ {st as : List A}, headsA st = some as → lcL (.name i) mYes (eBin vIx (eVar i) (eC (.int 0))) env st h = .ok as h
  | [], as, e => by cases e; rfl
  | x :: r, as, e => by
    unfold headsA at e
    split at e
    · cases e; rename_i z; cases z
    · rename_i a xs r' z
      cases z
      obtain ⟨bs, eb, rfl⟩ := Option.map_eq_some_iff.mp e
      unfold lcL
      have put : Tg.put (.name i) (.tup (a :: xs)) env = some (env.set i (some (.tup (a :: xs)))) := by
        unfold Tg.put; rw [if_pos hi]
      simp only [put]
      have get : (env.set i (some (A.tup (a :: xs))))[i]? = some (some (.tup (a :: xs))) := List.getElem?_set_self hi
      have ix : vIx (.tup (a :: xs)) (.int 0) h = .ok a h := by
        show (match atI (a :: xs) 0 with | some v => R.ok v h | none => R.bad) = _
        have z : atI (a :: xs) 0 = some a := atI_nat (j := 0) (xs := a :: xs) (v := a) rfl
        rw [z]
      simp only [mYes, v_noer, v_bind, if_true, v_bin, v_var get, v_c, ix, heads_ok hi eb]
    · cases e
def reprOk (xs : List A) : Bool := match toDs xs with
  | some ds => (PyData.list ds).showable && !(PyData.list ds).hasDict && decide ((PyData.list ds).depth ≤ 60) && PyData.layable0 (.list ds) && (PyData.list ds).intsShort 13
  | none => false
theorem repr_ok {xs : List A} (e : reprOk xs = true) : ∃ x, ∀ h, vRepr [.lst xs] h = .ok (.str x) h := by
  unfold reprOk at e
  split at e
  · rename_i ds ed
    simp only [Bool.and_eq_true, Bool.not_eq_true', decide_eq_true_eq] at e
    obtain ⟨⟨⟨⟨e1, e2⟩, e3⟩, e4⟩, e5⟩ := e
    refine ⟨(PyData.list ds).shown, fun h => ?_⟩
    have t : toDh h (.lst xs) = some (.list ds) := by
      show (toDs xs).map PyData.list = _
      rw [ed]; rfl
    have l : (PyData.list ds).shown.length ≤ sizeLine := Nat.le_trans (PyProof.Rows.shown_le13 e4 e5) (by decide)
    unfold vRepr
    dsimp only
    rw [t]
    dsimp only
    rw [if_pos]
    simp only [isSeqA, e1, e2, e3, l, Bool.not_false, Bool.and_self, decide_true]
  · cases e
theorem ne_same {x : Str} {h : AH} : vNeS (.str x) (.str x) h = .ok (.bl false) h := by
  show R.ok (A.bl (!decide (x = x))) h = _
  rw [decide_eq_true rfl]
  rfl
theorem same_l {xs ys : List A} {h : AH} (e : sameL (sameA 40) xs ys = true) : vSameN (.lst xs) (.lst ys) h = .ok (.bl false) h := if_pos e
mutual
def eqA : A → A → Bool
  | .non, .non => true
  | .bl a, .bl b => a == b
  | .int a, .int b => decide (a = b)
  | .str a, .str b => decide (a = b)
  | .tup a, .tup b => eqAs a b
  | .lst a, .lst b => eqAs a b
  | .fn a, .fn b => decide (a = b)
  | _, _ => false
def eqAs : List A → List A → Bool
  | [], [] => true
  | a :: r, b :: t => eqA a b && eqAs r t
  | _, _ => false
end
mutual
theorem eqA_ok : ∀ {a b : A}, eqA a b = true → a = b
  | .non, b, e => by cases b <;> first | rfl | (unfold eqA at e; cases e)
  | .bl x, b, e => by cases b <;> first | (unfold eqA at e; rw [beq_iff_eq] at e; rw [e]; done) | (unfold eqA at e; cases e)
  | .int x, b, e => by cases b <;> first | (unfold eqA at e; rw [of_decide_eq_true e]; done) | (unfold eqA at e; cases e)
  | .str x, b, e => by cases b <;> first | (unfold eqA at e; rw [of_decide_eq_true e]; done) | (unfold eqA at e; cases e)
  | .fn x, b, e => by cases b <;> first | (unfold eqA at e; rw [of_decide_eq_true e]; done) | (unfold eqA at e; cases e)
  | .tup x, b, e => by cases b <;> first | (unfold eqA at e; rw [eqAs_ok e]; done) | (unfold eqA at e; cases e)
  | .lst x, b, e => by cases b <;> first | (unfold eqA at e; rw [eqAs_ok e]; done) | (unfold eqA at e; cases e)
  | .dct x, b, e => by cases b <;> (unfold eqA at e; cases e)
  | .obj x y, b, e => by cases b <;> (unfold eqA at e; cases e)
  | .ref x, b, e => by cases b <;> (unfold eqA at e; cases e)
  | .scr x, b, e => by cases b <;> (unfold eqA at e; cases e)
theorem eqAs_ok : ∀ {a b : List A}, eqAs a b = true → a = b
  | [], [], _ => rfl
  | [], _ :: _, e => by unfold eqAs at e; cases e
  | _ :: _, [], e => by unfold eqAs at e; cases e
  | a :: r, b :: t, e => by
    unfold eqAs at e
    rw [Bool.and_eq_true] at e
    rw [eqA_ok e.1, eqAs_ok e.2]
end
def bodyW : MS := sSeq (sExpr (eMeth "Run" "step" (arity P_Run_step.length S_Run_step) (eVar 4) (eCons (eVar 6) eNil)))
  (sIf (mBool (eBin (vIs true) (eFld cl_call "call" (eVar 4)) (eC .non))) (sExpr (eBm isLst vAppend (eVar 5) (eCons (eFld cl_call "call" (eVar 4)) eNil))) sNext)
def innerG (run told a : A) (h : AH) : R A :=
  (eMeth "Run" "step" (arity P_Run_step.length S_Run_step) (eC run) (eCons (eC a) eNil) [] h).bind fun _ h =>
  (mBool (eBin (vIs true) (eFld cl_call "call" (eC run)) (eC .non)) [] h).bind fun k h =>
  if k then eBm isLst vAppend (eC told) (eCons (eFld cl_call "call" (eC run)) eNil) [] h else .ok .non h
def stepG (run told a : A) (h : AH) : Option AH := match innerG run told a h with
  | .ok _ h' => some h'
  | _ => none
theorem bodyW_ok {run told a : A} {h h' : AH} {env : Env} (e4 : env[4]? = some (some run)) (e5 : env[5]? = some (some told)) (e6 : env[6]? = some (some a)) (e : stepG run told a h = some h') : bodyW env h = .nx env h' := by
  have k1 : ∀ h, eMeth "Run" "step" (arity P_Run_step.length S_Run_step) (eVar 4) (eCons (eVar 6) eNil) env h = eMeth "Run" "step" (arity P_Run_step.length S_Run_step) (eC run) (eCons (eC a) eNil) [] h := by
    intro h
    simp only [eMeth, eCons, eNil, eC, v_var e4, v_var e6]
  have k2 : ∀ h, mBool (eBin (vIs true) (eFld cl_call "call" (eVar 4)) (eC .non)) env h = mBool (eBin (vIs true) (eFld cl_call "call" (eC run)) (eC .non)) [] h := by
    intro h
    simp only [mBool, eBin, eFld, eC, v_var e4]
  have k3 : ∀ h, eBm isLst vAppend (eVar 5) (eCons (eFld cl_call "call" (eVar 4)) eNil) env h = eBm isLst vAppend (eC told) (eCons (eFld cl_call "call" (eC run)) eNil) [] h := by
    intro h
    simp only [eBm, eCons, eNil, eFld, eC, v_var e4, v_var e5]
  unfold stepG innerG at e
  unfold bodyW
  rw [v_seq, v_expr, k1]
  generalize eMeth "Run" "step" (arity P_Run_step.length S_Run_step) (eC run) (eCons (eC a) eNil) [] h = r1 at e ⊢
  cases r1 with
  | er c d h1 => cases e
  | bad => cases e
  | ok x h1 =>
    rw [v_st, v_sq, v_if, k2]
    rw [v_bind] at e
    generalize mBool (eBin (vIs true) (eFld cl_call "call" (eC run)) (eC .non)) [] h1 = r2 at e ⊢
    cases r2 with
    | er c d h1 => cases e
    | bad => cases e
    | ok k h2 =>
      rw [v_st]
      rw [v_bind] at e
      cases k with
      | false =>
        rw [if_neg Bool.false_ne_true] at e ⊢
        cases e
        rfl
      | true =>
        rw [if_pos rfl] at e ⊢
        rw [v_expr, k3]
        generalize eBm isLst vAppend (eC told) (eCons (eFld cl_call "call" (eC run)) eNil) [] h2 = r3 at e ⊢
        cases r3 with
        | er c d h1 => cases e
        | bad => cases e
        | ok y h3 =>
          cases e
          rfl
def okAt (told : A) (calls : List A) (h : AH) : Bool := match isoR (.ok told h) [] with
  | .ok (.lst xs) _ => decide (xs.length ≤ calls.length) && sameL (sameA 40) xs (calls.take xs.length)
  | _ => false
def scanG (run told : A) (calls : List A) : List A → AH → Bool
  | [], h => okAt told calls h
  | a :: r, h => okAt told calls h && match stepG run told a h with
    | some h' => scanG run told calls r h'
    | none => false
theorem scan_ok {run told : A} {calls : List A} : ∀ {acts : List A} {h : AH} {env : Env} (d : Nat), 6 < env.length → env[4]? = some (some run) → env[5]? = some (some told) → scanG run told calls acts h = true →
    ∃ env' h', forL (.name 6) bodyW (acts.take d) env h = .nx env' h' ∧ env'[5]? = some (some told) ∧ okAt told calls h' = true
  | [], h, env, d, hl, e4, e5, c => by
    rw [List.take_nil]
    exact ⟨env, h, rfl, e5, c⟩
  | a :: r, h, env, 0, hl, e4, e5, c => by
    unfold scanG at c
    rw [Bool.and_eq_true] at c
    exact ⟨env, h, rfl, e5, c.1⟩
  | a :: r, h, env, d + 1, hl, e4, e5, c => by
    unfold scanG at c
    rw [Bool.and_eq_true] at c
    obtain ⟨_, c⟩ := c
    split at c
    · rename_i h1 es
      have g4 : (env.set 6 (some a))[4]? = some (some run) := by rw [List.getElem?_set_ne (by decide)]; exact e4
      have g5 : (env.set 6 (some a))[5]? = some (some told) := by rw [List.getElem?_set_ne (by decide)]; exact e5
      have g6 : (env.set 6 (some a))[6]? = some (some a) := List.getElem?_set_self hl
      obtain ⟨env', h', a1, a2, a3⟩ := scan_ok (env := env.set 6 (some a)) d (by rw [List.length_set]; exact hl) g4 g5 c
      refine ⟨env', h', ?_, a2, a3⟩
      rw [List.take_succ_cons]
      unfold forL
      have put : Tg.put (.name 6) a env = some (env.set 6 (some a)) := by
        unfold Tg.put; rw [if_pos hl]
      rw [put]
      dsimp only
      rw [bodyW_ok g4 g5 g6 es]
      exact a1
    · cases c
def setupG (made vals : A) : R A := eMake "Run" (arity P_Run___init.length S_Run___init) (eCons (eFld cl_layout "layout" (eC made)) (eCons (eCall (arity P_checked_values.length S_checked_values) (eCons (eC vals) eNil)) eNil)) [] []
def actsG (made : A) (acts : List A) : Bool := match eCall (arity P_checked_actors.length S_checked_actors) (eCons (eFld cl_layout "layout" (eC made)) (eCons (eC (.lst acts)) eNil)) [] [] with
  | .ok (.lst xs) [] => eqAs xs acts
  | _ => false
theorem prefix_ok {made vals run : A} {calls acts : List A} {h : AH} {d : Nat} (es : setupG made vals = .ok run h) (sc : scanG run (.ref h.length) calls acts (h ++ [some (.lst [])]) = true) (ea : actsG made (acts.take d) = true) (lo : lows 0 [made, vals, .lst (acts.take d)] = true) :
    ∃ xs h', iso S_World_run [made, vals, .lst (acts.take d)] [] = .ok (.lst xs) h' ∧ xs.length ≤ calls.length ∧ sameL (sameA 40) xs (calls.take xs.length) = true := by
  have e1 : ∀ env : Env, env[0]? = some (some made) → env[2]? = some (some (.lst (acts.take d))) → eCall (arity P_checked_actors.length S_checked_actors) (eCons (eFld cl_layout "layout" (eVar 0)) (eCons (eVar 2) eNil)) env [] = .ok (.lst (acts.take d)) [] := by
    intro env g0 g2
    have : eCall (arity P_checked_actors.length S_checked_actors) (eCons (eFld cl_layout "layout" (eVar 0)) (eCons (eVar 2) eNil)) env [] = eCall (arity P_checked_actors.length S_checked_actors) (eCons (eFld cl_layout "layout" (eC made)) (eCons (eC (.lst (acts.take d))) eNil)) [] [] := by
      simp only [eCall, eCons, eNil, eFld, eC, v_var g0, v_var g2]
    rw [this]
    unfold actsG at ea
    split at ea
    · rename_i xs e
      rw [e, eqAs_ok ea]
    · cases ea
  have e2 : ∀ env : Env, env[0]? = some (some made) → env[1]? = some (some vals) → eMake "Run" (arity P_Run___init.length S_Run___init) (eCons (eFld cl_layout "layout" (eVar 0)) (eCons (eCall (arity P_checked_values.length S_checked_values) (eCons (eVar 1) eNil)) eNil)) env [] = .ok run h := by
    intro env g0 g1
    rw [← es]
    unfold setupG
    simp only [eMake, eCall, eCons, eNil, eFld, eC, v_var g0, v_var g1]
  obtain ⟨env', h', f1, f2, f3⟩ := scan_ok (env := [some made, some vals, some (.lst (acts.take d)), some (.lst (acts.take d)), some run, some (.ref h.length), none]) d (by show 6 < 7; omega) rfl rfl sc
  have run_is : S_World_run [made, vals, .lst (acts.take d)] [] = .ok (.ref h.length) h' := by
    show bodyR (m_World_run [some made, some vals, some (.lst (acts.take d)), none, none, none, none] []) = _
    unfold m_World_run
    rw [v_seq, v_a3, e1 _ rfl rfl, v_st, v_sq, v_seq, v_a4, e2 _ rfl rfl, v_st, v_sq, v_seq, v_a5, v_lst, v_nil, v_bind, if_pos (by decide), v_mkLt, v_st, v_sq, v_seq]
    have loop : sForS (.name 6) (eVar 3) bodyW [some made, some vals, some (.lst (acts.take d)), some (.lst (acts.take d)), some run, some (.ref h.length), none] (h ++ [some (.lst [])]) = .nx env' h' := f1
    have same : ∀ x y, sForS (.name 6) (eVar 3) (sSeq (sExpr (eMeth "Run" "step" (arity P_Run_step.length S_Run_step) (eVar 4) (eCons (eVar 6) eNil)))
        (sIf (mBool (eBin (vIs true) (eFld cl_call "call" (eVar 4)) (eC .non))) (sExpr (eBm isLst vAppend (eVar 5) (eCons (eFld cl_call "call" (eVar 4)) eNil))) sNext)) x y = sForS (.name 6) (eVar 3) bodyW x y := fun _ _ => rfl
    rw [same, loop, v_sq, v_ret, v_var f2, v_st]
    rfl
  unfold okAt at f3
  split at f3
  · rename_i xs h2 ex
    rw [Bool.and_eq_true, decide_eq_true_eq] at f3
    refine ⟨xs, h2, ?_, f3.1, f3.2⟩
    unfold iso
    rw [if_pos lo, run_is]
    exact ex
  · cases f3
abbrev mkW (x : Str) : R A := mkIso "World" (arity P_World___init.length S_World___init) [.str x] []
abbrev runW (made vals : A) (acts : List A) : R A := iso S_World_run [made, vals, .lst acts] []
def isRun (r : R A) (calls : List A) : Bool := match r with
  | .ok (.lst xs) _ => sameL (sameA 40) xs calls
  | _ => false
def chkScan (made vals : A) (calls acts : List A) : Bool := match setupG made vals with
  | .ok run h => scanG run (.ref h.length) calls acts (h ++ [some (.lst [])])
  | _ => false
def chkActs (made vals : A) (st calls acts : List A) : Bool :=
  decide (acts.length ≤ 1000) && isRun (runW made vals acts) calls && (match isoG S_World_steps [made, vals, .lst acts] [] with
    | .ok ys _ => eqAs ys st && reprOk st
    | _ => false) && (chkScan made vals calls acts && (List.range (acts.length + 1)).all fun d => lows 0 [made, vals, .lst (acts.take d)] && actsG made (acts.take d))
def chkRow : A → Bool
  | .tup [.str lines, vals, .str text, .lst calls] => decide (lines.length ≤ 1000) && match mkW (Txt.replace lines "/" "\n"), iso S_steps [.str text] [] with
    | .ok (.obj C fs) _, .ok (.lst st) _ => decide (C = "World") && (fs.lookup ("run" : Str)).isNone && (fs.lookup ("steps" : Str)).isNone && decide (st.length ≤ lim) && match headsA st with
      | some acts => chkActs (.obj C fs) vals st calls acts
      | none => false
    | _, _ => false
  | _ => false
end Cl
namespace Cl
open PySem PySem.Spec PyProof.Rows L2
theorem ar_st {f : FN} {a : A} {h : AH} : arity P_steps.length f [a] h = f [a] h := rfl
theorem ar_run {f : FN} {a b c : A} {h : AH} : arity P_World_run.length f [a, b, c] h = f [a, b, c] h := rfl
theorem ar_draw {f : FN} {a b : A} {h : AH} : arity P_draw.length f [a, b] h = f [a, b] h := rfl
theorem ar_gen {a b : A} {x y : R A} : (if [a, b].length + 1 = P_World_steps.length then x else y) = x := rfl
theorem body_ok {row : A} (c : chkRow row = true) {h : AH} {env env1 : Env} {cs : List Int} {t : Int} {l : Int} (hp : h = [some (penO cs t l)]) (hl : env.length = 11) (pen : env[1]? = some (some (.ref 0))) (ht : 0 ≤ t) (ht2 : t < 1000) (hl0 : 0 ≤ l) (put : Tg.put (.tup [(.name 2), (.name 3), (.name 4), (.name 5)]) row env = some env1) :
    ∃ env' t' l', b_law env1 h = .nx env' [some (penO cs t' l')] ∧ env'.length = 11 ∧ env'[1]? = some (some (.ref 0)) ∧ 0 ≤ t' ∧ t' ≤ t + 1 ∧ 0 ≤ l' := by
  match env, hl with
  | [e0, e1, e2, e3, e4, e5, e6, e7, e8, e9, e10], _ =>
  obtain rfl : e1 = some (.ref 0) := by simpa using pen
  unfold chkRow at c
  split at c
  · rename_i lines vals text calls
    obtain rfl : [e0, some (.ref 0), some (.str lines), some vals, some (.str text), some (.lst calls), e6, e7, e8, e9, e10] = env1 := by
      simpa [Tg.put, Tg.puts] using put
    rw [Bool.and_eq_true, decide_eq_true_eq] at c
    obtain ⟨c1, c⟩ := c
    split at c
    · rename_i C fs h1 st h2 em es
      simp only [Bool.and_eq_true, decide_eq_true_eq] at c
      obtain ⟨⟨⟨⟨rfl, c2⟩, c3⟩, c4⟩, c⟩ := c
      split at c
      · rename_i acts ea
        unfold chkActs at c
        simp only [Bool.and_eq_true, decide_eq_true_eq] at c
        obtain ⟨⟨⟨c5, c6⟩, c7⟩, c8⟩ := c
        unfold isRun at c6
        split at c6
        · rename_i told h3 et
          split at c7
          · rename_i ys h4 ey
            · simp only [Bool.and_eq_true] at c7
              obtain ⟨x, ex⟩ := repr_ok c7.2
              rw [eqAs_ok c7.1] at ey
              have em' : ∀ h, mkIso "World" (arity P_World___init.length S_World___init) [.str (Txt.replace lines "/" "\n")] h = .ok (.obj "World" fs) h := fun _ => mkIso_h em
              have es' : ∀ h, iso S_steps [.str text] h = .ok (.lst st) h := fun _ => iso_h es
              have et' : ∀ h, iso S_World_run [.obj "World" fs, vals, .lst acts] h = .ok (.lst told) h := fun _ => iso_h et
              have ey' : ∀ h, isoG S_World_steps [.obj "World" fs, vals, .lst acts] h = .ok st h := fun _ => isoG_h ey
              have acts_ok : ∀ (e6 e7 e8 e9 e10 : Option A) (h : AH), eLcS false 7 [] (.name 10) [10] mYes (eBin vIx (eVar 10) (eC (.int 0))) [e0, some (.ref 0), some (.str lines), some vals, some (.str text), some (.lst calls), e6, some (.lst st), e8, e9, e10] h = .ok (.lst acts) h := by
                intro e6 e7 e8 e9 e10 h
                show (if st.length ≤ lim then (lcL (.name 10) mYes (eBin vIx (eVar 10) (eC (.int 0))) [e0, some (.ref 0), some (.str lines), some vals, some (.str text), some (.lst calls), e6, some (.lst st), e8, e9, none] st h).bind fun ys h => mkL false ys h else R.bad).noer = _
                rw [if_pos c4, heads_ok (by show 10 < 11; omega) ea]
                rfl
              subst hp
              obtain ⟨d, t', l', ed, d0, d1, t0, t1, l0⟩ := draw_ok (h := [some (penO cs t l)]) (n := 0) (cs := cs) (t := t) (l := l) (s := (acts.length : Int) + 1) rfl ht (by omega) hl0 (by omega) (by omega)
              obtain ⟨k, rfl⟩ := Int.eq_ofNat_of_zero_le d0
              have kle : k ≤ acts.length := by omega
              have part := List.all_eq_true.mp c8.2 k (List.mem_range.mpr (by omega))
              rw [Bool.and_eq_true] at part
              have scan := c8.1
              unfold chkScan at scan
              split at scan
              · rename_i run h5 es5
                obtain ⟨xs, h6, ex5, p1, p2⟩ := prefix_ok es5 scan part.2 part.1
                have ex5' : ∀ h, iso S_World_run [.obj "World" fs, vals, .lst (acts.take k)] h = .ok (.lst xs) h := fun _ => iso_h ex5
                have cut1 : cutA acts none (some (k : Int)) = acts.take k := cutA_take acts k kle
                have cut2 : cutA calls none (some (xs.length : Int)) = calls.take xs.length := cutA_take calls xs.length p1
                have ar1 : ∀ (as : List A) (h : AH) (f : FN), as.length = P_steps.length → arity P_steps.length f as h = f as h := fun as h f e => v_arity e
                refine ⟨[e0, some (.ref 0), some (.str lines), some vals, some (.str text), some (.lst calls), some (.obj "World" fs), some (.lst st), some (.lst acts), some (.lst xs), e10], t', l', ?_, rfl, rfl, t0, t1, l0⟩
                unfold b_law
                rw [v_seq, v_par, v_cons, v_makeI, v_cons, v_repl (x := lines) v_v2 (by show lines.length + (lines.length + 1) * 1 ≤ 16777216; omega), v_bind, v_nil, v_bind, v_bind, em', v_bind]
                rw [v_cons, v_call, v_cons, v_v4, v_bind, v_nil, v_bind, v_bind, ar_st, es', v_bind, v_nil, v_bind, v_bind, v_st]
                show SR1.sq (SR1.nx [e0, some (.ref 0), some (.str lines), some vals, some (.str text), some (.lst calls), some (.obj "World" fs), some (.lst st), e8, e9, e10] [some (penO cs t l)]) _ = _
                rw [v_sq, v_seq, v_a8, acts_ok _ e7, v_st, v_sq, v_seq, v_if]
                rw [v_boolOk (k := false) (by rw [v_bin, v_meth v_v6 c2, v_cons, v_v3, v_bind, v_cons, v_v8, v_bind, v_nil, v_bind, v_bind, v_bind, ar_run, et', v_bind, v_v5, v_bind, same_l c6]), v_st, if_neg Bool.false_ne_true, v_nx, v_sq, v_seq, v_if]
                rw [v_boolOk (k := false) (by rw [v_bin, v_call, v_cons, v_listM v_v6 c3, v_cons, v_v3, v_bind, v_cons, v_v8, v_bind, v_nil, v_bind, v_bind, v_bind, ar_gen, ey', v_noer, v_bind, v_mkL, v_bind, v_nil, v_bind, v_bind, ex, v_bind, v_call, v_cons, v_v7, v_bind, v_nil, v_bind, v_bind, ex, v_bind, ne_same]), v_st, if_neg Bool.false_ne_true, v_nx, v_sq, v_seq]
                rw [v_a9, v_meth v_v6 c2, v_cons, v_v3, v_bind, v_cons, v_sl, v_v8, v_bind, v_nopart, v_bind, v_part, v_call, v_cons, v_v1, v_bind, v_cons, v_bin, v_call, v_cons, v_v8, v_bind, v_nil, v_bind, v_bind, v_lenL, v_bind, v_c, v_bind, v_addI, v_bind, v_nil, v_bind, v_bind, v_bind, ar_draw, ed, v_bind, v_bind, v_slL, cut1, v_bind, v_nil, v_bind, v_bind, v_bind, ar_run, ex5', v_st, v_sq, v_if]
                rw [v_boolOk (k := false) (by rw [v_bin, v_v9, v_bind, v_sl, v_v5, v_bind, v_nopart, v_bind, v_part, v_call, v_cons, v_v9, v_bind, v_nil, v_bind, v_bind, v_lenL, v_bind, v_bind, v_slL, cut2, v_bind, same_l p2]), v_st, if_neg Bool.false_ne_true, v_nx]
                rfl
              · cases scan
          · cases c7
        · cases c6
      · cases c
    · cases c
  · cases c
end Cl
namespace Cl
open PySem PySem.Spec PyProof.Rows L2
def rowsA : List A := match iso S_cases [] [] with
  | .ok (.lst xs) _ => xs
  | _ => []
def isRows : R A → Bool
  | .ok (.lst _) _ => true
  | _ => false
theorem rows_is : isRows (iso S_cases [] []) = true := by decide +kernel
theorem rows_n : rowsA.length = 12 := by decide +kernel
end Cl
namespace Cl
open PySem PySem.Spec PyProof.Rows L2
def cutA' (xs : List Int) (lo hi : Option Int) : List Int := (xs.drop (HT.sIx xs.length 0 lo)).take (HT.sIx xs.length xs.length hi - HT.sIx xs.length 0 lo)
theorem cut_map (ns : List Int) (a b : Option Int) : cutA (ns.map A.int) a b = (cutA' ns a b).map A.int := by
  unfold cutA cutA'
  simp only [List.length_map, List.map_take, List.map_drop]
theorem begun_ok (ns : List Int) : ∃ cs, S_begun_pen [.scr (ns.map .int)] [] = .ok (.ref 0) [some (penO cs 0 0)] := by
  refine ⟨cutA' ns none (some 63), ?_⟩
  show bodyR (m_begun_pen [some (.scr (ns.map .int))] []) = _
  unfold m_begun_pen
  rw [v_ret]
  have e : eCall (vList false) (eCons (eSl false (eVar 0) eNoPart (ePart (eC (.int 63)))) eNil) [some (.scr (ns.map .int))] [] = .ok (.lst ((cutA' ns none (some 63)).map .int)) [] := by
    rw [v_call, v_cons, v_sl, v_v0, v_bind, v_nopart, v_bind, v_part, v_c, v_bind, v_bind]
    show ((mkL false (cutA (ns.map A.int) none (some 63)) []).bind _).bind _ = _
    rw [cut_map]
    rfl
  unfold eDisp
  simp only [pairsM, e, v_c, v_noer, v_bind]
  rfl
theorem loop_ok : ∀ {rows : List A} {env : Env} {cs : List Int} {t l : Int}, rows.all chkRow = true → env.length = 11 → env[1]? = some (some (.ref 0)) → 0 ≤ t → t + rows.length < 1000 → 0 ≤ l →
    ∃ env' h', forL (.tup [(.name 2), (.name 3), (.name 4), (.name 5)]) b_law rows env [some (penO cs t l)] = .nx env' h'
  | [], env, cs, t, l, _, _, _, _, _, _ => ⟨_, _, rfl⟩
  | r :: rows, env, cs, t, l, hc, hl, pen, ht, ht2, hl0 => by
    rw [List.all_cons, Bool.and_eq_true] at hc
    rw [List.length_cons] at ht2
    have put : ∃ env1, Tg.put (.tup [(.name 2), (.name 3), (.name 4), (.name 5)]) r env = some env1 := by
      match env, hl with
      | [e0, e1, e2, e3, e4, e5, e6, e7, e8, e9, e10], _ =>
      have c := hc.1
      unfold chkRow at c
      split at c
      · exact ⟨_, rfl⟩
      · cases c
    obtain ⟨env1, put⟩ := put
    obtain ⟨env', t', l', eb, k1, k2, k3, k4, k5⟩ := body_ok hc.1 rfl hl pen ht (by omega) hl0 put
    unfold forL
    rw [put]
    dsimp only
    rw [eb]
    exact loop_ok hc.2 k1 k2 k3 (by omega) k5
theorem law_true (all : rowsA.all chkRow = true) (ns : List Int) : ∃ h', S_law [.scr (ns.map .int)] [] = .ok (.bl true) h' := by
  obtain ⟨cs, eb⟩ := begun_ok ns
  obtain ⟨env', h', el⟩ := loop_ok (env := [some (.scr (ns.map .int)), some (.ref 0), none, none, none, none, none, none, none, none, none]) (cs := cs) (t := 0) (l := 0) all rfl rfl (Int.le_refl _) (by rw [rows_n]; decide) (Int.le_refl _)
  refine ⟨h', ?_⟩
  show bodyR (m_law [some (.scr (ns.map .int)), none, none, none, none, none, none, none, none, none, none] []) = _
  have er : ∀ h, iso S_cases [] h = .ok (.lst rowsA) h := by
    intro h
    have z := rows_is
    unfold rowsA
    unfold isRows at z
    split at z
    · rename_i xs h1 e
      exact iso_h e
    · cases z
  have ef : ∀ env h, sForT (iso S_cases) (.tup [(.name 2), (.name 3), (.name 4), (.name 5)]) b_law env h = forL (.tup [(.name 2), (.name 3), (.name 4), (.name 5)]) b_law rowsA env h := by
    intro env h
    unfold sForT
    have : arity 0 (iso S_cases) [] h = .ok (.lst rowsA) h := er h
    rw [this]
    rfl
  unfold m_law
  rw [v_seq, v_a1, v_call, v_cons, v_v0, v_bind, v_nil, v_bind, v_bind]
  show bodyR (SR1.sq ((S_begun_pen [.scr (ns.map .int)] []).st _ _) _) = _
  rw [eb, v_st, v_sq, v_seq]
  show bodyR (SR1.sq (sForT (iso S_cases) (.tup [(.name 2), (.name 3), (.name 4), (.name 5)]) b_law _ _) _) = _
  rw [ef, el, v_sq]
  rfl
theorem law_true2 (all : rowsA.all chkRow = true) (ns : List Int) : ∃ h', fnOf N_law.length m_law [.scr (ns.map .int)] [] = .ok (.bl true) h' := by
  have z := law_true all ns
  unfold S_law at z
  exact z
end Cl
namespace Cl
open PySem PySem.Spec PyProof.Rows L2
def atChk (xs : List A) (i : Nat) : Bool := match xs[i]? with
  | some r => chkRow r
  | none => false
theorem all_of (xs : List A) (n : Nat) (hn : xs.length = n) (h : ∀ i, i < n → atChk xs i = true) : xs.all chkRow = true := by
  rw [List.all_eq_true]
  intro r hr
  obtain ⟨i, hi, e⟩ := List.mem_iff_getElem.mp hr
  have z := h i (by rw [← hn]; exact hi)
  unfold atChk at z
  rw [List.getElem?_eq_getElem hi, e] at z
  exact z
theorem row_0 : atChk rowsA 0 = true := by decide +kernel
theorem row_1 : atChk rowsA 1 = true := by decide +kernel
theorem row_2 : atChk rowsA 2 = true := by decide +kernel
theorem row_3 : atChk rowsA 3 = true := by decide +kernel
theorem row_4 : atChk rowsA 4 = true := by decide +kernel
theorem row_5 : atChk rowsA 5 = true := by decide +kernel
theorem row_6 : atChk rowsA 6 = true := by decide +kernel
theorem row_7 : atChk rowsA 7 = true := by decide +kernel
theorem row_8 : atChk rowsA 8 = true := by decide +kernel
theorem row_9 : atChk rowsA 9 = true := by decide +kernel
theorem row_10 : atChk rowsA 10 = true := by decide +kernel
theorem row_11 : atChk rowsA 11 = true := by decide +kernel
theorem rows_all : rowsA.all chkRow = true := all_of rowsA 12 rows_n fun i hi => match i, hi with
  | 0, _ => row_0
  | 1, _ => row_1
  | 2, _ => row_2
  | 3, _ => row_3
  | 4, _ => row_4
  | 5, _ => row_5
  | 6, _ => row_6
  | 7, _ => row_7
  | 8, _ => row_8
  | 9, _ => row_9
  | 10, _ => row_10
  | 11, _ => row_11
  | n + 12, h => absurd h (by omega)
end Cl
namespace Cl
open PySem PySem.Spec PyProof.Rows L2
section
variable {P : Program} {w : World} {K : PySem.W.Frag} {mg : Str → Option Value} {base : Heap}
abbrev s_BadWorld___init : Stmt := inClass (topS 3) 0
abbrev N_BadWorld___init : List Str := ["self", "line"]
abbrev P_BadWorld___init : List Str := ["self", "line"]
theorem sc_BadWorld___init : FnScope N_BadWorld___init P_BadWorld___init (defScope s_BadWorld___init) := ⟨rfl, rfl, rfl, by decide +kernel, rfl, by decide +kernel, by decide +kernel⟩
theorem ok_init_BadWorld {f C : Addr} {fd : FuncData} (F : Fun K "__init__" "BadWorld.__init__" s_BadWorld___init f fd) (T : OexC K C) (no : PySem.W.findIn K (.ref C) "line" = some none) : FnOk P w K mg base CX0 1 f fd ["self", "line"] (Dg.spFld C "line") := by
  refine F.ok sc_BadWorld___init (fun vs H Q E h => ?_) (fun cdv A outer s H vs Q E hr h => ?_)
  · obtain ⟨a, v, rfl, _⟩ := h
    rfl
  · obtain ⟨a, v, rfl, ha, q⟩ := h
    refine ⟨_, pss_one (ps_ost (pv 0) (pv 1)), ?_⟩
    exact ⟨_, rfl, _, rfl, a, C, rfl, T, no, .inl ⟨ha, fun dx nd ne => q dx nd ne⟩⟩
abbrev s_BadValues___init : Stmt := inClass (topS 4) 0
abbrev N_BadValues___init : List Str := ["self", "index"]
abbrev P_BadValues___init : List Str := ["self", "index"]
theorem sc_BadValues___init : FnScope N_BadValues___init P_BadValues___init (defScope s_BadValues___init) := ⟨rfl, rfl, rfl, by decide +kernel, rfl, by decide +kernel, by decide +kernel⟩
theorem ok_init_BadValues {f C : Addr} {fd : FuncData} (F : Fun K "__init__" "BadValues.__init__" s_BadValues___init f fd) (T : OexC K C) (no : PySem.W.findIn K (.ref C) "index" = some none) : FnOk P w K mg base CX0 1 f fd ["self", "index"] (Dg.spFld C "index") := by
  refine F.ok sc_BadValues___init (fun vs H Q E h => ?_) (fun cdv A outer s H vs Q E hr h => ?_)
  · obtain ⟨a, v, rfl, _⟩ := h
    rfl
  · obtain ⟨a, v, rfl, ha, q⟩ := h
    refine ⟨_, pss_one (ps_ost (pv 0) (pv 1)), ?_⟩
    exact ⟨_, rfl, _, rfl, a, C, rfl, T, no, .inl ⟨ha, fun dx nd ne => q dx nd ne⟩⟩
abbrev s_NoActor___init : Stmt := inClass (topS 5) 0
abbrev N_NoActor___init : List Str := ["self", "name"]
abbrev P_NoActor___init : List Str := ["self", "name"]
theorem sc_NoActor___init : FnScope N_NoActor___init P_NoActor___init (defScope s_NoActor___init) := ⟨rfl, rfl, rfl, by decide +kernel, rfl, by decide +kernel, by decide +kernel⟩
theorem ok_init_NoActor {f C : Addr} {fd : FuncData} (F : Fun K "__init__" "NoActor.__init__" s_NoActor___init f fd) (T : OexC K C) (no : PySem.W.findIn K (.ref C) "name" = some none) : FnOk P w K mg base CX0 1 f fd ["self", "name"] (Dg.spFld C "name") := by
  refine F.ok sc_NoActor___init (fun vs H Q E h => ?_) (fun cdv A outer s H vs Q E hr h => ?_)
  · obtain ⟨a, v, rfl, _⟩ := h
    rfl
  · obtain ⟨a, v, rfl, ha, q⟩ := h
    refine ⟨_, pss_one (ps_ost (pv 0) (pv 1)), ?_⟩
    exact ⟨_, rfl, _, rfl, a, C, rfl, T, no, .inl ⟨ha, fun dx nd ne => q dx nd ne⟩⟩
end
set_option maxHeartbeats 0 in
theorem all_mk {P : Program} {w : World} {K : PySem.W.Frag} {h : Heap} {mg : Str → Option Value} {fa : Addr} (X : K.In h) (G : h.Ns mainGlobals mg) (hfa : mg "law" = some (.ref fa))
    {od_lines_of an_lines_of : Option Addr} {sl_lines_of : Array (Option Value)} {oc_lines_of kV_lines_of dc_lines_of pm_lines_of cd_lines_of ct_lines_of : Value} {f_lines_of : Addr}
    {od_is_name an_is_name : Option Addr} {sl_is_name : Array (Option Value)} {oc_is_name kV_is_name dc_is_name pm_is_name cd_is_name ct_is_name : Value} {f_is_name : Addr}
    {od_Layout___init an_Layout___init : Option Addr} {sl_Layout___init : Array (Option Value)} {oc_Layout___init kV_Layout___init dc_Layout___init pm_Layout___init cd_Layout___init ct_Layout___init : Value} {f_Layout___init : Addr}
    {od_is_new_name an_is_new_name : Option Addr} {sl_is_new_name : Array (Option Value)} {oc_is_new_name kV_is_new_name dc_is_new_name pm_is_new_name cd_is_new_name ct_is_new_name : Value} {f_is_new_name : Addr}
    {od_is_complete an_is_complete : Option Addr} {sl_is_complete : Array (Option Value)} {oc_is_complete kV_is_complete dc_is_complete pm_is_complete cd_is_complete ct_is_complete : Value} {f_is_complete : Addr}
    {od_begin_actor an_begin_actor : Option Addr} {sl_begin_actor : Array (Option Value)} {oc_begin_actor kV_begin_actor dc_begin_actor pm_begin_actor cd_begin_actor ct_begin_actor : Value} {f_begin_actor : Addr}
    {od_read_flag an_read_flag : Option Addr} {sl_read_flag : Array (Option Value)} {oc_read_flag kV_read_flag dc_read_flag pm_read_flag cd_read_flag ct_read_flag : Value} {f_read_flag : Addr}
    {od_read_register an_read_register : Option Addr} {sl_read_register : Array (Option Value)} {oc_read_register kV_read_register dc_read_register pm_read_register cd_read_register ct_read_register : Value} {f_read_register : Addr}
    {od_read_writer an_read_writer : Option Addr} {sl_read_writer : Array (Option Value)} {oc_read_writer kV_read_writer dc_read_writer pm_read_writer cd_read_writer ct_read_writer : Value} {f_read_writer : Addr}
    {od_read_reader an_read_reader : Option Addr} {sl_read_reader : Array (Option Value)} {oc_read_reader kV_read_reader dc_read_reader pm_read_reader cd_read_reader ct_read_reader : Value} {f_read_reader : Addr}
    {od_read_write an_read_write : Option Addr} {sl_read_write : Array (Option Value)} {oc_read_write kV_read_write dc_read_write pm_read_write cd_read_write ct_read_write : Value} {f_read_write : Addr}
    {od_read_read an_read_read : Option Addr} {sl_read_read : Array (Option Value)} {oc_read_read kV_read_read dc_read_read pm_read_read cd_read_read ct_read_read : Value} {f_read_read : Addr}
    {od_read_flag_and_number an_read_flag_and_number : Option Addr} {sl_read_flag_and_number : Array (Option Value)} {oc_read_flag_and_number kV_read_flag_and_number dc_read_flag_and_number pm_read_flag_and_number cd_read_flag_and_number ct_read_flag_and_number : Value} {f_read_flag_and_number : Addr}
    {od_read_step an_read_step : Option Addr} {sl_read_step : Array (Option Value)} {oc_read_step kV_read_step dc_read_step pm_read_step cd_read_step ct_read_step : Value} {f_read_step : Addr}
    {od_read_look an_read_look : Option Addr} {sl_read_look : Array (Option Value)} {oc_read_look kV_read_look dc_read_look pm_read_look cd_read_look ct_read_look : Value} {f_read_look : Addr}
    {od_read_if an_read_if : Option Addr} {sl_read_if : Array (Option Value)} {oc_read_if kV_read_if dc_read_if pm_read_if cd_read_if ct_read_if : Value} {f_read_if : Addr}
    {od_read_else an_read_else : Option Addr} {sl_read_else : Array (Option Value)} {oc_read_else kV_read_else dc_read_else pm_read_else cd_read_else ct_read_else : Value} {f_read_else : Addr}
    {od_read_end an_read_end : Option Addr} {sl_read_end : Array (Option Value)} {oc_read_end kV_read_end dc_read_end pm_read_end cd_read_end ct_read_end : Value} {f_read_end : Addr}
    {od_read_again an_read_again : Option Addr} {sl_read_again : Array (Option Value)} {oc_read_again kV_read_again dc_read_again pm_read_again cd_read_again ct_read_again : Value} {f_read_again : Addr}
    {od_read_line an_read_line : Option Addr} {sl_read_line : Array (Option Value)} {oc_read_line kV_read_line dc_read_line pm_read_line cd_read_line ct_read_line : Value} {f_read_line : Addr}
    {od_read_layout an_read_layout : Option Addr} {sl_read_layout : Array (Option Value)} {oc_read_layout kV_read_layout dc_read_layout pm_read_layout cd_read_layout ct_read_layout : Value} {f_read_layout : Addr}
    {od_checked_values an_checked_values : Option Addr} {sl_checked_values : Array (Option Value)} {oc_checked_values kV_checked_values dc_checked_values pm_checked_values cd_checked_values ct_checked_values : Value} {f_checked_values : Addr}
    {od_start an_start : Option Addr} {sl_start : Array (Option Value)} {oc_start kV_start dc_start pm_start cd_start ct_start : Value} {f_start : Addr}
    {od_swept_cell an_swept_cell : Option Addr} {sl_swept_cell : Array (Option Value)} {oc_swept_cell kV_swept_cell dc_swept_cell pm_swept_cell cd_swept_cell ct_swept_cell : Value} {f_swept_cell : Addr}
    {od_next_line an_next_line : Option Addr} {sl_next_line : Array (Option Value)} {oc_next_line kV_next_line dc_next_line pm_next_line cd_next_line ct_next_line : Value} {f_next_line : Addr}
    {od_place_at an_place_at : Option Addr} {sl_place_at : Array (Option Value)} {oc_place_at kV_place_at dc_place_at pm_place_at cd_place_at ct_place_at : Value} {f_place_at : Addr}
    {od_place_in_sweep an_place_in_sweep : Option Addr} {sl_place_in_sweep : Array (Option Value)} {oc_place_in_sweep kV_place_in_sweep dc_place_in_sweep pm_place_in_sweep cd_place_in_sweep ct_place_in_sweep : Value} {f_place_in_sweep : Addr}
    {od_put an_put : Option Addr} {sl_put : Array (Option Value)} {oc_put kV_put dc_put pm_put cd_put ct_put : Value} {f_put : Addr}
    {od_flag_holds an_flag_holds : Option Addr} {sl_flag_holds : Array (Option Value)} {oc_flag_holds kV_flag_holds dc_flag_holds pm_flag_holds cd_flag_holds ct_flag_holds : Value} {f_flag_holds : Addr}
    {od_flags_behind an_flags_behind : Option Addr} {sl_flags_behind : Array (Option Value)} {oc_flags_behind kV_flags_behind dc_flags_behind pm_flags_behind cd_flags_behind ct_flags_behind : Value} {f_flags_behind : Addr}
    {od_marks_behind an_marks_behind : Option Addr} {sl_marks_behind : Array (Option Value)} {oc_marks_behind kV_marks_behind dc_marks_behind pm_marks_behind cd_marks_behind ct_marks_behind : Value} {f_marks_behind : Addr}
    {od_mark_holds an_mark_holds : Option Addr} {sl_mark_holds : Array (Option Value)} {oc_mark_holds kV_mark_holds dc_mark_holds pm_mark_holds cd_mark_holds ct_mark_holds : Value} {f_mark_holds : Addr}
    {od_is_same an_is_same : Option Addr} {sl_is_same : Array (Option Value)} {oc_is_same kV_is_same dc_is_same pm_is_same cd_is_same ct_is_same : Value} {f_is_same : Addr}
    {od_move an_move : Option Addr} {sl_move : Array (Option Value)} {oc_move kV_move dc_move pm_move cd_move ct_move : Value} {f_move : Addr}
    {od_checked_actors an_checked_actors : Option Addr} {sl_checked_actors : Array (Option Value)} {oc_checked_actors kV_checked_actors dc_checked_actors pm_checked_actors cd_checked_actors ct_checked_actors : Value} {f_checked_actors : Addr}
    {od_Run___init an_Run___init : Option Addr} {sl_Run___init : Array (Option Value)} {oc_Run___init kV_Run___init dc_Run___init pm_Run___init cd_Run___init ct_Run___init : Value} {f_Run___init : Addr}
    {od_Run_begin_round an_Run_begin_round : Option Addr} {sl_Run_begin_round : Array (Option Value)} {oc_Run_begin_round kV_Run_begin_round dc_Run_begin_round pm_Run_begin_round cd_Run_begin_round ct_Run_begin_round : Value} {f_Run_begin_round : Addr}
    {od_Run_begin an_Run_begin : Option Addr} {sl_Run_begin : Array (Option Value)} {oc_Run_begin kV_Run_begin dc_Run_begin pm_Run_begin cd_Run_begin ct_Run_begin : Value} {f_Run_begin : Addr}
    {od_Run_forget an_Run_forget : Option Addr} {sl_Run_forget : Array (Option Value)} {oc_Run_forget kV_Run_forget dc_Run_forget pm_Run_forget cd_Run_forget ct_Run_forget : Value} {f_Run_forget : Addr}
    {od_Run_keep an_Run_keep : Option Addr} {sl_Run_keep : Array (Option Value)} {oc_Run_keep kV_Run_keep dc_Run_keep pm_Run_keep cd_Run_keep ct_Run_keep : Value} {f_Run_keep : Addr}
    {od_Run_finish an_Run_finish : Option Addr} {sl_Run_finish : Array (Option Value)} {oc_Run_finish kV_Run_finish dc_Run_finish pm_Run_finish cd_Run_finish ct_Run_finish : Value} {f_Run_finish : Addr}
    {od_Run_step an_Run_step : Option Addr} {sl_Run_step : Array (Option Value)} {oc_Run_step kV_Run_step dc_Run_step pm_Run_step cd_Run_step ct_Run_step : Value} {f_Run_step : Addr}
    {od_World___init an_World___init : Option Addr} {sl_World___init : Array (Option Value)} {oc_World___init kV_World___init dc_World___init pm_World___init cd_World___init ct_World___init : Value} {f_World___init : Addr}
    {od_World_run an_World_run : Option Addr} {sl_World_run : Array (Option Value)} {oc_World_run kV_World_run dc_World_run pm_World_run cd_World_run ct_World_run : Value} {f_World_run : Addr}
    {od_World_steps an_World_steps : Option Addr} {sl_World_steps : Array (Option Value)} {oc_World_steps kV_World_steps dc_World_steps pm_World_steps cd_World_steps ct_World_steps : Value} {f_World_steps : Addr}
    {od_begun_pen an_begun_pen : Option Addr} {sl_begun_pen : Array (Option Value)} {oc_begun_pen kV_begun_pen dc_begun_pen pm_begun_pen cd_begun_pen ct_begun_pen : Value} {f_begun_pen : Addr}
    {od_draw an_draw : Option Addr} {sl_draw : Array (Option Value)} {oc_draw kV_draw dc_draw pm_draw cd_draw ct_draw : Value} {f_draw : Addr}
    {od_actor an_actor : Option Addr} {sl_actor : Array (Option Value)} {oc_actor kV_actor dc_actor pm_actor cd_actor ct_actor : Value} {f_actor : Addr}
    {od_steps an_steps : Option Addr} {sl_steps : Array (Option Value)} {oc_steps kV_steps dc_steps pm_steps cd_steps ct_steps : Value} {f_steps : Addr}
    {od_more_cases an_more_cases : Option Addr} {sl_more_cases : Array (Option Value)} {oc_more_cases kV_more_cases dc_more_cases pm_more_cases cd_more_cases ct_more_cases : Value} {f_more_cases : Addr}
    {od_cases an_cases : Option Addr} {sl_cases : Array (Option Value)} {oc_cases kV_cases dc_cases pm_cases cd_cases ct_cases : Value} {f_cases : Addr}
    {od_law an_law : Option Addr} {sl_law : Array (Option Value)} {oc_law kV_law dc_law pm_law cd_law ct_law : Value} {f_law : Addr}
    {c_Layout : Addr}
    {c_Run : Addr}
    {c_World : Addr}
    {t_LETTERS : Tok}
    {t_LONGEST_NAME : Tok}
    {d_NUMBERS : Addr} {od_NUMBERS : Option Addr} {n_NUMBERS : Nat} {sl_NUMBERS : Array (Option Value)} {t_NUMBERS_0 t_NUMBERS_1 t_NUMBERS_2 t_NUMBERS_3 : Tok}
    {d_DIRECTIONS : Addr} {od_DIRECTIONS : Option Addr} {n_DIRECTIONS : Nat} {sl_DIRECTIONS : Array (Option Value)} {t_DIRECTIONS_0 t_DIRECTIONS_1 : Tok}
    {t_WRITER : Tok}
    {d_NO_NAMES : Addr} {od_NO_NAMES : Option Addr} {n_NO_NAMES : Nat} {sl_NO_NAMES : Array (Option Value)} {t_NO_NAMES_0 t_NO_NAMES_1 t_NO_NAMES_2 t_NO_NAMES_3 t_NO_NAMES_4 t_NO_NAMES_5 t_NO_NAMES_6 t_NO_NAMES_7 t_NO_NAMES_8 t_NO_NAMES_9 t_NO_NAMES_10 t_NO_NAMES_11 t_NO_NAMES_12 t_NO_NAMES_13 t_NO_NAMES_14 t_NO_NAMES_15 t_NO_NAMES_16 t_NO_NAMES_17 t_NO_NAMES_18 t_NO_NAMES_19 t_NO_NAMES_20 t_NO_NAMES_21 t_NO_NAMES_22 t_NO_NAMES_23 : Tok}
    {t_MOST_LINES : Tok}
    {t_MOST_FLAGS : Tok}
    {t_MOST_REGISTERS : Tok}
    {t_MOST_READERS : Tok}
    {t_MOST_BLOCKS : Tok}
    {d_BOUNDS : Addr} {od_BOUNDS : Option Addr} {n_BOUNDS : Nat} {sl_BOUNDS : Array (Option Value)} {t_BOUNDS_0 t_BOUNDS_1 t_BOUNDS_2 : Tok}
    {d_HEADS : Addr} {n_HEADS : Nat} {t_HEADS_0 t_HEADS_1 t_HEADS_2 t_HEADS_3 : Tok}
    {d_FORMS : Addr} {n_FORMS : Nat} {t_FORMS_0 t_FORMS_1 t_FORMS_2 t_FORMS_3 t_FORMS_4 t_FORMS_5 t_FORMS_6 t_FORMS_7 t_FORMS_8 t_FORMS_9 : Tok}
    {d_SWEEPS : Addr} {od_SWEEPS : Option Addr} {n_SWEEPS : Nat} {sl_SWEEPS : Array (Option Value)} {t_SWEEPS_0 t_SWEEPS_1 : Tok}
    {cE_BadValues fI_BadValues N_BadValues : Addr} {nm_BadValues q_BadValues : Str} {bs_BadValues bm_BadValues sub_BadValues : List Value} {sn_BadValues : List Str} {ab_BadValues : Bool} {col_BadValues : Option Bool} {dd_BadValues odI_BadValues anI_BadValues : Option Addr} {m0_BadValues m1_BadValues m2_BadValues m3_BadValues m5_BadValues : Option Value} {slI_BadValues : Array (Option Value)} {ocI_BadValues kVI_BadValues dcI_BadValues pmI_BadValues cdI_BadValues ctI_BadValues : Value}
    {cE_BadWorld fI_BadWorld N_BadWorld : Addr} {nm_BadWorld q_BadWorld : Str} {bs_BadWorld bm_BadWorld sub_BadWorld : List Value} {sn_BadWorld : List Str} {ab_BadWorld : Bool} {col_BadWorld : Option Bool} {dd_BadWorld odI_BadWorld anI_BadWorld : Option Addr} {m0_BadWorld m1_BadWorld m2_BadWorld m3_BadWorld m5_BadWorld : Option Value} {slI_BadWorld : Array (Option Value)} {ocI_BadWorld kVI_BadWorld dcI_BadWorld pmI_BadWorld cdI_BadWorld ctI_BadWorld : Value}
    {cE_NoActor fI_NoActor N_NoActor : Addr} {nm_NoActor q_NoActor : Str} {bs_NoActor bm_NoActor sub_NoActor : List Value} {sn_NoActor : List Str} {ab_NoActor : Bool} {col_NoActor : Option Bool} {dd_NoActor odI_NoActor anI_NoActor : Option Addr} {m0_NoActor m1_NoActor m2_NoActor m3_NoActor m5_NoActor : Option Value} {slI_NoActor : Array (Option Value)} {ocI_NoActor kVI_NoActor dcI_NoActor pmI_NoActor cdI_NoActor ctI_NoActor : Value}
    (a_lines_of : PySem.W.nsIn K mainGlobals "lines_of" = some (some (.ref f_lines_of)))
    (l_lines_of : K.lookup f_lines_of = some ⟨oc_lines_of, od_lines_of, .func (PySem.W.fnOf "lines_of" "lines_of" (defArgs s_lines_of) (defBody s_lines_of) (defScope s_lines_of) .none kV_lines_of dc_lines_of pm_lines_of an_lines_of cd_lines_of ct_lines_of), sl_lines_of⟩)
    (cc_lines_of : PySem.W.codeIn K cd_lines_of "lines_of" = true)
    (k_lines_of : PySem.W.keepIn K (.ref f_lines_of) = true)
    (a_is_name : PySem.W.nsIn K mainGlobals "is_name" = some (some (.ref f_is_name)))
    (l_is_name : K.lookup f_is_name = some ⟨oc_is_name, od_is_name, .func (PySem.W.fnOf "is_name" "is_name" (defArgs s_is_name) (defBody s_is_name) (defScope s_is_name) .none kV_is_name dc_is_name pm_is_name an_is_name cd_is_name ct_is_name), sl_is_name⟩)
    (cc_is_name : PySem.W.codeIn K cd_is_name "is_name" = true)
    (k_is_name : PySem.W.keepIn K (.ref f_is_name) = true)
    (a_Layout___init : PySem.W.findIn K (.ref c_Layout) "__init__" = some (some (.ref f_Layout___init)))
    (t_Layout___init : PySem.W.isFn K (.ref f_Layout___init) = true)
    (l_Layout___init : K.lookup f_Layout___init = some ⟨oc_Layout___init, od_Layout___init, .func (PySem.W.fnOf "__init__" "Layout.__init__" (defArgs s_Layout___init) (defBody s_Layout___init) (defScope s_Layout___init) .none kV_Layout___init dc_Layout___init pm_Layout___init an_Layout___init cd_Layout___init ct_Layout___init), sl_Layout___init⟩)
    (cc_Layout___init : PySem.W.codeIn K cd_Layout___init "Layout.__init__" = true)
    (k_Layout___init : PySem.W.keepIn K (.ref f_Layout___init) = true)
    (a_is_new_name : PySem.W.nsIn K mainGlobals "is_new_name" = some (some (.ref f_is_new_name)))
    (l_is_new_name : K.lookup f_is_new_name = some ⟨oc_is_new_name, od_is_new_name, .func (PySem.W.fnOf "is_new_name" "is_new_name" (defArgs s_is_new_name) (defBody s_is_new_name) (defScope s_is_new_name) .none kV_is_new_name dc_is_new_name pm_is_new_name an_is_new_name cd_is_new_name ct_is_new_name), sl_is_new_name⟩)
    (cc_is_new_name : PySem.W.codeIn K cd_is_new_name "is_new_name" = true)
    (k_is_new_name : PySem.W.keepIn K (.ref f_is_new_name) = true)
    (a_is_complete : PySem.W.nsIn K mainGlobals "is_complete" = some (some (.ref f_is_complete)))
    (l_is_complete : K.lookup f_is_complete = some ⟨oc_is_complete, od_is_complete, .func (PySem.W.fnOf "is_complete" "is_complete" (defArgs s_is_complete) (defBody s_is_complete) (defScope s_is_complete) .none kV_is_complete dc_is_complete pm_is_complete an_is_complete cd_is_complete ct_is_complete), sl_is_complete⟩)
    (cc_is_complete : PySem.W.codeIn K cd_is_complete "is_complete" = true)
    (k_is_complete : PySem.W.keepIn K (.ref f_is_complete) = true)
    (a_begin_actor : PySem.W.nsIn K mainGlobals "begin_actor" = some (some (.ref f_begin_actor)))
    (l_begin_actor : K.lookup f_begin_actor = some ⟨oc_begin_actor, od_begin_actor, .func (PySem.W.fnOf "begin_actor" "begin_actor" (defArgs s_begin_actor) (defBody s_begin_actor) (defScope s_begin_actor) .none kV_begin_actor dc_begin_actor pm_begin_actor an_begin_actor cd_begin_actor ct_begin_actor), sl_begin_actor⟩)
    (cc_begin_actor : PySem.W.codeIn K cd_begin_actor "begin_actor" = true)
    (k_begin_actor : PySem.W.keepIn K (.ref f_begin_actor) = true)
    (a_read_flag : PySem.W.nsIn K mainGlobals "read_flag" = some (some (.ref f_read_flag)))
    (l_read_flag : K.lookup f_read_flag = some ⟨oc_read_flag, od_read_flag, .func (PySem.W.fnOf "read_flag" "read_flag" (defArgs s_read_flag) (defBody s_read_flag) (defScope s_read_flag) .none kV_read_flag dc_read_flag pm_read_flag an_read_flag cd_read_flag ct_read_flag), sl_read_flag⟩)
    (cc_read_flag : PySem.W.codeIn K cd_read_flag "read_flag" = true)
    (k_read_flag : PySem.W.keepIn K (.ref f_read_flag) = true)
    (a_read_register : PySem.W.nsIn K mainGlobals "read_register" = some (some (.ref f_read_register)))
    (l_read_register : K.lookup f_read_register = some ⟨oc_read_register, od_read_register, .func (PySem.W.fnOf "read_register" "read_register" (defArgs s_read_register) (defBody s_read_register) (defScope s_read_register) .none kV_read_register dc_read_register pm_read_register an_read_register cd_read_register ct_read_register), sl_read_register⟩)
    (cc_read_register : PySem.W.codeIn K cd_read_register "read_register" = true)
    (k_read_register : PySem.W.keepIn K (.ref f_read_register) = true)
    (a_read_writer : PySem.W.nsIn K mainGlobals "read_writer" = some (some (.ref f_read_writer)))
    (l_read_writer : K.lookup f_read_writer = some ⟨oc_read_writer, od_read_writer, .func (PySem.W.fnOf "read_writer" "read_writer" (defArgs s_read_writer) (defBody s_read_writer) (defScope s_read_writer) .none kV_read_writer dc_read_writer pm_read_writer an_read_writer cd_read_writer ct_read_writer), sl_read_writer⟩)
    (cc_read_writer : PySem.W.codeIn K cd_read_writer "read_writer" = true)
    (k_read_writer : PySem.W.keepIn K (.ref f_read_writer) = true)
    (a_read_reader : PySem.W.nsIn K mainGlobals "read_reader" = some (some (.ref f_read_reader)))
    (l_read_reader : K.lookup f_read_reader = some ⟨oc_read_reader, od_read_reader, .func (PySem.W.fnOf "read_reader" "read_reader" (defArgs s_read_reader) (defBody s_read_reader) (defScope s_read_reader) .none kV_read_reader dc_read_reader pm_read_reader an_read_reader cd_read_reader ct_read_reader), sl_read_reader⟩)
    (cc_read_reader : PySem.W.codeIn K cd_read_reader "read_reader" = true)
    (k_read_reader : PySem.W.keepIn K (.ref f_read_reader) = true)
    (a_read_write : PySem.W.nsIn K mainGlobals "read_write" = some (some (.ref f_read_write)))
    (l_read_write : K.lookup f_read_write = some ⟨oc_read_write, od_read_write, .func (PySem.W.fnOf "read_write" "read_write" (defArgs s_read_write) (defBody s_read_write) (defScope s_read_write) .none kV_read_write dc_read_write pm_read_write an_read_write cd_read_write ct_read_write), sl_read_write⟩)
    (cc_read_write : PySem.W.codeIn K cd_read_write "read_write" = true)
    (k_read_write : PySem.W.keepIn K (.ref f_read_write) = true)
    (a_read_read : PySem.W.nsIn K mainGlobals "read_read" = some (some (.ref f_read_read)))
    (l_read_read : K.lookup f_read_read = some ⟨oc_read_read, od_read_read, .func (PySem.W.fnOf "read_read" "read_read" (defArgs s_read_read) (defBody s_read_read) (defScope s_read_read) .none kV_read_read dc_read_read pm_read_read an_read_read cd_read_read ct_read_read), sl_read_read⟩)
    (cc_read_read : PySem.W.codeIn K cd_read_read "read_read" = true)
    (k_read_read : PySem.W.keepIn K (.ref f_read_read) = true)
    (a_read_flag_and_number : PySem.W.nsIn K mainGlobals "read_flag_and_number" = some (some (.ref f_read_flag_and_number)))
    (l_read_flag_and_number : K.lookup f_read_flag_and_number = some ⟨oc_read_flag_and_number, od_read_flag_and_number, .func (PySem.W.fnOf "read_flag_and_number" "read_flag_and_number" (defArgs s_read_flag_and_number) (defBody s_read_flag_and_number) (defScope s_read_flag_and_number) .none kV_read_flag_and_number dc_read_flag_and_number pm_read_flag_and_number an_read_flag_and_number cd_read_flag_and_number ct_read_flag_and_number), sl_read_flag_and_number⟩)
    (cc_read_flag_and_number : PySem.W.codeIn K cd_read_flag_and_number "read_flag_and_number" = true)
    (k_read_flag_and_number : PySem.W.keepIn K (.ref f_read_flag_and_number) = true)
    (a_read_step : PySem.W.nsIn K mainGlobals "read_step" = some (some (.ref f_read_step)))
    (l_read_step : K.lookup f_read_step = some ⟨oc_read_step, od_read_step, .func (PySem.W.fnOf "read_step" "read_step" (defArgs s_read_step) (defBody s_read_step) (defScope s_read_step) .none kV_read_step dc_read_step pm_read_step an_read_step cd_read_step ct_read_step), sl_read_step⟩)
    (cc_read_step : PySem.W.codeIn K cd_read_step "read_step" = true)
    (k_read_step : PySem.W.keepIn K (.ref f_read_step) = true)
    (a_read_look : PySem.W.nsIn K mainGlobals "read_look" = some (some (.ref f_read_look)))
    (l_read_look : K.lookup f_read_look = some ⟨oc_read_look, od_read_look, .func (PySem.W.fnOf "read_look" "read_look" (defArgs s_read_look) (defBody s_read_look) (defScope s_read_look) .none kV_read_look dc_read_look pm_read_look an_read_look cd_read_look ct_read_look), sl_read_look⟩)
    (cc_read_look : PySem.W.codeIn K cd_read_look "read_look" = true)
    (k_read_look : PySem.W.keepIn K (.ref f_read_look) = true)
    (a_read_if : PySem.W.nsIn K mainGlobals "read_if" = some (some (.ref f_read_if)))
    (l_read_if : K.lookup f_read_if = some ⟨oc_read_if, od_read_if, .func (PySem.W.fnOf "read_if" "read_if" (defArgs s_read_if) (defBody s_read_if) (defScope s_read_if) .none kV_read_if dc_read_if pm_read_if an_read_if cd_read_if ct_read_if), sl_read_if⟩)
    (cc_read_if : PySem.W.codeIn K cd_read_if "read_if" = true)
    (k_read_if : PySem.W.keepIn K (.ref f_read_if) = true)
    (a_read_else : PySem.W.nsIn K mainGlobals "read_else" = some (some (.ref f_read_else)))
    (l_read_else : K.lookup f_read_else = some ⟨oc_read_else, od_read_else, .func (PySem.W.fnOf "read_else" "read_else" (defArgs s_read_else) (defBody s_read_else) (defScope s_read_else) .none kV_read_else dc_read_else pm_read_else an_read_else cd_read_else ct_read_else), sl_read_else⟩)
    (cc_read_else : PySem.W.codeIn K cd_read_else "read_else" = true)
    (k_read_else : PySem.W.keepIn K (.ref f_read_else) = true)
    (a_read_end : PySem.W.nsIn K mainGlobals "read_end" = some (some (.ref f_read_end)))
    (l_read_end : K.lookup f_read_end = some ⟨oc_read_end, od_read_end, .func (PySem.W.fnOf "read_end" "read_end" (defArgs s_read_end) (defBody s_read_end) (defScope s_read_end) .none kV_read_end dc_read_end pm_read_end an_read_end cd_read_end ct_read_end), sl_read_end⟩)
    (cc_read_end : PySem.W.codeIn K cd_read_end "read_end" = true)
    (k_read_end : PySem.W.keepIn K (.ref f_read_end) = true)
    (a_read_again : PySem.W.nsIn K mainGlobals "read_again" = some (some (.ref f_read_again)))
    (l_read_again : K.lookup f_read_again = some ⟨oc_read_again, od_read_again, .func (PySem.W.fnOf "read_again" "read_again" (defArgs s_read_again) (defBody s_read_again) (defScope s_read_again) .none kV_read_again dc_read_again pm_read_again an_read_again cd_read_again ct_read_again), sl_read_again⟩)
    (cc_read_again : PySem.W.codeIn K cd_read_again "read_again" = true)
    (k_read_again : PySem.W.keepIn K (.ref f_read_again) = true)
    (a_read_line : PySem.W.nsIn K mainGlobals "read_line" = some (some (.ref f_read_line)))
    (l_read_line : K.lookup f_read_line = some ⟨oc_read_line, od_read_line, .func (PySem.W.fnOf "read_line" "read_line" (defArgs s_read_line) (defBody s_read_line) (defScope s_read_line) .none kV_read_line dc_read_line pm_read_line an_read_line cd_read_line ct_read_line), sl_read_line⟩)
    (cc_read_line : PySem.W.codeIn K cd_read_line "read_line" = true)
    (k_read_line : PySem.W.keepIn K (.ref f_read_line) = true)
    (a_read_layout : PySem.W.nsIn K mainGlobals "read_layout" = some (some (.ref f_read_layout)))
    (l_read_layout : K.lookup f_read_layout = some ⟨oc_read_layout, od_read_layout, .func (PySem.W.fnOf "read_layout" "read_layout" (defArgs s_read_layout) (defBody s_read_layout) (defScope s_read_layout) .none kV_read_layout dc_read_layout pm_read_layout an_read_layout cd_read_layout ct_read_layout), sl_read_layout⟩)
    (cc_read_layout : PySem.W.codeIn K cd_read_layout "read_layout" = true)
    (k_read_layout : PySem.W.keepIn K (.ref f_read_layout) = true)
    (a_checked_values : PySem.W.nsIn K mainGlobals "checked_values" = some (some (.ref f_checked_values)))
    (l_checked_values : K.lookup f_checked_values = some ⟨oc_checked_values, od_checked_values, .func (PySem.W.fnOf "checked_values" "checked_values" (defArgs s_checked_values) (defBody s_checked_values) (defScope s_checked_values) .none kV_checked_values dc_checked_values pm_checked_values an_checked_values cd_checked_values ct_checked_values), sl_checked_values⟩)
    (cc_checked_values : PySem.W.codeIn K cd_checked_values "checked_values" = true)
    (k_checked_values : PySem.W.keepIn K (.ref f_checked_values) = true)
    (a_start : PySem.W.nsIn K mainGlobals "start" = some (some (.ref f_start)))
    (l_start : K.lookup f_start = some ⟨oc_start, od_start, .func (PySem.W.fnOf "start" "start" (defArgs s_start) (defBody s_start) (defScope s_start) .none kV_start dc_start pm_start an_start cd_start ct_start), sl_start⟩)
    (cc_start : PySem.W.codeIn K cd_start "start" = true)
    (k_start : PySem.W.keepIn K (.ref f_start) = true)
    (a_swept_cell : PySem.W.nsIn K mainGlobals "swept_cell" = some (some (.ref f_swept_cell)))
    (l_swept_cell : K.lookup f_swept_cell = some ⟨oc_swept_cell, od_swept_cell, .func (PySem.W.fnOf "swept_cell" "swept_cell" (defArgs s_swept_cell) (defBody s_swept_cell) (defScope s_swept_cell) .none kV_swept_cell dc_swept_cell pm_swept_cell an_swept_cell cd_swept_cell ct_swept_cell), sl_swept_cell⟩)
    (cc_swept_cell : PySem.W.codeIn K cd_swept_cell "swept_cell" = true)
    (k_swept_cell : PySem.W.keepIn K (.ref f_swept_cell) = true)
    (a_next_line : PySem.W.nsIn K mainGlobals "next_line" = some (some (.ref f_next_line)))
    (l_next_line : K.lookup f_next_line = some ⟨oc_next_line, od_next_line, .func (PySem.W.fnOf "next_line" "next_line" (defArgs s_next_line) (defBody s_next_line) (defScope s_next_line) .none kV_next_line dc_next_line pm_next_line an_next_line cd_next_line ct_next_line), sl_next_line⟩)
    (cc_next_line : PySem.W.codeIn K cd_next_line "next_line" = true)
    (k_next_line : PySem.W.keepIn K (.ref f_next_line) = true)
    (a_place_at : PySem.W.nsIn K mainGlobals "place_at" = some (some (.ref f_place_at)))
    (l_place_at : K.lookup f_place_at = some ⟨oc_place_at, od_place_at, .func (PySem.W.fnOf "place_at" "place_at" (defArgs s_place_at) (defBody s_place_at) (defScope s_place_at) .none kV_place_at dc_place_at pm_place_at an_place_at cd_place_at ct_place_at), sl_place_at⟩)
    (cc_place_at : PySem.W.codeIn K cd_place_at "place_at" = true)
    (k_place_at : PySem.W.keepIn K (.ref f_place_at) = true)
    (a_place_in_sweep : PySem.W.nsIn K mainGlobals "place_in_sweep" = some (some (.ref f_place_in_sweep)))
    (l_place_in_sweep : K.lookup f_place_in_sweep = some ⟨oc_place_in_sweep, od_place_in_sweep, .func (PySem.W.fnOf "place_in_sweep" "place_in_sweep" (defArgs s_place_in_sweep) (defBody s_place_in_sweep) (defScope s_place_in_sweep) .none kV_place_in_sweep dc_place_in_sweep pm_place_in_sweep an_place_in_sweep cd_place_in_sweep ct_place_in_sweep), sl_place_in_sweep⟩)
    (cc_place_in_sweep : PySem.W.codeIn K cd_place_in_sweep "place_in_sweep" = true)
    (k_place_in_sweep : PySem.W.keepIn K (.ref f_place_in_sweep) = true)
    (a_put : PySem.W.nsIn K mainGlobals "put" = some (some (.ref f_put)))
    (l_put : K.lookup f_put = some ⟨oc_put, od_put, .func (PySem.W.fnOf "put" "put" (defArgs s_put) (defBody s_put) (defScope s_put) .none kV_put dc_put pm_put an_put cd_put ct_put), sl_put⟩)
    (cc_put : PySem.W.codeIn K cd_put "put" = true)
    (k_put : PySem.W.keepIn K (.ref f_put) = true)
    (a_flag_holds : PySem.W.nsIn K mainGlobals "flag_holds" = some (some (.ref f_flag_holds)))
    (l_flag_holds : K.lookup f_flag_holds = some ⟨oc_flag_holds, od_flag_holds, .func (PySem.W.fnOf "flag_holds" "flag_holds" (defArgs s_flag_holds) (defBody s_flag_holds) (defScope s_flag_holds) .none kV_flag_holds dc_flag_holds pm_flag_holds an_flag_holds cd_flag_holds ct_flag_holds), sl_flag_holds⟩)
    (cc_flag_holds : PySem.W.codeIn K cd_flag_holds "flag_holds" = true)
    (k_flag_holds : PySem.W.keepIn K (.ref f_flag_holds) = true)
    (a_flags_behind : PySem.W.nsIn K mainGlobals "flags_behind" = some (some (.ref f_flags_behind)))
    (l_flags_behind : K.lookup f_flags_behind = some ⟨oc_flags_behind, od_flags_behind, .func (PySem.W.fnOf "flags_behind" "flags_behind" (defArgs s_flags_behind) (defBody s_flags_behind) (defScope s_flags_behind) .none kV_flags_behind dc_flags_behind pm_flags_behind an_flags_behind cd_flags_behind ct_flags_behind), sl_flags_behind⟩)
    (cc_flags_behind : PySem.W.codeIn K cd_flags_behind "flags_behind" = true)
    (k_flags_behind : PySem.W.keepIn K (.ref f_flags_behind) = true)
    (a_marks_behind : PySem.W.nsIn K mainGlobals "marks_behind" = some (some (.ref f_marks_behind)))
    (l_marks_behind : K.lookup f_marks_behind = some ⟨oc_marks_behind, od_marks_behind, .func (PySem.W.fnOf "marks_behind" "marks_behind" (defArgs s_marks_behind) (defBody s_marks_behind) (defScope s_marks_behind) .none kV_marks_behind dc_marks_behind pm_marks_behind an_marks_behind cd_marks_behind ct_marks_behind), sl_marks_behind⟩)
    (cc_marks_behind : PySem.W.codeIn K cd_marks_behind "marks_behind" = true)
    (k_marks_behind : PySem.W.keepIn K (.ref f_marks_behind) = true)
    (a_mark_holds : PySem.W.nsIn K mainGlobals "mark_holds" = some (some (.ref f_mark_holds)))
    (l_mark_holds : K.lookup f_mark_holds = some ⟨oc_mark_holds, od_mark_holds, .func (PySem.W.fnOf "mark_holds" "mark_holds" (defArgs s_mark_holds) (defBody s_mark_holds) (defScope s_mark_holds) .none kV_mark_holds dc_mark_holds pm_mark_holds an_mark_holds cd_mark_holds ct_mark_holds), sl_mark_holds⟩)
    (cc_mark_holds : PySem.W.codeIn K cd_mark_holds "mark_holds" = true)
    (k_mark_holds : PySem.W.keepIn K (.ref f_mark_holds) = true)
    (a_is_same : PySem.W.nsIn K mainGlobals "is_same" = some (some (.ref f_is_same)))
    (l_is_same : K.lookup f_is_same = some ⟨oc_is_same, od_is_same, .func (PySem.W.fnOf "is_same" "is_same" (defArgs s_is_same) (defBody s_is_same) (defScope s_is_same) .none kV_is_same dc_is_same pm_is_same an_is_same cd_is_same ct_is_same), sl_is_same⟩)
    (cc_is_same : PySem.W.codeIn K cd_is_same "is_same" = true)
    (k_is_same : PySem.W.keepIn K (.ref f_is_same) = true)
    (a_move : PySem.W.nsIn K mainGlobals "move" = some (some (.ref f_move)))
    (l_move : K.lookup f_move = some ⟨oc_move, od_move, .func (PySem.W.fnOf "move" "move" (defArgs s_move) (defBody s_move) (defScope s_move) .none kV_move dc_move pm_move an_move cd_move ct_move), sl_move⟩)
    (cc_move : PySem.W.codeIn K cd_move "move" = true)
    (k_move : PySem.W.keepIn K (.ref f_move) = true)
    (a_checked_actors : PySem.W.nsIn K mainGlobals "checked_actors" = some (some (.ref f_checked_actors)))
    (l_checked_actors : K.lookup f_checked_actors = some ⟨oc_checked_actors, od_checked_actors, .func (PySem.W.fnOf "checked_actors" "checked_actors" (defArgs s_checked_actors) (defBody s_checked_actors) (defScope s_checked_actors) .none kV_checked_actors dc_checked_actors pm_checked_actors an_checked_actors cd_checked_actors ct_checked_actors), sl_checked_actors⟩)
    (cc_checked_actors : PySem.W.codeIn K cd_checked_actors "checked_actors" = true)
    (k_checked_actors : PySem.W.keepIn K (.ref f_checked_actors) = true)
    (a_Run___init : PySem.W.findIn K (.ref c_Run) "__init__" = some (some (.ref f_Run___init)))
    (t_Run___init : PySem.W.isFn K (.ref f_Run___init) = true)
    (l_Run___init : K.lookup f_Run___init = some ⟨oc_Run___init, od_Run___init, .func (PySem.W.fnOf "__init__" "Run.__init__" (defArgs s_Run___init) (defBody s_Run___init) (defScope s_Run___init) .none kV_Run___init dc_Run___init pm_Run___init an_Run___init cd_Run___init ct_Run___init), sl_Run___init⟩)
    (cc_Run___init : PySem.W.codeIn K cd_Run___init "Run.__init__" = true)
    (k_Run___init : PySem.W.keepIn K (.ref f_Run___init) = true)
    (a_Run_begin_round : PySem.W.findIn K (.ref c_Run) "begin_round" = some (some (.ref f_Run_begin_round)))
    (t_Run_begin_round : PySem.W.isFn K (.ref f_Run_begin_round) = true)
    (l_Run_begin_round : K.lookup f_Run_begin_round = some ⟨oc_Run_begin_round, od_Run_begin_round, .func (PySem.W.fnOf "begin_round" "Run.begin_round" (defArgs s_Run_begin_round) (defBody s_Run_begin_round) (defScope s_Run_begin_round) .none kV_Run_begin_round dc_Run_begin_round pm_Run_begin_round an_Run_begin_round cd_Run_begin_round ct_Run_begin_round), sl_Run_begin_round⟩)
    (cc_Run_begin_round : PySem.W.codeIn K cd_Run_begin_round "Run.begin_round" = true)
    (k_Run_begin_round : PySem.W.keepIn K (.ref f_Run_begin_round) = true)
    (a_Run_begin : PySem.W.findIn K (.ref c_Run) "begin" = some (some (.ref f_Run_begin)))
    (t_Run_begin : PySem.W.isFn K (.ref f_Run_begin) = true)
    (l_Run_begin : K.lookup f_Run_begin = some ⟨oc_Run_begin, od_Run_begin, .func (PySem.W.fnOf "begin" "Run.begin" (defArgs s_Run_begin) (defBody s_Run_begin) (defScope s_Run_begin) .none kV_Run_begin dc_Run_begin pm_Run_begin an_Run_begin cd_Run_begin ct_Run_begin), sl_Run_begin⟩)
    (cc_Run_begin : PySem.W.codeIn K cd_Run_begin "Run.begin" = true)
    (k_Run_begin : PySem.W.keepIn K (.ref f_Run_begin) = true)
    (a_Run_forget : PySem.W.findIn K (.ref c_Run) "forget" = some (some (.ref f_Run_forget)))
    (t_Run_forget : PySem.W.isFn K (.ref f_Run_forget) = true)
    (l_Run_forget : K.lookup f_Run_forget = some ⟨oc_Run_forget, od_Run_forget, .func (PySem.W.fnOf "forget" "Run.forget" (defArgs s_Run_forget) (defBody s_Run_forget) (defScope s_Run_forget) .none kV_Run_forget dc_Run_forget pm_Run_forget an_Run_forget cd_Run_forget ct_Run_forget), sl_Run_forget⟩)
    (cc_Run_forget : PySem.W.codeIn K cd_Run_forget "Run.forget" = true)
    (k_Run_forget : PySem.W.keepIn K (.ref f_Run_forget) = true)
    (a_Run_keep : PySem.W.findIn K (.ref c_Run) "keep" = some (some (.ref f_Run_keep)))
    (t_Run_keep : PySem.W.isFn K (.ref f_Run_keep) = true)
    (l_Run_keep : K.lookup f_Run_keep = some ⟨oc_Run_keep, od_Run_keep, .func (PySem.W.fnOf "keep" "Run.keep" (defArgs s_Run_keep) (defBody s_Run_keep) (defScope s_Run_keep) .none kV_Run_keep dc_Run_keep pm_Run_keep an_Run_keep cd_Run_keep ct_Run_keep), sl_Run_keep⟩)
    (cc_Run_keep : PySem.W.codeIn K cd_Run_keep "Run.keep" = true)
    (k_Run_keep : PySem.W.keepIn K (.ref f_Run_keep) = true)
    (a_Run_finish : PySem.W.findIn K (.ref c_Run) "finish" = some (some (.ref f_Run_finish)))
    (t_Run_finish : PySem.W.isFn K (.ref f_Run_finish) = true)
    (l_Run_finish : K.lookup f_Run_finish = some ⟨oc_Run_finish, od_Run_finish, .func (PySem.W.fnOf "finish" "Run.finish" (defArgs s_Run_finish) (defBody s_Run_finish) (defScope s_Run_finish) .none kV_Run_finish dc_Run_finish pm_Run_finish an_Run_finish cd_Run_finish ct_Run_finish), sl_Run_finish⟩)
    (cc_Run_finish : PySem.W.codeIn K cd_Run_finish "Run.finish" = true)
    (k_Run_finish : PySem.W.keepIn K (.ref f_Run_finish) = true)
    (a_Run_step : PySem.W.findIn K (.ref c_Run) "step" = some (some (.ref f_Run_step)))
    (t_Run_step : PySem.W.isFn K (.ref f_Run_step) = true)
    (l_Run_step : K.lookup f_Run_step = some ⟨oc_Run_step, od_Run_step, .func (PySem.W.fnOf "step" "Run.step" (defArgs s_Run_step) (defBody s_Run_step) (defScope s_Run_step) .none kV_Run_step dc_Run_step pm_Run_step an_Run_step cd_Run_step ct_Run_step), sl_Run_step⟩)
    (cc_Run_step : PySem.W.codeIn K cd_Run_step "Run.step" = true)
    (k_Run_step : PySem.W.keepIn K (.ref f_Run_step) = true)
    (a_World___init : PySem.W.findIn K (.ref c_World) "__init__" = some (some (.ref f_World___init)))
    (t_World___init : PySem.W.isFn K (.ref f_World___init) = true)
    (l_World___init : K.lookup f_World___init = some ⟨oc_World___init, od_World___init, .func (PySem.W.fnOf "__init__" "World.__init__" (defArgs s_World___init) (defBody s_World___init) (defScope s_World___init) .none kV_World___init dc_World___init pm_World___init an_World___init cd_World___init ct_World___init), sl_World___init⟩)
    (cc_World___init : PySem.W.codeIn K cd_World___init "World.__init__" = true)
    (k_World___init : PySem.W.keepIn K (.ref f_World___init) = true)
    (a_World_run : PySem.W.findIn K (.ref c_World) "run" = some (some (.ref f_World_run)))
    (t_World_run : PySem.W.isFn K (.ref f_World_run) = true)
    (l_World_run : K.lookup f_World_run = some ⟨oc_World_run, od_World_run, .func (PySem.W.fnOf "run" "World.run" (defArgs s_World_run) (defBody s_World_run) (defScope s_World_run) .none kV_World_run dc_World_run pm_World_run an_World_run cd_World_run ct_World_run), sl_World_run⟩)
    (cc_World_run : PySem.W.codeIn K cd_World_run "World.run" = true)
    (k_World_run : PySem.W.keepIn K (.ref f_World_run) = true)
    (a_World_steps : PySem.W.findIn K (.ref c_World) "steps" = some (some (.ref f_World_steps)))
    (t_World_steps : PySem.W.isFn K (.ref f_World_steps) = true)
    (l_World_steps : K.lookup f_World_steps = some ⟨oc_World_steps, od_World_steps, .func (PySem.W.fnOf "steps" "World.steps" (defArgs s_World_steps) (defBody s_World_steps) (defScope s_World_steps) .none kV_World_steps dc_World_steps pm_World_steps an_World_steps cd_World_steps ct_World_steps), sl_World_steps⟩)
    (cc_World_steps : PySem.W.codeIn K cd_World_steps "World.steps" = true)
    (k_World_steps : PySem.W.keepIn K (.ref f_World_steps) = true)
    (a_begun_pen : PySem.W.nsIn K mainGlobals "_law_begun_pen" = some (some (.ref f_begun_pen)))
    (l_begun_pen : K.lookup f_begun_pen = some ⟨oc_begun_pen, od_begun_pen, .func (PySem.W.fnOf "_law_begun_pen" "_law_begun_pen" (defArgs s_begun_pen) (defBody s_begun_pen) (defScope s_begun_pen) .none kV_begun_pen dc_begun_pen pm_begun_pen an_begun_pen cd_begun_pen ct_begun_pen), sl_begun_pen⟩)
    (cc_begun_pen : PySem.W.codeIn K cd_begun_pen "_law_begun_pen" = true)
    (k_begun_pen : PySem.W.keepIn K (.ref f_begun_pen) = true)
    (a_draw : PySem.W.nsIn K mainGlobals "_law_draw" = some (some (.ref f_draw)))
    (l_draw : K.lookup f_draw = some ⟨oc_draw, od_draw, .func (PySem.W.fnOf "_law_draw" "_law_draw" (defArgs s_draw) (defBody s_draw) (defScope s_draw) .none kV_draw dc_draw pm_draw an_draw cd_draw ct_draw), sl_draw⟩)
    (cc_draw : PySem.W.codeIn K cd_draw "_law_draw" = true)
    (k_draw : PySem.W.keepIn K (.ref f_draw) = true)
    (a_actor : PySem.W.nsIn K mainGlobals "_law_actor" = some (some (.ref f_actor)))
    (l_actor : K.lookup f_actor = some ⟨oc_actor, od_actor, .func (PySem.W.fnOf "_law_actor" "_law_actor" (defArgs s_actor) (defBody s_actor) (defScope s_actor) .none kV_actor dc_actor pm_actor an_actor cd_actor ct_actor), sl_actor⟩)
    (cc_actor : PySem.W.codeIn K cd_actor "_law_actor" = true)
    (k_actor : PySem.W.keepIn K (.ref f_actor) = true)
    (a_steps : PySem.W.nsIn K mainGlobals "_law_steps" = some (some (.ref f_steps)))
    (l_steps : K.lookup f_steps = some ⟨oc_steps, od_steps, .func (PySem.W.fnOf "_law_steps" "_law_steps" (defArgs s_steps) (defBody s_steps) (defScope s_steps) .none kV_steps dc_steps pm_steps an_steps cd_steps ct_steps), sl_steps⟩)
    (cc_steps : PySem.W.codeIn K cd_steps "_law_steps" = true)
    (k_steps : PySem.W.keepIn K (.ref f_steps) = true)
    (a_more_cases : PySem.W.nsIn K mainGlobals "_law_more_cases" = some (some (.ref f_more_cases)))
    (l_more_cases : K.lookup f_more_cases = some ⟨oc_more_cases, od_more_cases, .func (PySem.W.fnOf "_law_more_cases" "_law_more_cases" (defArgs s_more_cases) (defBody s_more_cases) (defScope s_more_cases) .none kV_more_cases dc_more_cases pm_more_cases an_more_cases cd_more_cases ct_more_cases), sl_more_cases⟩)
    (cc_more_cases : PySem.W.codeIn K cd_more_cases "_law_more_cases" = true)
    (k_more_cases : PySem.W.keepIn K (.ref f_more_cases) = true)
    (a_cases : PySem.W.nsIn K mainGlobals "_law_cases" = some (some (.ref f_cases)))
    (l_cases : K.lookup f_cases = some ⟨oc_cases, od_cases, .func (PySem.W.fnOf "_law_cases" "_law_cases" (defArgs s_cases) (defBody s_cases) (defScope s_cases) .none kV_cases dc_cases pm_cases an_cases cd_cases ct_cases), sl_cases⟩)
    (cc_cases : PySem.W.codeIn K cd_cases "_law_cases" = true)
    (k_cases : PySem.W.keepIn K (.ref f_cases) = true)
    (a_law : PySem.W.nsIn K mainGlobals "law" = some (some (.ref f_law)))
    (l_law : K.lookup f_law = some ⟨oc_law, od_law, .func (PySem.W.fnOf "law" "law" (defArgs s_law) (defBody s_law) (defScope s_law) .none kV_law dc_law pm_law an_law cd_law ct_law), sl_law⟩)
    (cc_law : PySem.W.codeIn K cd_law "law" = true)
    (k_law : PySem.W.keepIn K (.ref f_law) = true)
    (g_Layout : PySem.W.nsIn K mainGlobals "Layout" = some (some (.ref c_Layout)))
    (pg_Layout : PySem.W.plainGet K c_Layout Str.empty = true)
    (hd_Layout : PySem.W.hasDictIn K c_Layout = true)
    (po_Layout : PySem.W.plainOver K c_Layout = true)
    (sa_Layout : PySem.W.findIn K (.ref c_Layout) "__setattr__" = some (some (.builtin "object.__setattr__")))
    (mk_Layout : PySem.W.makesIn K c_Layout = true)
    (kp_Layout : PySem.W.keepIn K (.ref c_Layout) = true)
    (g_Run : PySem.W.nsIn K mainGlobals "Run" = some (some (.ref c_Run)))
    (pg_Run : PySem.W.plainGet K c_Run Str.empty = true)
    (hd_Run : PySem.W.hasDictIn K c_Run = true)
    (po_Run : PySem.W.plainOver K c_Run = true)
    (sa_Run : PySem.W.findIn K (.ref c_Run) "__setattr__" = some (some (.builtin "object.__setattr__")))
    (mk_Run : PySem.W.makesIn K c_Run = true)
    (kp_Run : PySem.W.keepIn K (.ref c_Run) = true)
    (g_World : PySem.W.nsIn K mainGlobals "World" = some (some (.ref c_World)))
    (pg_World : PySem.W.plainGet K c_World Str.empty = true)
    (hd_World : PySem.W.hasDictIn K c_World = true)
    (po_World : PySem.W.plainOver K c_World = true)
    (sa_World : PySem.W.findIn K (.ref c_World) "__setattr__" = some (some (.builtin "object.__setattr__")))
    (mk_World : PySem.W.makesIn K c_World = true)
    (kp_World : PySem.W.keepIn K (.ref c_World) = true)
    (no_Layout_actor : PySem.W.findIn K (.ref c_Layout) "actor" = some none)
    (no_Run_begun : PySem.W.findIn K (.ref c_Run) "begun" = some none)
    (no_Layout_blocks : PySem.W.findIn K (.ref c_Layout) "blocks" = some none)
    (no_Layout_bounds : PySem.W.findIn K (.ref c_Layout) "bounds" = some none)
    (no_Run_call : PySem.W.findIn K (.ref c_Run) "call" = some none)
    (no_Run_cells : PySem.W.findIn K (.ref c_Run) "cells" = some none)
    (no_Run_ended : PySem.W.findIn K (.ref c_Run) "ended" = some none)
    (no_Layout_first : PySem.W.findIn K (.ref c_Layout) "first" = some none)
    (no_World_flags : PySem.W.findIn K (.ref c_World) "flags" = some none)
    (no_Run_flags : PySem.W.findIn K (.ref c_Run) "flags" = some none)
    (no_Layout_flags : PySem.W.findIn K (.ref c_Layout) "flags" = some none)
    (no_Run_found : PySem.W.findIn K (.ref c_Run) "found" = some none)
    (no_Layout_has_sweep : PySem.W.findIn K (.ref c_Layout) "has_sweep" = some none)
    (no_Layout_jumps : PySem.W.findIn K (.ref c_Layout) "jumps" = some none)
    (no_World_layout : PySem.W.findIn K (.ref c_World) "layout" = some none)
    (no_Run_layout : PySem.W.findIn K (.ref c_Run) "layout" = some none)
    (no_Layout_lines : PySem.W.findIn K (.ref c_Layout) "lines" = some none)
    (no_Layout_marks : PySem.W.findIn K (.ref c_Layout) "marks" = some none)
    (no_Run_olds : PySem.W.findIn K (.ref c_Run) "olds" = some none)
    (no_Layout_owners : PySem.W.findIn K (.ref c_Layout) "owners" = some none)
    (no_Run_places : PySem.W.findIn K (.ref c_Run) "places" = some none)
    (no_World_readers : PySem.W.findIn K (.ref c_World) "readers" = some none)
    (no_Layout_readers : PySem.W.findIn K (.ref c_Layout) "readers" = some none)
    (no_World_readings : PySem.W.findIn K (.ref c_World) "readings" = some none)
    (no_Layout_readings : PySem.W.findIn K (.ref c_Layout) "readings" = some none)
    (no_World_registers : PySem.W.findIn K (.ref c_World) "registers" = some none)
    (no_Layout_registers : PySem.W.findIn K (.ref c_Layout) "registers" = some none)
    (no_Run_rows : PySem.W.findIn K (.ref c_Run) "rows" = some none)
    (no_World_text : PySem.W.findIn K (.ref c_World) "text" = some none)
    (ga_LETTERS : PySem.W.nsIn K mainGlobals "LETTERS" = some (some (.str "abcdefghijklmnopqrstuvwxyz" t_LETTERS)))
    (ga_LONGEST_NAME : PySem.W.nsIn K mainGlobals "LONGEST_NAME" = some (some (.int 12 t_LONGEST_NAME)))
    (ga_NUMBERS : PySem.W.nsIn K mainGlobals "NUMBERS" = some (some (.ref d_NUMBERS)))
    (gl_NUMBERS : K.lookup d_NUMBERS = some ⟨.type "tuple", od_NUMBERS, .seq #[.str "0" t_NUMBERS_0, .str "1" t_NUMBERS_1, .str "2" t_NUMBERS_2, .str "3" t_NUMBERS_3] n_NUMBERS, sl_NUMBERS⟩)
    (ga_DIRECTIONS : PySem.W.nsIn K mainGlobals "DIRECTIONS" = some (some (.ref d_DIRECTIONS)))
    (gl_DIRECTIONS : K.lookup d_DIRECTIONS = some ⟨.type "tuple", od_DIRECTIONS, .seq #[.str "up" t_DIRECTIONS_0, .str "down" t_DIRECTIONS_1] n_DIRECTIONS, sl_DIRECTIONS⟩)
    (ga_WRITER : PySem.W.nsIn K mainGlobals "WRITER" = some (some (.str "writer" t_WRITER)))
    (ga_NO_NAMES : PySem.W.nsIn K mainGlobals "NO_NAMES" = some (some (.ref d_NO_NAMES)))
    (gl_NO_NAMES : K.lookup d_NO_NAMES = some ⟨.type "tuple", od_NO_NAMES, .seq #[.str "flag" t_NO_NAMES_0, .str "register" t_NO_NAMES_1, .str "writer" t_NO_NAMES_2, .str "reader" t_NO_NAMES_3, .str "write" t_NO_NAMES_4, .str "read" t_NO_NAMES_5, .str "up" t_NO_NAMES_6, .str "down" t_NO_NAMES_7, .str "as" t_NO_NAMES_8, .str "set" t_NO_NAMES_9, .str "step" t_NO_NAMES_10, .str "look" t_NO_NAMES_11, .str "wait" t_NO_NAMES_12, .str "if" t_NO_NAMES_13, .str "is" t_NO_NAMES_14, .str "else" t_NO_NAMES_15, .str "end" t_NO_NAMES_16, .str "again" t_NO_NAMES_17, .str "old" t_NO_NAMES_18, .str "new" t_NO_NAMES_19, .str "then" t_NO_NAMES_20, .str "whole" t_NO_NAMES_21, .str "any" t_NO_NAMES_22, .str "perhaps" t_NO_NAMES_23] n_NO_NAMES, sl_NO_NAMES⟩)
    (ga_MOST_LINES : PySem.W.nsIn K mainGlobals "MOST_LINES" = some (some (.int 40 t_MOST_LINES)))
    (ga_MOST_FLAGS : PySem.W.nsIn K mainGlobals "MOST_FLAGS" = some (some (.int 3 t_MOST_FLAGS)))
    (ga_MOST_REGISTERS : PySem.W.nsIn K mainGlobals "MOST_REGISTERS" = some (some (.int 2 t_MOST_REGISTERS)))
    (ga_MOST_READERS : PySem.W.nsIn K mainGlobals "MOST_READERS" = some (some (.int 2 t_MOST_READERS)))
    (ga_MOST_BLOCKS : PySem.W.nsIn K mainGlobals "MOST_BLOCKS" = some (some (.int 3 t_MOST_BLOCKS)))
    (ga_BOUNDS : PySem.W.nsIn K mainGlobals "BOUNDS" = some (some (.ref d_BOUNDS)))
    (gl_BOUNDS : K.lookup d_BOUNDS = some ⟨.type "tuple", od_BOUNDS, .seq #[.str "2" t_BOUNDS_0, .str "3" t_BOUNDS_1, .str "4" t_BOUNDS_2] n_BOUNDS, sl_BOUNDS⟩)
    (ga_HEADS : PySem.W.nsIn K mainGlobals "HEADS" = some (some (.ref d_HEADS)))
    (gl_HEADS : K.lookup d_HEADS = some ⟨.type "dict", none, .dict #[⟨PyData.keyHash w.params "flag", .str "flag" t_HEADS_0, .ref f_read_flag⟩, ⟨PyData.keyHash w.params "register", .str "register" t_HEADS_1, .ref f_read_register⟩, ⟨PyData.keyHash w.params "writer", .str "writer" t_HEADS_2, .ref f_read_writer⟩, ⟨PyData.keyHash w.params "reader", .str "reader" t_HEADS_3, .ref f_read_reader⟩] n_HEADS, #[]⟩)
    (gs_HEADS : (d_HEADS == sysModules) = false)
    (ga_FORMS : PySem.W.nsIn K mainGlobals "FORMS" = some (some (.ref d_FORMS)))
    (gl_FORMS : K.lookup d_FORMS = some ⟨.type "dict", none, .dict #[⟨PyData.keyHash w.params "write", .str "write" t_FORMS_0, .ref f_read_write⟩, ⟨PyData.keyHash w.params "read", .str "read" t_FORMS_1, .ref f_read_read⟩, ⟨PyData.keyHash w.params "set", .str "set" t_FORMS_2, .ref f_read_flag_and_number⟩, ⟨PyData.keyHash w.params "wait", .str "wait" t_FORMS_3, .ref f_read_flag_and_number⟩, ⟨PyData.keyHash w.params "step", .str "step" t_FORMS_4, .ref f_read_step⟩, ⟨PyData.keyHash w.params "look", .str "look" t_FORMS_5, .ref f_read_look⟩, ⟨PyData.keyHash w.params "if", .str "if" t_FORMS_6, .ref f_read_if⟩, ⟨PyData.keyHash w.params "else", .str "else" t_FORMS_7, .ref f_read_else⟩, ⟨PyData.keyHash w.params "end", .str "end" t_FORMS_8, .ref f_read_end⟩, ⟨PyData.keyHash w.params "again", .str "again" t_FORMS_9, .ref f_read_again⟩] n_FORMS, #[]⟩)
    (gs_FORMS : (d_FORMS == sysModules) = false)
    (ga_SWEEPS : PySem.W.nsIn K mainGlobals "SWEEPS" = some (some (.ref d_SWEEPS)))
    (gl_SWEEPS : K.lookup d_SWEEPS = some ⟨.type "tuple", od_SWEEPS, .seq #[.str "write" t_SWEEPS_0, .str "read" t_SWEEPS_1] n_SWEEPS, sl_SWEEPS⟩)
    (aE_BadValues : PySem.W.nsIn K mainGlobals "BadValues" = some (some (.ref cE_BadValues)))
    (xL_BadValues : K.lookup cE_BadValues = some (excClassObj nm_BadValues q_BadValues cE_BadValues N_BadValues bs_BadValues bm_BadValues true sn_BadValues sub_BadValues ab_BadValues col_BadValues dd_BadValues m0_BadValues m1_BadValues m2_BadValues m3_BadValues m5_BadValues "ValueError.__new__"))
    (rv_BadValues : PySem.HandSPX.refsVE bm_BadValues = true)
    (sa_BadValues : PySem.W.findIn K (.ref cE_BadValues) "__setattr__" = some (some (.builtin "object.__setattr__")))
    (bE_BadValues : PySem.W.subIn K (.ref cE_BadValues) (.type "BaseException") = some true)
    (tE_BadValues : PySem.W.typeIn K (.ref cE_BadValues) = some (.type "type"))
    (kE_BadValues : PySem.W.keepIn K (.ref cE_BadValues) = true)
    (no_BadValues : PySem.W.findIn K (.ref cE_BadValues) "index" = some none)
    (in_BadValues : PySem.W.findIn K (.ref cE_BadValues) "__init__" = some (some (.ref fI_BadValues)))
    (ti_BadValues : PySem.W.typeIn K (.ref fI_BadValues) = some (.type "function"))
    (lI_BadValues : K.lookup fI_BadValues = some ⟨ocI_BadValues, odI_BadValues, .func (PySem.W.fnOf "__init__" "BadValues.__init__" (defArgs s_BadValues___init) (defBody s_BadValues___init) (defScope s_BadValues___init) .none kVI_BadValues dcI_BadValues pmI_BadValues anI_BadValues cdI_BadValues ctI_BadValues), slI_BadValues⟩)
    (cI_BadValues : PySem.W.codeIn K cdI_BadValues "BadValues.__init__" = true)
    (kI_BadValues : PySem.W.keepIn K (.ref fI_BadValues) = true)
    (ga_EBadValues : PySem.W.findIn K (.ref cE_BadValues) "__getattribute__" = some (some (.builtin "BaseException.__getattribute__")))
    (gg_BadValues : PySem.W.findIn K (.ref cE_BadValues) "__getattr__" = some none)
    (hd_BadValues : PySem.W.hasDictIn K cE_BadValues = true)
    (iE_BadValues : PySem.W.isClsIn K cE_BadValues = true)
    (sE_BadValues : PySem.W.subIn K (.ref cE_BadValues) (.ref cE_BadValues) = some true)
    (aE_BadWorld : PySem.W.nsIn K mainGlobals "BadWorld" = some (some (.ref cE_BadWorld)))
    (xL_BadWorld : K.lookup cE_BadWorld = some (excClassObj nm_BadWorld q_BadWorld cE_BadWorld N_BadWorld bs_BadWorld bm_BadWorld true sn_BadWorld sub_BadWorld ab_BadWorld col_BadWorld dd_BadWorld m0_BadWorld m1_BadWorld m2_BadWorld m3_BadWorld m5_BadWorld "ValueError.__new__"))
    (rv_BadWorld : PySem.HandSPX.refsVE bm_BadWorld = true)
    (sa_BadWorld : PySem.W.findIn K (.ref cE_BadWorld) "__setattr__" = some (some (.builtin "object.__setattr__")))
    (bE_BadWorld : PySem.W.subIn K (.ref cE_BadWorld) (.type "BaseException") = some true)
    (tE_BadWorld : PySem.W.typeIn K (.ref cE_BadWorld) = some (.type "type"))
    (kE_BadWorld : PySem.W.keepIn K (.ref cE_BadWorld) = true)
    (no_BadWorld : PySem.W.findIn K (.ref cE_BadWorld) "line" = some none)
    (in_BadWorld : PySem.W.findIn K (.ref cE_BadWorld) "__init__" = some (some (.ref fI_BadWorld)))
    (ti_BadWorld : PySem.W.typeIn K (.ref fI_BadWorld) = some (.type "function"))
    (lI_BadWorld : K.lookup fI_BadWorld = some ⟨ocI_BadWorld, odI_BadWorld, .func (PySem.W.fnOf "__init__" "BadWorld.__init__" (defArgs s_BadWorld___init) (defBody s_BadWorld___init) (defScope s_BadWorld___init) .none kVI_BadWorld dcI_BadWorld pmI_BadWorld anI_BadWorld cdI_BadWorld ctI_BadWorld), slI_BadWorld⟩)
    (cI_BadWorld : PySem.W.codeIn K cdI_BadWorld "BadWorld.__init__" = true)
    (kI_BadWorld : PySem.W.keepIn K (.ref fI_BadWorld) = true)
    (ga_EBadWorld : PySem.W.findIn K (.ref cE_BadWorld) "__getattribute__" = some (some (.builtin "BaseException.__getattribute__")))
    (gg_BadWorld : PySem.W.findIn K (.ref cE_BadWorld) "__getattr__" = some none)
    (hd_BadWorld : PySem.W.hasDictIn K cE_BadWorld = true)
    (iE_BadWorld : PySem.W.isClsIn K cE_BadWorld = true)
    (sE_BadWorld : PySem.W.subIn K (.ref cE_BadWorld) (.ref cE_BadWorld) = some true)
    (aE_NoActor : PySem.W.nsIn K mainGlobals "NoActor" = some (some (.ref cE_NoActor)))
    (xL_NoActor : K.lookup cE_NoActor = some (excClassObj nm_NoActor q_NoActor cE_NoActor N_NoActor bs_NoActor bm_NoActor true sn_NoActor sub_NoActor ab_NoActor col_NoActor dd_NoActor m0_NoActor m1_NoActor m2_NoActor m3_NoActor m5_NoActor "ValueError.__new__"))
    (rv_NoActor : PySem.HandSPX.refsVE bm_NoActor = true)
    (sa_NoActor : PySem.W.findIn K (.ref cE_NoActor) "__setattr__" = some (some (.builtin "object.__setattr__")))
    (bE_NoActor : PySem.W.subIn K (.ref cE_NoActor) (.type "BaseException") = some true)
    (tE_NoActor : PySem.W.typeIn K (.ref cE_NoActor) = some (.type "type"))
    (kE_NoActor : PySem.W.keepIn K (.ref cE_NoActor) = true)
    (no_NoActor : PySem.W.findIn K (.ref cE_NoActor) "name" = some none)
    (in_NoActor : PySem.W.findIn K (.ref cE_NoActor) "__init__" = some (some (.ref fI_NoActor)))
    (ti_NoActor : PySem.W.typeIn K (.ref fI_NoActor) = some (.type "function"))
    (lI_NoActor : K.lookup fI_NoActor = some ⟨ocI_NoActor, odI_NoActor, .func (PySem.W.fnOf "__init__" "NoActor.__init__" (defArgs s_NoActor___init) (defBody s_NoActor___init) (defScope s_NoActor___init) .none kVI_NoActor dcI_NoActor pmI_NoActor anI_NoActor cdI_NoActor ctI_NoActor), slI_NoActor⟩)
    (cI_NoActor : PySem.W.codeIn K cdI_NoActor "NoActor.__init__" = true)
    (kI_NoActor : PySem.W.keepIn K (.ref fI_NoActor) = true)
    (ga_ENoActor : PySem.W.findIn K (.ref cE_NoActor) "__getattribute__" = some (some (.builtin "BaseException.__getattribute__")))
    (gg_NoActor : PySem.W.findIn K (.ref cE_NoActor) "__getattr__" = some none)
    (hd_NoActor : PySem.W.hasDictIn K cE_NoActor = true)
    (iE_NoActor : PySem.W.isClsIn K cE_NoActor = true)
    (sE_NoActor : PySem.W.subIn K (.ref cE_NoActor) (.ref cE_NoActor) = some true)
    (z_abs : PySem.W.nsIn K mainGlobals "abs" = some none)
    (z_all : PySem.W.nsIn K mainGlobals "all" = some none)
    (z_dict : PySem.W.nsIn K mainGlobals "dict" = some none)
    (z_enumerate : PySem.W.nsIn K mainGlobals "enumerate" = some none)
    (z_int : PySem.W.nsIn K mainGlobals "int" = some none)
    (z_isinstance : PySem.W.nsIn K mainGlobals "isinstance" = some none)
    (z_len : PySem.W.nsIn K mainGlobals "len" = some none)
    (z_list : PySem.W.nsIn K mainGlobals "list" = some none)
    (z_max : PySem.W.nsIn K mainGlobals "max" = some none)
    (z_min : PySem.W.nsIn K mainGlobals "min" = some none)
    (z_range : PySem.W.nsIn K mainGlobals "range" = some none)
    (z_repr : PySem.W.nsIn K mainGlobals "repr" = some none)
    (z_sorted : PySem.W.nsIn K mainGlobals "sorted" = some none)
    (z_str : PySem.W.nsIn K mainGlobals "str" = some none)
    (z_sum : PySem.W.nsIn K mainGlobals "sum" = some none)
    (z_tuple : PySem.W.nsIn K mainGlobals "tuple" = some none)
    (z_zip : PySem.W.nsIn K mainGlobals "zip" = some none)
    (z_ValueError : PySem.W.nsIn K mainGlobals "ValueError" = some none) (true_ : ∀ ns : List Int, ns.length ≤ 63 → ∃ h', fnOf N_law.length m_law [.scr (ns.map .int)] [] = .ok (.bl true) h') :
    ∃ fd : FuncData, (∀ (s : Shared) (v : Value), BindsTo s fd ⟨[v], []⟩ [("script", v)]) ∧ ∀ base : Heap, K.In base → base.Ns mainGlobals mg → Dg.FnG P w K mg base CX0 10 fa fd ["script"] (spLaw K) := by
  have e := hfa.symm.trans (PySem.W.mg_of X G a_law)
  cases e
  have F_lines_of := fun_mk (st := s_lines_of) l_lines_of cc_lines_of k_lines_of
  have b_lines_of := F_lines_of.binds (ps := P_lines_of) fun _ _ _ _ _ _ us hl => match us, hl with | [_], _ => rfl
  have F_is_name := fun_mk (st := s_is_name) l_is_name cc_is_name k_is_name
  have b_is_name := F_is_name.binds (ps := P_is_name) fun _ _ _ _ _ _ us hl => match us, hl with | [_], _ => rfl
  have F_Layout___init := fun_mk (st := s_Layout___init) l_Layout___init cc_Layout___init k_Layout___init
  have b_Layout___init := F_Layout___init.binds (ps := P_Layout___init) fun _ _ _ _ _ _ us hl => match us, hl with | [_], _ => rfl
  have F_is_new_name := fun_mk (st := s_is_new_name) l_is_new_name cc_is_new_name k_is_new_name
  have b_is_new_name := F_is_new_name.binds (ps := P_is_new_name) fun _ _ _ _ _ _ us hl => match us, hl with | [_, _], _ => rfl
  have F_is_complete := fun_mk (st := s_is_complete) l_is_complete cc_is_complete k_is_complete
  have b_is_complete := F_is_complete.binds (ps := P_is_complete) fun _ _ _ _ _ _ us hl => match us, hl with | [_], _ => rfl
  have F_begin_actor := fun_mk (st := s_begin_actor) l_begin_actor cc_begin_actor k_begin_actor
  have b_begin_actor := F_begin_actor.binds (ps := P_begin_actor) fun _ _ _ _ _ _ us hl => match us, hl with | [_, _, _], _ => rfl
  have F_read_flag := fun_mk (st := s_read_flag) l_read_flag cc_read_flag k_read_flag
  have b_read_flag := F_read_flag.binds (ps := P_read_flag) fun _ _ _ _ _ _ us hl => match us, hl with | [_, _, _], _ => rfl
  have F_read_register := fun_mk (st := s_read_register) l_read_register cc_read_register k_read_register
  have b_read_register := F_read_register.binds (ps := P_read_register) fun _ _ _ _ _ _ us hl => match us, hl with | [_, _, _], _ => rfl
  have F_read_writer := fun_mk (st := s_read_writer) l_read_writer cc_read_writer k_read_writer
  have b_read_writer := F_read_writer.binds (ps := P_read_writer) fun _ _ _ _ _ _ us hl => match us, hl with | [_, _, _], _ => rfl
  have F_read_reader := fun_mk (st := s_read_reader) l_read_reader cc_read_reader k_read_reader
  have b_read_reader := F_read_reader.binds (ps := P_read_reader) fun _ _ _ _ _ _ us hl => match us, hl with | [_, _, _], _ => rfl
  have F_read_write := fun_mk (st := s_read_write) l_read_write cc_read_write k_read_write
  have b_read_write := F_read_write.binds (ps := P_read_write) fun _ _ _ _ _ _ us hl => match us, hl with | [_, _, _], _ => rfl
  have F_read_read := fun_mk (st := s_read_read) l_read_read cc_read_read k_read_read
  have b_read_read := F_read_read.binds (ps := P_read_read) fun _ _ _ _ _ _ us hl => match us, hl with | [_, _, _], _ => rfl
  have F_read_flag_and_number := fun_mk (st := s_read_flag_and_number) l_read_flag_and_number cc_read_flag_and_number k_read_flag_and_number
  have b_read_flag_and_number := F_read_flag_and_number.binds (ps := P_read_flag_and_number) fun _ _ _ _ _ _ us hl => match us, hl with | [_, _, _], _ => rfl
  have F_read_step := fun_mk (st := s_read_step) l_read_step cc_read_step k_read_step
  have b_read_step := F_read_step.binds (ps := P_read_step) fun _ _ _ _ _ _ us hl => match us, hl with | [_, _, _], _ => rfl
  have F_read_look := fun_mk (st := s_read_look) l_read_look cc_read_look k_read_look
  have b_read_look := F_read_look.binds (ps := P_read_look) fun _ _ _ _ _ _ us hl => match us, hl with | [_, _, _], _ => rfl
  have F_read_if := fun_mk (st := s_read_if) l_read_if cc_read_if k_read_if
  have b_read_if := F_read_if.binds (ps := P_read_if) fun _ _ _ _ _ _ us hl => match us, hl with | [_, _, _], _ => rfl
  have F_read_else := fun_mk (st := s_read_else) l_read_else cc_read_else k_read_else
  have b_read_else := F_read_else.binds (ps := P_read_else) fun _ _ _ _ _ _ us hl => match us, hl with | [_, _, _], _ => rfl
  have F_read_end := fun_mk (st := s_read_end) l_read_end cc_read_end k_read_end
  have b_read_end := F_read_end.binds (ps := P_read_end) fun _ _ _ _ _ _ us hl => match us, hl with | [_, _, _], _ => rfl
  have F_read_again := fun_mk (st := s_read_again) l_read_again cc_read_again k_read_again
  have b_read_again := F_read_again.binds (ps := P_read_again) fun _ _ _ _ _ _ us hl => match us, hl with | [_, _, _], _ => rfl
  have F_read_line := fun_mk (st := s_read_line) l_read_line cc_read_line k_read_line
  have b_read_line := F_read_line.binds (ps := P_read_line) fun _ _ _ _ _ _ us hl => match us, hl with | [_, _, _], _ => rfl
  have F_read_layout := fun_mk (st := s_read_layout) l_read_layout cc_read_layout k_read_layout
  have b_read_layout := F_read_layout.binds (ps := P_read_layout) fun _ _ _ _ _ _ us hl => match us, hl with | [_], _ => rfl
  have F_checked_values := fun_mk (st := s_checked_values) l_checked_values cc_checked_values k_checked_values
  have b_checked_values := F_checked_values.binds (ps := P_checked_values) fun _ _ _ _ _ _ us hl => match us, hl with | [_], _ => rfl
  have F_start := fun_mk (st := s_start) l_start cc_start k_start
  have b_start := F_start.binds (ps := P_start) fun _ _ _ _ _ _ us hl => match us, hl with | [_, _], _ => rfl
  have F_swept_cell := fun_mk (st := s_swept_cell) l_swept_cell cc_swept_cell k_swept_cell
  have b_swept_cell := F_swept_cell.binds (ps := P_swept_cell) fun _ _ _ _ _ _ us hl => match us, hl with | [_, _, _], _ => rfl
  have F_next_line := fun_mk (st := s_next_line) l_next_line cc_next_line k_next_line
  have b_next_line := F_next_line.binds (ps := P_next_line) fun _ _ _ _ _ _ us hl => match us, hl with | [_, _], _ => rfl
  have F_place_at := fun_mk (st := s_place_at) l_place_at cc_place_at k_place_at
  have b_place_at := F_place_at.binds (ps := P_place_at) fun _ _ _ _ _ _ us hl => match us, hl with | [_, _, _], _ => rfl
  have F_place_in_sweep := fun_mk (st := s_place_in_sweep) l_place_in_sweep cc_place_in_sweep k_place_in_sweep
  have b_place_in_sweep := F_place_in_sweep.binds (ps := P_place_in_sweep) fun _ _ _ _ _ _ us hl => match us, hl with | [_, _, _], _ => rfl
  have F_put := fun_mk (st := s_put) l_put cc_put k_put
  have b_put := F_put.binds (ps := P_put) fun _ _ _ _ _ _ us hl => match us, hl with | [_, _, _], _ => rfl
  have F_flag_holds := fun_mk (st := s_flag_holds) l_flag_holds cc_flag_holds k_flag_holds
  have b_flag_holds := F_flag_holds.binds (ps := P_flag_holds) fun _ _ _ _ _ _ us hl => match us, hl with | [_, _, _], _ => rfl
  have F_flags_behind := fun_mk (st := s_flags_behind) l_flags_behind cc_flags_behind k_flags_behind
  have b_flags_behind := F_flags_behind.binds (ps := P_flags_behind) fun _ _ _ _ _ _ us hl => match us, hl with | [_, _, _], _ => rfl
  have F_marks_behind := fun_mk (st := s_marks_behind) l_marks_behind cc_marks_behind k_marks_behind
  have b_marks_behind := F_marks_behind.binds (ps := P_marks_behind) fun _ _ _ _ _ _ us hl => match us, hl with | [_, _, _, _, _], _ => rfl
  have F_mark_holds := fun_mk (st := s_mark_holds) l_mark_holds cc_mark_holds k_mark_holds
  have b_mark_holds := F_mark_holds.binds (ps := P_mark_holds) fun _ _ _ _ _ _ us hl => match us, hl with | [_, _, _], _ => rfl
  have F_is_same := fun_mk (st := s_is_same) l_is_same cc_is_same k_is_same
  have b_is_same := F_is_same.binds (ps := P_is_same) fun _ _ _ _ _ _ us hl => match us, hl with | [_, _, _], _ => rfl
  have F_move := fun_mk (st := s_move) l_move cc_move k_move
  have b_move := F_move.binds (ps := P_move) fun _ _ _ _ _ _ us hl => match us, hl with | [_, _, _, _, _], _ => rfl
  have F_checked_actors := fun_mk (st := s_checked_actors) l_checked_actors cc_checked_actors k_checked_actors
  have b_checked_actors := F_checked_actors.binds (ps := P_checked_actors) fun _ _ _ _ _ _ us hl => match us, hl with | [_, _], _ => rfl
  have F_Run___init := fun_mk (st := s_Run___init) l_Run___init cc_Run___init k_Run___init
  have b_Run___init := F_Run___init.binds (ps := P_Run___init) fun _ _ _ _ _ _ us hl => match us, hl with | [_, _, _], _ => rfl
  have F_Run_begin_round := fun_mk (st := s_Run_begin_round) l_Run_begin_round cc_Run_begin_round k_Run_begin_round
  have b_Run_begin_round := F_Run_begin_round.binds (ps := P_Run_begin_round) fun _ _ _ _ _ _ us hl => match us, hl with | [_, _], _ => rfl
  have F_Run_begin := fun_mk (st := s_Run_begin) l_Run_begin cc_Run_begin k_Run_begin
  have b_Run_begin := F_Run_begin.binds (ps := P_Run_begin) fun _ _ _ _ _ _ us hl => match us, hl with | [_, _], _ => rfl
  have F_Run_forget := fun_mk (st := s_Run_forget) l_Run_forget cc_Run_forget k_Run_forget
  have b_Run_forget := F_Run_forget.binds (ps := P_Run_forget) fun _ _ _ _ _ _ us hl => match us, hl with | [_, _], _ => rfl
  have F_Run_keep := fun_mk (st := s_Run_keep) l_Run_keep cc_Run_keep k_Run_keep
  have b_Run_keep := F_Run_keep.binds (ps := P_Run_keep) fun _ _ _ _ _ _ us hl => match us, hl with | [_, _, _, _], _ => rfl
  have F_Run_finish := fun_mk (st := s_Run_finish) l_Run_finish cc_Run_finish k_Run_finish
  have b_Run_finish := F_Run_finish.binds (ps := P_Run_finish) fun _ _ _ _ _ _ us hl => match us, hl with | [_, _], _ => rfl
  have F_Run_step := fun_mk (st := s_Run_step) l_Run_step cc_Run_step k_Run_step
  have b_Run_step := F_Run_step.binds (ps := P_Run_step) fun _ _ _ _ _ _ us hl => match us, hl with | [_, _], _ => rfl
  have F_World___init := fun_mk (st := s_World___init) l_World___init cc_World___init k_World___init
  have b_World___init := F_World___init.binds (ps := P_World___init) fun _ _ _ _ _ _ us hl => match us, hl with | [_, _], _ => rfl
  have F_World_run := fun_mk (st := s_World_run) l_World_run cc_World_run k_World_run
  have b_World_run := F_World_run.binds (ps := P_World_run) fun _ _ _ _ _ _ us hl => match us, hl with | [_, _, _], _ => rfl
  have F_World_steps := fun_mk (st := s_World_steps) l_World_steps cc_World_steps k_World_steps
  have b_World_steps := F_World_steps.binds (ps := P_World_steps) fun _ _ _ _ _ _ us hl => match us, hl with | [_, _, _], _ => rfl
  have F_begun_pen := fun_mk (st := s_begun_pen) l_begun_pen cc_begun_pen k_begun_pen
  have b_begun_pen := F_begun_pen.binds (ps := P_begun_pen) fun _ _ _ _ _ _ us hl => match us, hl with | [_], _ => rfl
  have F_draw := fun_mk (st := s_draw) l_draw cc_draw k_draw
  have b_draw := F_draw.binds (ps := P_draw) fun _ _ _ _ _ _ us hl => match us, hl with | [_, _], _ => rfl
  have F_actor := fun_mk (st := s_actor) l_actor cc_actor k_actor
  have b_actor := F_actor.binds (ps := P_actor) fun _ _ _ _ _ _ us hl => match us, hl with | [_], _ => rfl
  have F_steps := fun_mk (st := s_steps) l_steps cc_steps k_steps
  have b_steps := F_steps.binds (ps := P_steps) fun _ _ _ _ _ _ us hl => match us, hl with | [_], _ => rfl
  have F_more_cases := fun_mk (st := s_more_cases) l_more_cases cc_more_cases k_more_cases
  have b_more_cases := F_more_cases.binds (ps := P_more_cases) fun _ _ _ _ _ _ us hl => match us, hl with | [], _ => rfl
  have F_cases := fun_mk (st := s_cases) l_cases cc_cases k_cases
  have b_cases := F_cases.binds (ps := P_cases) fun _ _ _ _ _ _ us hl => match us, hl with | [], _ => rfl
  have F_law := fun_mk (st := s_law) l_law cc_law k_law
  have L_Layout : Cls K c_Layout := ⟨pg_Layout, hd_Layout, po_Layout, sa_Layout⟩
  have L_Run : Cls K c_Run := ⟨pg_Run, hd_Run, po_Run, sa_Run⟩
  have L_World : Cls K c_World := ⟨pg_World, hd_World, po_World, sa_World⟩
  have FF_actor : FldOk K mg "actor" cl_actor := (fld_cons (PySem.W.mg_of X G g_Layout) L_Layout no_Layout_actor fld_nil)
  have FF_begun : FldOk K mg "begun" cl_begun := (fld_cons (PySem.W.mg_of X G g_Run) L_Run no_Run_begun fld_nil)
  have FF_blocks : FldOk K mg "blocks" cl_blocks := (fld_cons (PySem.W.mg_of X G g_Layout) L_Layout no_Layout_blocks fld_nil)
  have FF_bounds : FldOk K mg "bounds" cl_bounds := (fld_cons (PySem.W.mg_of X G g_Layout) L_Layout no_Layout_bounds fld_nil)
  have FF_call : FldOk K mg "call" cl_call := (fld_cons (PySem.W.mg_of X G g_Run) L_Run no_Run_call fld_nil)
  have FF_cells : FldOk K mg "cells" cl_cells := (fld_cons (PySem.W.mg_of X G g_Run) L_Run no_Run_cells fld_nil)
  have FF_ended : FldOk K mg "ended" cl_ended := (fld_cons (PySem.W.mg_of X G g_Run) L_Run no_Run_ended fld_nil)
  have FF_first : FldOk K mg "first" cl_first := (fld_cons (PySem.W.mg_of X G g_Layout) L_Layout no_Layout_first fld_nil)
  have FF_flags : FldOk K mg "flags" cl_flags := (fld_cons (PySem.W.mg_of X G g_Layout) L_Layout no_Layout_flags (fld_cons (PySem.W.mg_of X G g_Run) L_Run no_Run_flags (fld_cons (PySem.W.mg_of X G g_World) L_World no_World_flags fld_nil)))
  have FF_found : FldOk K mg "found" cl_found := (fld_cons (PySem.W.mg_of X G g_Run) L_Run no_Run_found fld_nil)
  have FF_has_sweep : FldOk K mg "has_sweep" cl_has_sweep := (fld_cons (PySem.W.mg_of X G g_Layout) L_Layout no_Layout_has_sweep fld_nil)
  have FF_jumps : FldOk K mg "jumps" cl_jumps := (fld_cons (PySem.W.mg_of X G g_Layout) L_Layout no_Layout_jumps fld_nil)
  have FF_layout : FldOk K mg "layout" cl_layout := (fld_cons (PySem.W.mg_of X G g_Run) L_Run no_Run_layout (fld_cons (PySem.W.mg_of X G g_World) L_World no_World_layout fld_nil))
  have FF_lines : FldOk K mg "lines" cl_lines := (fld_cons (PySem.W.mg_of X G g_Layout) L_Layout no_Layout_lines fld_nil)
  have FF_marks : FldOk K mg "marks" cl_marks := (fld_cons (PySem.W.mg_of X G g_Layout) L_Layout no_Layout_marks fld_nil)
  have FF_olds : FldOk K mg "olds" cl_olds := (fld_cons (PySem.W.mg_of X G g_Run) L_Run no_Run_olds fld_nil)
  have FF_owners : FldOk K mg "owners" cl_owners := (fld_cons (PySem.W.mg_of X G g_Layout) L_Layout no_Layout_owners fld_nil)
  have FF_places : FldOk K mg "places" cl_places := (fld_cons (PySem.W.mg_of X G g_Run) L_Run no_Run_places fld_nil)
  have FF_readers : FldOk K mg "readers" cl_readers := (fld_cons (PySem.W.mg_of X G g_Layout) L_Layout no_Layout_readers (fld_cons (PySem.W.mg_of X G g_World) L_World no_World_readers fld_nil))
  have FF_readings : FldOk K mg "readings" cl_readings := (fld_cons (PySem.W.mg_of X G g_Layout) L_Layout no_Layout_readings (fld_cons (PySem.W.mg_of X G g_World) L_World no_World_readings fld_nil))
  have FF_registers : FldOk K mg "registers" cl_registers := (fld_cons (PySem.W.mg_of X G g_Layout) L_Layout no_Layout_registers (fld_cons (PySem.W.mg_of X G g_World) L_World no_World_registers fld_nil))
  have FF_rows : FldOk K mg "rows" cl_rows := (fld_cons (PySem.W.mg_of X G g_Run) L_Run no_Run_rows fld_nil)
  have FF_text : FldOk K mg "text" cl_text := (fld_cons (PySem.W.mg_of X G g_World) L_World no_World_text fld_nil)
  have G_LETTERS : GV K mg "LETTERS" c_LETTERS := gv_str (PySem.W.mg_of X G ga_LETTERS)
  have G_LONGEST_NAME : GV K mg "LONGEST_NAME" c_LONGEST_NAME := gv_int (PySem.W.mg_of X G ga_LONGEST_NAME)
  have G_NUMBERS : GV K mg "NUMBERS" c_NUMBERS := gv_strs (us := [.str "0" t_NUMBERS_0, .str "1" t_NUMBERS_1, .str "2" t_NUMBERS_2, .str "3" t_NUMBERS_3]) (ys := ["0", "1", "2", "3"]) (PySem.W.mg_of X G ga_NUMBERS) gl_NUMBERS (Nat.le_of_ble_eq_true rfl) (.cons (.cons (.cons (.cons .nil))))
  have G_DIRECTIONS : GV K mg "DIRECTIONS" c_DIRECTIONS := gv_strs (us := [.str "up" t_DIRECTIONS_0, .str "down" t_DIRECTIONS_1]) (ys := ["up", "down"]) (PySem.W.mg_of X G ga_DIRECTIONS) gl_DIRECTIONS (Nat.le_of_ble_eq_true rfl) (.cons (.cons .nil))
  have G_WRITER : GV K mg "WRITER" c_WRITER := gv_str (PySem.W.mg_of X G ga_WRITER)
  have G_NO_NAMES : GV K mg "NO_NAMES" c_NO_NAMES := gv_strs (us := [.str "flag" t_NO_NAMES_0, .str "register" t_NO_NAMES_1, .str "writer" t_NO_NAMES_2, .str "reader" t_NO_NAMES_3, .str "write" t_NO_NAMES_4, .str "read" t_NO_NAMES_5, .str "up" t_NO_NAMES_6, .str "down" t_NO_NAMES_7, .str "as" t_NO_NAMES_8, .str "set" t_NO_NAMES_9, .str "step" t_NO_NAMES_10, .str "look" t_NO_NAMES_11, .str "wait" t_NO_NAMES_12, .str "if" t_NO_NAMES_13, .str "is" t_NO_NAMES_14, .str "else" t_NO_NAMES_15, .str "end" t_NO_NAMES_16, .str "again" t_NO_NAMES_17, .str "old" t_NO_NAMES_18, .str "new" t_NO_NAMES_19, .str "then" t_NO_NAMES_20, .str "whole" t_NO_NAMES_21, .str "any" t_NO_NAMES_22, .str "perhaps" t_NO_NAMES_23]) (ys := ["flag", "register", "writer", "reader", "write", "read", "up", "down", "as", "set", "step", "look", "wait", "if", "is", "else", "end", "again", "old", "new", "then", "whole", "any", "perhaps"]) (PySem.W.mg_of X G ga_NO_NAMES) gl_NO_NAMES (Nat.le_of_ble_eq_true rfl) (.cons (.cons (.cons (.cons (.cons (.cons (.cons (.cons (.cons (.cons (.cons (.cons (.cons (.cons (.cons (.cons (.cons (.cons (.cons (.cons (.cons (.cons (.cons (.cons .nil))))))))))))))))))))))))
  have G_MOST_LINES : GV K mg "MOST_LINES" c_MOST_LINES := gv_int (PySem.W.mg_of X G ga_MOST_LINES)
  have G_MOST_FLAGS : GV K mg "MOST_FLAGS" c_MOST_FLAGS := gv_int (PySem.W.mg_of X G ga_MOST_FLAGS)
  have G_MOST_REGISTERS : GV K mg "MOST_REGISTERS" c_MOST_REGISTERS := gv_int (PySem.W.mg_of X G ga_MOST_REGISTERS)
  have G_MOST_READERS : GV K mg "MOST_READERS" c_MOST_READERS := gv_int (PySem.W.mg_of X G ga_MOST_READERS)
  have G_MOST_BLOCKS : GV K mg "MOST_BLOCKS" c_MOST_BLOCKS := gv_int (PySem.W.mg_of X G ga_MOST_BLOCKS)
  have G_BOUNDS : GV K mg "BOUNDS" c_BOUNDS := gv_strs (us := [.str "2" t_BOUNDS_0, .str "3" t_BOUNDS_1, .str "4" t_BOUNDS_2]) (ys := ["2", "3", "4"]) (PySem.W.mg_of X G ga_BOUNDS) gl_BOUNDS (Nat.le_of_ble_eq_true rfl) (.cons (.cons (.cons .nil)))
  have KD_HEADS : KdOk K w mg "HEADS" kd_HEADS := kd_mk (es := [("flag", t_HEADS_0, f_read_flag), ("register", t_HEADS_1, f_read_register), ("writer", t_HEADS_2, f_read_writer), ("reader", t_HEADS_3, f_read_reader)]) (PySem.W.mg_of X G ga_HEADS) gl_HEADS gs_HEADS (.cons (PySem.W.mg_of X G a_read_flag) (.cons (PySem.W.mg_of X G a_read_register) (.cons (PySem.W.mg_of X G a_read_writer) (.cons (PySem.W.mg_of X G a_read_reader) .nil))))
  have KD_FORMS : KdOk K w mg "FORMS" kd_FORMS := kd_mk (es := [("write", t_FORMS_0, f_read_write), ("read", t_FORMS_1, f_read_read), ("set", t_FORMS_2, f_read_flag_and_number), ("wait", t_FORMS_3, f_read_flag_and_number), ("step", t_FORMS_4, f_read_step), ("look", t_FORMS_5, f_read_look), ("if", t_FORMS_6, f_read_if), ("else", t_FORMS_7, f_read_else), ("end", t_FORMS_8, f_read_end), ("again", t_FORMS_9, f_read_again)]) (PySem.W.mg_of X G ga_FORMS) gl_FORMS gs_FORMS (.cons (PySem.W.mg_of X G a_read_write) (.cons (PySem.W.mg_of X G a_read_read) (.cons (PySem.W.mg_of X G a_read_flag_and_number) (.cons (PySem.W.mg_of X G a_read_flag_and_number) (.cons (PySem.W.mg_of X G a_read_step) (.cons (PySem.W.mg_of X G a_read_look) (.cons (PySem.W.mg_of X G a_read_if) (.cons (PySem.W.mg_of X G a_read_else) (.cons (PySem.W.mg_of X G a_read_end) (.cons (PySem.W.mg_of X G a_read_again) .nil))))))))))
  have G_SWEEPS : GV K mg "SWEEPS" c_SWEEPS := gv_strs (us := [.str "write" t_SWEEPS_0, .str "read" t_SWEEPS_1]) (ys := ["write", "read"]) (PySem.W.mg_of X G ga_SWEEPS) gl_SWEEPS (Nat.le_of_ble_eq_true rfl) (.cons (.cons .nil))
  have FI_BadValues := fun_mk (st := s_BadValues___init) lI_BadValues cI_BadValues kI_BadValues
  have bI_BadValues := FI_BadValues.binds (ps := ["self", "index"]) fun _ _ _ _ _ _ us hl => match us, hl with | [_, _], _ => rfl
  have T_BadValues : OexC K cE_BadValues := ⟨⟨_, _, _, _, _, _, _, _, _, _, _, _, _, _, _, xL_BadValues, rv_BadValues⟩, sa_BadValues, bE_BadValues, tE_BadValues, kE_BadValues⟩
  have gC_BadValues : mg "BadValues" = some (.ref cE_BadValues) := PySem.W.mg_of X G aE_BadValues
  have FI_BadWorld := fun_mk (st := s_BadWorld___init) lI_BadWorld cI_BadWorld kI_BadWorld
  have bI_BadWorld := FI_BadWorld.binds (ps := ["self", "line"]) fun _ _ _ _ _ _ us hl => match us, hl with | [_, _], _ => rfl
  have T_BadWorld : OexC K cE_BadWorld := ⟨⟨_, _, _, _, _, _, _, _, _, _, _, _, _, _, _, xL_BadWorld, rv_BadWorld⟩, sa_BadWorld, bE_BadWorld, tE_BadWorld, kE_BadWorld⟩
  have gC_BadWorld : mg "BadWorld" = some (.ref cE_BadWorld) := PySem.W.mg_of X G aE_BadWorld
  have FI_NoActor := fun_mk (st := s_NoActor___init) lI_NoActor cI_NoActor kI_NoActor
  have bI_NoActor := FI_NoActor.binds (ps := ["self", "name"]) fun _ _ _ _ _ _ us hl => match us, hl with | [_, _], _ => rfl
  have T_NoActor : OexC K cE_NoActor := ⟨⟨_, _, _, _, _, _, _, _, _, _, _, _, _, _, _, xL_NoActor, rv_NoActor⟩, sa_NoActor, bE_NoActor, tE_NoActor, kE_NoActor⟩
  have gC_NoActor : mg "NoActor" = some (.ref cE_NoActor) := PySem.W.mg_of X G aE_NoActor
  have B : Dg.Bi mg := ⟨PySem.W.mg_none_of X G z_abs, PySem.W.mg_none_of X G z_all, PySem.W.mg_none_of X G z_dict, PySem.W.mg_none_of X G z_enumerate, PySem.W.mg_none_of X G z_int, PySem.W.mg_none_of X G z_isinstance, PySem.W.mg_none_of X G z_len, PySem.W.mg_none_of X G z_list, PySem.W.mg_none_of X G z_max, PySem.W.mg_none_of X G z_min, PySem.W.mg_none_of X G z_range, PySem.W.mg_none_of X G z_repr, PySem.W.mg_none_of X G z_sorted, PySem.W.mg_none_of X G z_str, PySem.W.mg_none_of X G z_sum, PySem.W.mg_none_of X G z_tuple, PySem.W.mg_none_of X G z_zip, PySem.W.mg_none_of X G z_ValueError⟩
  refine ⟨PySem.W.fnOf "law" "law" (defArgs s_law) (defBody s_law) (defScope s_law) .none kV_law dc_law pm_law an_law cd_law ct_law, fun s v => .of_eq rfl, fun base _ _ => ?_⟩
  have O_BadValues : Dg.Ef P w K mg base "BadValues" "index" cE_BadValues := ⟨T_BadValues, gC_BadValues, no_BadValues, ⟨fI_BadValues, _, in_BadValues, ti_BadValues, ok_init_BadValues FI_BadValues T_BadValues no_BadValues, bI_BadValues⟩, ⟨ga_EBadValues, gg_BadValues, bE_BadValues, hd_BadValues⟩, iE_BadValues, sE_BadValues⟩
  have O_BadWorld : Dg.Ef P w K mg base "BadWorld" "line" cE_BadWorld := ⟨T_BadWorld, gC_BadWorld, no_BadWorld, ⟨fI_BadWorld, _, in_BadWorld, ti_BadWorld, ok_init_BadWorld FI_BadWorld T_BadWorld no_BadWorld, bI_BadWorld⟩, ⟨ga_EBadWorld, gg_BadWorld, bE_BadWorld, hd_BadWorld⟩, iE_BadWorld, sE_BadWorld⟩
  have O_NoActor : Dg.Ef P w K mg base "NoActor" "name" cE_NoActor := ⟨T_NoActor, gC_NoActor, no_NoActor, ⟨fI_NoActor, _, in_NoActor, ti_NoActor, ok_init_NoActor FI_NoActor T_NoActor no_NoActor, bI_NoActor⟩, ⟨ga_ENoActor, gg_NoActor, bE_NoActor, hd_NoActor⟩, iE_NoActor, sE_NoActor⟩
  have C_lines_of : Dg.Cal P w K mg base (L2.CX P w) 1 "lines_of" P_lines_of (spC K mg P_lines_of.length S_lines_of) := ⟨f_lines_of, _, ok_lines_of F_lines_of, PySem.W.mg_of X G a_lines_of, k_lines_of, b_lines_of⟩
  have C_is_name : Dg.Cal P w K mg base (L2.CX P w) 1 "is_name" P_is_name (spC K mg P_is_name.length S_is_name) := ⟨f_is_name, _, ok_is_name F_is_name G_NO_NAMES B G_LONGEST_NAME G_LETTERS, PySem.W.mg_of X G a_is_name, k_is_name, b_is_name⟩
  have K_Layout : MakC P w K mg base 1 "Layout" P_Layout___init S_Layout___init := ⟨c_Layout, f_Layout___init, _, PySem.W.mg_of X G g_Layout, ⟨mk_Layout, a_Layout___init, t_Layout___init, kp_Layout⟩, ok_Layout___init F_Layout___init FF_flags FF_registers FF_readers FF_readings FF_owners FF_lines FF_first FF_bounds FF_marks FF_jumps FF_actor FF_has_sweep FF_blocks, b_Layout___init⟩
  have C_is_new_name : Dg.Cal P w K mg base (L2.CX P w) 2 "is_new_name" P_is_new_name (spC K mg P_is_new_name.length S_is_new_name) := ⟨f_is_new_name, _, ok_is_new_name F_is_new_name FF_flags FF_registers FF_readers FF_readings C_is_name, PySem.W.mg_of X G a_is_new_name, k_is_new_name, b_is_new_name⟩
  have C_is_complete : Dg.Cal P w K mg base (L2.CX P w) 1 "is_complete" P_is_complete (spC K mg P_is_complete.length S_is_complete) := ⟨f_is_complete, _, ok_is_complete F_is_complete FF_blocks FF_has_sweep, PySem.W.mg_of X G a_is_complete, k_is_complete, b_is_complete⟩
  have C_begin_actor : Dg.Cal P w K mg base (L2.CX P w) 1 "begin_actor" P_begin_actor (spC K mg P_begin_actor.length S_begin_actor) := ⟨f_begin_actor, _, ok_begin_actor F_begin_actor FF_actor FF_first FF_marks FF_has_sweep, PySem.W.mg_of X G a_begin_actor, k_begin_actor, b_begin_actor⟩
  have C_read_flag : Dg.Cal P w K mg base (L2.CX P w) 3 "read_flag" P_read_flag (spC K mg P_read_flag.length S_read_flag) := ⟨f_read_flag, _, ok_read_flag F_read_flag B FF_flags G_MOST_FLAGS FF_registers G_BOUNDS C_is_new_name FF_bounds, PySem.W.mg_of X G a_read_flag, k_read_flag, b_read_flag⟩
  have C_read_register : Dg.Cal P w K mg base (L2.CX P w) 3 "read_register" P_read_register (spC K mg P_read_register.length S_read_register) := ⟨f_read_register, _, ok_read_register F_read_register FF_registers B G_MOST_REGISTERS FF_actor C_is_new_name, PySem.W.mg_of X G a_read_register, k_read_register, b_read_register⟩
  have C_read_writer : Dg.Cal P w K mg base (L2.CX P w) 2 "read_writer" P_read_writer (spC K mg P_read_writer.length S_read_writer) := ⟨f_read_writer, _, ok_read_writer F_read_writer B FF_registers FF_actor C_begin_actor G_WRITER, PySem.W.mg_of X G a_read_writer, k_read_writer, b_read_writer⟩
  have C_read_reader : Dg.Cal P w K mg base (L2.CX P w) 3 "read_reader" P_read_reader (spC K mg P_read_reader.length S_read_reader) := ⟨f_read_reader, _, ok_read_reader F_read_reader FF_readers B G_MOST_READERS C_is_complete C_is_new_name C_begin_actor, PySem.W.mg_of X G a_read_reader, k_read_reader, b_read_reader⟩
  have C_read_write : Dg.Cal P w K mg base (L2.CX P w) 1 "read_write" P_read_write (spC K mg P_read_write.length S_read_write) := ⟨f_read_write, _, ok_read_write F_read_write B FF_actor G_WRITER G_DIRECTIONS FF_registers FF_has_sweep, PySem.W.mg_of X G a_read_write, k_read_write, b_read_write⟩
  have C_read_read : Dg.Cal P w K mg base (L2.CX P w) 3 "read_read" P_read_read (spC K mg P_read_read.length S_read_read) := ⟨f_read_read, _, ok_read_read F_read_read B FF_actor G_WRITER G_DIRECTIONS FF_registers C_is_new_name FF_readings FF_owners FF_has_sweep, PySem.W.mg_of X G a_read_read, k_read_read, b_read_read⟩
  have C_read_flag_and_number : Dg.Cal P w K mg base (L2.CX P w) 1 "read_flag_and_number" P_read_flag_and_number (spC K mg P_read_flag_and_number.length S_read_flag_and_number) := ⟨f_read_flag_and_number, _, ok_read_flag_and_number F_read_flag_and_number FF_flags B G_NUMBERS FF_bounds, PySem.W.mg_of X G a_read_flag_and_number, k_read_flag_and_number, b_read_flag_and_number⟩
  have C_read_step : Dg.Cal P w K mg base (L2.CX P w) 1 "read_step" P_read_step (spC K mg P_read_step.length S_read_step) := ⟨f_read_step, _, ok_read_step F_read_step FF_flags B, PySem.W.mg_of X G a_read_step, k_read_step, b_read_step⟩
  have C_read_look : Dg.Cal P w K mg base (L2.CX P w) 2 "read_look" P_read_look (spC K mg P_read_look.length S_read_look) := ⟨f_read_look, _, ok_read_look F_read_look FF_flags B C_is_name FF_marks FF_actor, PySem.W.mg_of X G a_read_look, k_read_look, b_read_look⟩
  have C_read_if : Dg.Cal P w K mg base (L2.CX P w) 2 "read_if" P_read_if (spC K mg P_read_if.length S_read_if) := ⟨f_read_if, _, ok_read_if F_read_if FF_blocks B G_MOST_BLOCKS C_is_name G_NUMBERS, PySem.W.mg_of X G a_read_if, k_read_if, b_read_if⟩
  have C_read_else : Dg.Cal P w K mg base (L2.CX P w) 1 "read_else" P_read_else (spC K mg P_read_else.length S_read_else) := ⟨f_read_else, _, ok_read_else F_read_else FF_blocks B FF_jumps, PySem.W.mg_of X G a_read_else, k_read_else, b_read_else⟩
  have C_read_end : Dg.Cal P w K mg base (L2.CX P w) 1 "read_end" P_read_end (spC K mg P_read_end.length S_read_end) := ⟨f_read_end, _, ok_read_end F_read_end FF_blocks B FF_jumps, PySem.W.mg_of X G a_read_end, k_read_end, b_read_end⟩
  have C_read_again : Dg.Cal P w K mg base (L2.CX P w) 1 "read_again" P_read_again (spC K mg P_read_again.length S_read_again) := ⟨f_read_again, _, ok_read_again F_read_again B FF_actor G_WRITER, PySem.W.mg_of X G a_read_again, k_read_again, b_read_again⟩
  have T_tabHeads : TabOk P w K mg base 3 tabHeads := (tab_cons (x := "read_flag") C_read_flag (by decide) (tab_cons (x := "read_register") C_read_register (by decide) (tab_cons (x := "read_writer") C_read_writer (by decide) (tab_cons (x := "read_reader") C_read_reader (by decide) tab_nil))))
  have T_tabForms : TabOk P w K mg base 3 tabForms := (tab_cons (x := "read_write") C_read_write (by decide) (tab_cons (x := "read_read") C_read_read (by decide) (tab_cons (x := "read_flag_and_number") C_read_flag_and_number (by decide) (tab_cons (x := "read_step") C_read_step (by decide) (tab_cons (x := "read_look") C_read_look (by decide) (tab_cons (x := "read_if") C_read_if (by decide) (tab_cons (x := "read_else") C_read_else (by decide) (tab_cons (x := "read_end") C_read_end (by decide) (tab_cons (x := "read_again") C_read_again (by decide) tab_nil)))))))))
  have C_read_line : Dg.Cal P w K mg base (L2.CX P w) 4 "read_line" P_read_line (spC K mg P_read_line.length S_read_line) := ⟨f_read_line, _, ok_read_line F_read_line KD_HEADS T_tabHeads FF_actor KD_FORMS T_tabForms FF_lines, PySem.W.mg_of X G a_read_line, k_read_line, b_read_line⟩
  have C_read_layout : Dg.Cal P w K mg base (L2.CX P w) 5 "read_layout" P_read_layout (spC K mg P_read_layout.length S_read_layout) := ⟨f_read_layout, _, ok_read_layout F_read_layout K_Layout C_lines_of B C_read_line G_MOST_LINES O_BadWorld C_is_complete FF_readers, PySem.W.mg_of X G a_read_layout, k_read_layout, b_read_layout⟩
  have C_checked_values : Dg.Cal P w K mg base (L2.CX P w) 3 "checked_values" P_checked_values (spC K mg P_checked_values.length S_checked_values) := ⟨f_checked_values, _, ok_checked_values F_checked_values B O_BadValues, PySem.W.mg_of X G a_checked_values, k_checked_values, b_checked_values⟩
  have C_start : Dg.Cal P w K mg base (L2.CX P w) 1 "start" P_start (spC K mg P_start.length S_start) := ⟨f_start, _, ok_start F_start FF_marks B FF_first, PySem.W.mg_of X G a_start, k_start, b_start⟩
  have C_swept_cell : Dg.Cal P w K mg base (L2.CX P w) 1 "swept_cell" P_swept_cell (spC K mg P_swept_cell.length S_swept_cell) := ⟨f_swept_cell, _, ok_swept_cell F_swept_cell, PySem.W.mg_of X G a_swept_cell, k_swept_cell, b_swept_cell⟩
  have C_next_line : Dg.Cal P w K mg base (L2.CX P w) 1 "next_line" P_next_line (spC K mg P_next_line.length S_next_line) := ⟨f_next_line, _, ok_next_line F_next_line FF_lines FF_jumps, PySem.W.mg_of X G a_next_line, k_next_line, b_next_line⟩
  have C_place_at : Dg.Cal P w K mg base (L2.CX P w) 2 "place_at" P_place_at (spC K mg P_place_at.length S_place_at) := ⟨f_place_at, _, ok_place_at F_place_at C_next_line, PySem.W.mg_of X G a_place_at, k_place_at, b_place_at⟩
  have C_place_in_sweep : Dg.Cal P w K mg base (L2.CX P w) 3 "place_in_sweep" P_place_in_sweep (spC K mg P_place_in_sweep.length S_place_in_sweep) := ⟨f_place_in_sweep, _, ok_place_in_sweep F_place_in_sweep C_place_at, PySem.W.mg_of X G a_place_in_sweep, k_place_in_sweep, b_place_in_sweep⟩
  have C_put : Dg.Cal P w K mg base (L2.CX P w) 1 "put" P_put (spC K mg P_put.length S_put) := ⟨f_put, _, ok_put F_put, PySem.W.mg_of X G a_put, k_put, b_put⟩
  have C_flag_holds : Dg.Cal P w K mg base (L2.CX P w) 1 "flag_holds" P_flag_holds (spC K mg P_flag_holds.length S_flag_holds) := ⟨f_flag_holds, _, ok_flag_holds F_flag_holds FF_flags, PySem.W.mg_of X G a_flag_holds, k_flag_holds, b_flag_holds⟩
  have C_flags_behind : Dg.Cal P w K mg base (L2.CX P w) 2 "flags_behind" P_flags_behind (spC K mg P_flags_behind.length S_flags_behind) := ⟨f_flags_behind, _, ok_flags_behind F_flags_behind C_put B FF_flags C_flag_holds FF_bounds, PySem.W.mg_of X G a_flags_behind, k_flags_behind, b_flags_behind⟩
  have C_marks_behind : Dg.Cal P w K mg base (L2.CX P w) 2 "marks_behind" P_marks_behind (spC K mg P_marks_behind.length S_marks_behind) := ⟨f_marks_behind, _, ok_marks_behind F_marks_behind C_put C_flag_holds FF_marks, PySem.W.mg_of X G a_marks_behind, k_marks_behind, b_marks_behind⟩
  have C_mark_holds : Dg.Cal P w K mg base (L2.CX P w) 1 "mark_holds" P_mark_holds (spC K mg P_mark_holds.length S_mark_holds) := ⟨f_mark_holds, _, ok_mark_holds F_mark_holds G_NUMBERS B, PySem.W.mg_of X G a_mark_holds, k_mark_holds, b_mark_holds⟩
  have C_is_same : Dg.Cal P w K mg base (L2.CX P w) 2 "is_same" P_is_same (spC K mg P_is_same.length S_is_same) := ⟨f_is_same, _, ok_is_same F_is_same C_mark_holds, PySem.W.mg_of X G a_is_same, k_is_same, b_is_same⟩
  have C_move : Dg.Cal P w K mg base (L2.CX P w) 4 "move" P_move (spC K mg P_move.length S_move) := ⟨f_move, _, ok_move F_move FF_lines G_SWEEPS C_place_in_sweep C_swept_cell C_flag_holds B C_start C_is_same FF_marks FF_jumps C_marks_behind C_flags_behind C_place_at, PySem.W.mg_of X G a_move, k_move, b_move⟩
  have C_checked_actors : Dg.Cal P w K mg base (L2.CX P w) 3 "checked_actors" P_checked_actors (spC K mg P_checked_actors.length S_checked_actors) := ⟨f_checked_actors, _, ok_checked_actors F_checked_actors FF_first O_NoActor B, PySem.W.mg_of X G a_checked_actors, k_checked_actors, b_checked_actors⟩
  have K_Run : MakC P w K mg base 1 "Run" P_Run___init S_Run___init := ⟨c_Run, f_Run___init, _, PySem.W.mg_of X G g_Run, ⟨mk_Run, a_Run___init, t_Run___init, kp_Run⟩, ok_Run___init F_Run___init FF_layout FF_rows FF_flags B FF_first FF_places FF_registers FF_cells FF_begun FF_ended FF_readers FF_olds FF_readings FF_found FF_call, b_Run___init⟩
  have M_Run_begin_round : MetC P w K mg base 2 "Run" "begin_round" P_Run_begin_round S_Run_begin_round := ⟨c_Run, f_Run_begin_round, _, PySem.W.mg_of X G g_Run, L_Run, ⟨a_Run_begin_round, t_Run_begin_round, k_Run_begin_round⟩, ok_Run_begin_round F_Run_begin_round FF_begun FF_places G_WRITER C_start FF_layout, b_Run_begin_round⟩
  have M_Run_begin : MetC P w K mg base 3 "Run" "begin" P_Run_begin S_Run_begin := ⟨c_Run, f_Run_begin, _, PySem.W.mg_of X G g_Run, L_Run, ⟨a_Run_begin, t_Run_begin, k_Run_begin⟩, ok_Run_begin F_Run_begin G_WRITER FF_olds FF_ended FF_places C_start FF_layout FF_begun FF_rows B M_Run_begin_round, b_Run_begin⟩
  have M_Run_forget : MetC P w K mg base 1 "Run" "forget" P_Run_forget S_Run_forget := ⟨c_Run, f_Run_forget, _, PySem.W.mg_of X G g_Run, L_Run, ⟨a_Run_forget, t_Run_forget, k_Run_forget⟩, ok_Run_forget F_Run_forget FF_layout FF_owners FF_found, b_Run_forget⟩
  have M_Run_keep : MetC P w K mg base 2 "Run" "keep" P_Run_keep S_Run_keep := ⟨c_Run, f_Run_keep, _, PySem.W.mg_of X G g_Run, L_Run, ⟨a_Run_keep, t_Run_keep, k_Run_keep⟩, ok_Run_keep F_Run_keep FF_cells C_put FF_rows FF_begun FF_found M_Run_forget, b_Run_keep⟩
  have M_Run_finish : MetC P w K mg base 2 "Run" "finish" P_Run_finish S_Run_finish := ⟨c_Run, f_Run_finish, _, PySem.W.mg_of X G g_Run, L_Run, ⟨a_Run_finish, t_Run_finish, k_Run_finish⟩, ok_Run_finish F_Run_finish G_WRITER FF_begun FF_ended FF_layout FF_owners FF_found FF_olds FF_call M_Run_forget, b_Run_finish⟩
  have M_Run_step : MetC P w K mg base 5 "Run" "step" P_Run_step S_Run_step := ⟨c_Run, f_Run_step, _, PySem.W.mg_of X G g_Run, L_Run, ⟨a_Run_step, t_Run_step, k_Run_step⟩, ok_Run_step F_Run_step FF_call FF_places M_Run_begin C_move FF_flags FF_rows B FF_layout M_Run_keep FF_lines M_Run_finish, b_Run_step⟩
  have K_World : MakC P w K mg base 6 "World" P_World___init S_World___init := ⟨c_World, f_World___init, _, PySem.W.mg_of X G g_World, ⟨mk_World, a_World___init, t_World___init, kp_World⟩, ok_World___init F_World___init C_read_layout FF_layout FF_text FF_flags B FF_registers FF_readers FF_readings, b_World___init⟩
  have M_World_run : MetC P w K mg base 6 "World" "run" P_World_run (iso S_World_run) := met_iso ⟨c_World, f_World_run, _, PySem.W.mg_of X G g_World, L_World, ⟨a_World_run, t_World_run, k_World_run⟩, ok_World_run F_World_run C_checked_actors FF_layout K_Run C_checked_values M_Run_step FF_call, b_World_run⟩
  have MG_World_steps : MetG P w K mg base 6 "World" "steps" P_World_steps (isoG S_World_steps) := metG_iso ⟨c_World, f_World_steps, _, PySem.W.mg_of X G g_World, L_World, ⟨a_World_steps, t_World_steps, k_World_steps⟩, ok_World_steps F_World_steps M_Run_step K_Run C_checked_values FF_layout C_checked_actors, b_World_steps⟩
  have C_begun_pen : Dg.Cal P w K mg base (L2.CX P w) 1 "_law_begun_pen" P_begun_pen (spC K mg P_begun_pen.length S_begun_pen) := ⟨f_begun_pen, _, ok_begun_pen F_begun_pen B, PySem.W.mg_of X G a_begun_pen, k_begun_pen, b_begun_pen⟩
  have C_draw : Dg.Cal P w K mg base (L2.CX P w) 1 "_law_draw" P_draw (spC K mg P_draw.length S_draw) := ⟨f_draw, _, ok_draw F_draw B, PySem.W.mg_of X G a_draw, k_draw, b_draw⟩
  have C_actor : Dg.Cal P w K mg base (L2.CX P w) 1 "_law_actor" P_actor (spC K mg P_actor.length S_actor) := ⟨f_actor, _, ok_actor F_actor, PySem.W.mg_of X G a_actor, k_actor, b_actor⟩
  have C_steps : Dg.Cal P w K mg base (L2.CX P w) 2 "_law_steps" P_steps (spC K mg P_steps.length (iso S_steps)) := cal_iso ⟨f_steps, _, ok_steps F_steps B C_actor, PySem.W.mg_of X G a_steps, k_steps, b_steps⟩
  have C_more_cases : Dg.Cal P w K mg base (L2.CX P w) 1 "_law_more_cases" P_more_cases (spC K mg P_more_cases.length S_more_cases) := ⟨f_more_cases, _, ok_more_cases F_more_cases, PySem.W.mg_of X G a_more_cases, k_more_cases, b_more_cases⟩
  have CT_cases : CalT P w K mg base 2 "_law_cases" (iso S_cases) := calT_iso ⟨f_cases, _, ok_cases F_cases C_more_cases, PySem.W.mg_of X G a_cases, k_cases, b_cases⟩
  exact law_of rfl (ok_law F_law C_begun_pen C_steps K_World M_World_run MG_World_steps B C_draw CT_cases) true_
end Cl
open PySem PySem.W PyProof.Rows
set_option maxRecDepth 100000 in
set_option maxHeartbeats 0 in
theorem PySem.Challenge.cw_digitsturn_k06_runs_by_hand_holds : PySem.Challenge.rw_digitsturn_k06_runs_by_hand.Holds := by
  w_on; o_law; k_head; (case hw => w_witness2)
  k_fill
  refine Dg.walk_ofG (l := PySem.Challenge.rw_digitsturn_k06_runs_by_hand) (n := 63) (k := 10) (x := "script") (sp := fun w => Cl.spLaw _) rfl (by decide) rfl ⟨rfl, by decide, by decide⟩ (fun w h Y => PySem.W.kIn_of Y) ?F (fun _ _ a ns hl _ hS => ⟨a, ns, rfl, hS, hl, fun _ => rfl⟩)
  case F =>
    intro w mg fa h KX G hmg
    refine' Cl.all_mk KX G hmg ?a_lines_of ?l_lines_of ?cc_lines_of ?k_lines_of ?a_is_name ?l_is_name ?cc_is_name ?k_is_name ?a_Layout___init ?t_Layout___init ?l_Layout___init ?cc_Layout___init ?k_Layout___init ?a_is_new_name ?l_is_new_name ?cc_is_new_name ?k_is_new_name ?a_is_complete ?l_is_complete ?cc_is_complete ?k_is_complete ?a_begin_actor ?l_begin_actor ?cc_begin_actor ?k_begin_actor ?a_read_flag ?l_read_flag ?cc_read_flag ?k_read_flag ?a_read_register ?l_read_register ?cc_read_register ?k_read_register ?a_read_writer ?l_read_writer ?cc_read_writer ?k_read_writer ?a_read_reader ?l_read_reader ?cc_read_reader ?k_read_reader ?a_read_write ?l_read_write ?cc_read_write ?k_read_write ?a_read_read ?l_read_read ?cc_read_read ?k_read_read ?a_read_flag_and_number ?l_read_flag_and_number ?cc_read_flag_and_number ?k_read_flag_and_number ?a_read_step ?l_read_step ?cc_read_step ?k_read_step ?a_read_look ?l_read_look ?cc_read_look ?k_read_look ?a_read_if ?l_read_if ?cc_read_if ?k_read_if ?a_read_else ?l_read_else ?cc_read_else ?k_read_else ?a_read_end ?l_read_end ?cc_read_end ?k_read_end ?a_read_again ?l_read_again ?cc_read_again ?k_read_again ?a_read_line ?l_read_line ?cc_read_line ?k_read_line ?a_read_layout ?l_read_layout ?cc_read_layout ?k_read_layout ?a_checked_values ?l_checked_values ?cc_checked_values ?k_checked_values ?a_start ?l_start ?cc_start ?k_start ?a_swept_cell ?l_swept_cell ?cc_swept_cell ?k_swept_cell ?a_next_line ?l_next_line ?cc_next_line ?k_next_line ?a_place_at ?l_place_at ?cc_place_at ?k_place_at ?a_place_in_sweep ?l_place_in_sweep ?cc_place_in_sweep ?k_place_in_sweep ?a_put ?l_put ?cc_put ?k_put ?a_flag_holds ?l_flag_holds ?cc_flag_holds ?k_flag_holds ?a_flags_behind ?l_flags_behind ?cc_flags_behind ?k_flags_behind ?a_marks_behind ?l_marks_behind ?cc_marks_behind ?k_marks_behind ?a_mark_holds ?l_mark_holds ?cc_mark_holds ?k_mark_holds ?a_is_same ?l_is_same ?cc_is_same ?k_is_same ?a_move ?l_move ?cc_move ?k_move ?a_checked_actors ?l_checked_actors ?cc_checked_actors ?k_checked_actors ?a_Run___init ?t_Run___init ?l_Run___init ?cc_Run___init ?k_Run___init ?a_Run_begin_round ?t_Run_begin_round ?l_Run_begin_round ?cc_Run_begin_round ?k_Run_begin_round ?a_Run_begin ?t_Run_begin ?l_Run_begin ?cc_Run_begin ?k_Run_begin ?a_Run_forget ?t_Run_forget ?l_Run_forget ?cc_Run_forget ?k_Run_forget ?a_Run_keep ?t_Run_keep ?l_Run_keep ?cc_Run_keep ?k_Run_keep ?a_Run_finish ?t_Run_finish ?l_Run_finish ?cc_Run_finish ?k_Run_finish ?a_Run_step ?t_Run_step ?l_Run_step ?cc_Run_step ?k_Run_step ?a_World___init ?t_World___init ?l_World___init ?cc_World___init ?k_World___init ?a_World_run ?t_World_run ?l_World_run ?cc_World_run ?k_World_run ?a_World_steps ?t_World_steps ?l_World_steps ?cc_World_steps ?k_World_steps ?a_begun_pen ?l_begun_pen ?cc_begun_pen ?k_begun_pen ?a_draw ?l_draw ?cc_draw ?k_draw ?a_actor ?l_actor ?cc_actor ?k_actor ?a_steps ?l_steps ?cc_steps ?k_steps ?a_more_cases ?l_more_cases ?cc_more_cases ?k_more_cases ?a_cases ?l_cases ?cc_cases ?k_cases ?a_law ?l_law ?cc_law ?k_law ?g_Layout ?pg_Layout ?hd_Layout ?po_Layout ?sa_Layout ?mk_Layout ?kp_Layout ?g_Run ?pg_Run ?hd_Run ?po_Run ?sa_Run ?mk_Run ?kp_Run ?g_World ?pg_World ?hd_World ?po_World ?sa_World ?mk_World ?kp_World ?no_Layout_actor ?no_Run_begun ?no_Layout_blocks ?no_Layout_bounds ?no_Run_call ?no_Run_cells ?no_Run_ended ?no_Layout_first ?no_World_flags ?no_Run_flags ?no_Layout_flags ?no_Run_found ?no_Layout_has_sweep ?no_Layout_jumps ?no_World_layout ?no_Run_layout ?no_Layout_lines ?no_Layout_marks ?no_Run_olds ?no_Layout_owners ?no_Run_places ?no_World_readers ?no_Layout_readers ?no_World_readings ?no_Layout_readings ?no_World_registers ?no_Layout_registers ?no_Run_rows ?no_World_text ?ga_LETTERS ?ga_LONGEST_NAME ?ga_NUMBERS ?gl_NUMBERS ?ga_DIRECTIONS ?gl_DIRECTIONS ?ga_WRITER ?ga_NO_NAMES ?gl_NO_NAMES ?ga_MOST_LINES ?ga_MOST_FLAGS ?ga_MOST_REGISTERS ?ga_MOST_READERS ?ga_MOST_BLOCKS ?ga_BOUNDS ?gl_BOUNDS ?ga_HEADS ?gl_HEADS ?gs_HEADS ?ga_FORMS ?gl_FORMS ?gs_FORMS ?ga_SWEEPS ?gl_SWEEPS ?aE_BadValues ?xL_BadValues ?rv_BadValues ?sa_BadValues ?bE_BadValues ?tE_BadValues ?kE_BadValues ?no_BadValues ?in_BadValues ?ti_BadValues ?lI_BadValues ?cI_BadValues ?kI_BadValues ?ga_EBadValues ?gg_BadValues ?hd_BadValues ?iE_BadValues ?sE_BadValues ?aE_BadWorld ?xL_BadWorld ?rv_BadWorld ?sa_BadWorld ?bE_BadWorld ?tE_BadWorld ?kE_BadWorld ?no_BadWorld ?in_BadWorld ?ti_BadWorld ?lI_BadWorld ?cI_BadWorld ?kI_BadWorld ?ga_EBadWorld ?gg_BadWorld ?hd_BadWorld ?iE_BadWorld ?sE_BadWorld ?aE_NoActor ?xL_NoActor ?rv_NoActor ?sa_NoActor ?bE_NoActor ?tE_NoActor ?kE_NoActor ?no_NoActor ?in_NoActor ?ti_NoActor ?lI_NoActor ?cI_NoActor ?kI_NoActor ?ga_ENoActor ?gg_NoActor ?hd_NoActor ?iE_NoActor ?sE_NoActor ?z_abs ?z_all ?z_dict ?z_enumerate ?z_int ?z_isinstance ?z_len ?z_list ?z_max ?z_min ?z_range ?z_repr ?z_sorted ?z_str ?z_sum ?z_tuple ?z_zip ?z_ValueError (fun ns _ => Cl.law_true2 Cl.rows_all ns)
    (case g_Layout => k_is)
    (case pg_Layout => k_is)
    (case hd_Layout => k_is)
    (case po_Layout => k_is)
    (case sa_Layout => k_is)
    (case mk_Layout => k_is)
    (case kp_Layout => k_is)
    (case g_Run => k_is)
    (case pg_Run => k_is)
    (case hd_Run => k_is)
    (case po_Run => k_is)
    (case sa_Run => k_is)
    (case mk_Run => k_is)
    (case kp_Run => k_is)
    (case g_World => k_is)
    (case pg_World => k_is)
    (case hd_World => k_is)
    (case po_World => k_is)
    (case sa_World => k_is)
    (case mk_World => k_is)
    (case kp_World => k_is)
    (case a_lines_of => k_is)
    (case l_lines_of => k_is)
    (case cc_lines_of => k_is)
    (case k_lines_of => k_is)
    (case a_is_name => k_is)
    (case l_is_name => k_is)
    (case cc_is_name => k_is)
    (case k_is_name => k_is)
    (case a_Layout___init => k_is)
    (case t_Layout___init => k_is)
    (case l_Layout___init => k_is)
    (case cc_Layout___init => k_is)
    (case k_Layout___init => k_is)
    (case a_is_new_name => k_is)
    (case l_is_new_name => k_is)
    (case cc_is_new_name => k_is)
    (case k_is_new_name => k_is)
    (case a_is_complete => k_is)
    (case l_is_complete => k_is)
    (case cc_is_complete => k_is)
    (case k_is_complete => k_is)
    (case a_begin_actor => k_is)
    (case l_begin_actor => k_is)
    (case cc_begin_actor => k_is)
    (case k_begin_actor => k_is)
    (case a_read_flag => k_is)
    (case l_read_flag => k_is)
    (case cc_read_flag => k_is)
    (case k_read_flag => k_is)
    (case a_read_register => k_is)
    (case l_read_register => k_is)
    (case cc_read_register => k_is)
    (case k_read_register => k_is)
    (case a_read_writer => k_is)
    (case l_read_writer => k_is)
    (case cc_read_writer => k_is)
    (case k_read_writer => k_is)
    (case a_read_reader => k_is)
    (case l_read_reader => k_is)
    (case cc_read_reader => k_is)
    (case k_read_reader => k_is)
    (case a_read_write => k_is)
    (case l_read_write => k_is)
    (case cc_read_write => k_is)
    (case k_read_write => k_is)
    (case a_read_read => k_is)
    (case l_read_read => k_is)
    (case cc_read_read => k_is)
    (case k_read_read => k_is)
    (case a_read_flag_and_number => k_is)
    (case l_read_flag_and_number => k_is)
    (case cc_read_flag_and_number => k_is)
    (case k_read_flag_and_number => k_is)
    (case a_read_step => k_is)
    (case l_read_step => k_is)
    (case cc_read_step => k_is)
    (case k_read_step => k_is)
    (case a_read_look => k_is)
    (case l_read_look => k_is)
    (case cc_read_look => k_is)
    (case k_read_look => k_is)
    (case a_read_if => k_is)
    (case l_read_if => k_is)
    (case cc_read_if => k_is)
    (case k_read_if => k_is)
    (case a_read_else => k_is)
    (case l_read_else => k_is)
    (case cc_read_else => k_is)
    (case k_read_else => k_is)
    (case a_read_end => k_is)
    (case l_read_end => k_is)
    (case cc_read_end => k_is)
    (case k_read_end => k_is)
    (case a_read_again => k_is)
    (case l_read_again => k_is)
    (case cc_read_again => k_is)
    (case k_read_again => k_is)
    (case a_read_line => k_is)
    (case l_read_line => k_is)
    (case cc_read_line => k_is)
    (case k_read_line => k_is)
    (case a_read_layout => k_is)
    (case l_read_layout => k_is)
    (case cc_read_layout => k_is)
    (case k_read_layout => k_is)
    (case a_checked_values => k_is)
    (case l_checked_values => k_is)
    (case cc_checked_values => k_is)
    (case k_checked_values => k_is)
    (case a_start => k_is)
    (case l_start => k_is)
    (case cc_start => k_is)
    (case k_start => k_is)
    (case a_swept_cell => k_is)
    (case l_swept_cell => k_is)
    (case cc_swept_cell => k_is)
    (case k_swept_cell => k_is)
    (case a_next_line => k_is)
    (case l_next_line => k_is)
    (case cc_next_line => k_is)
    (case k_next_line => k_is)
    (case a_place_at => k_is)
    (case l_place_at => k_is)
    (case cc_place_at => k_is)
    (case k_place_at => k_is)
    (case a_place_in_sweep => k_is)
    (case l_place_in_sweep => k_is)
    (case cc_place_in_sweep => k_is)
    (case k_place_in_sweep => k_is)
    (case a_put => k_is)
    (case l_put => k_is)
    (case cc_put => k_is)
    (case k_put => k_is)
    (case a_flag_holds => k_is)
    (case l_flag_holds => k_is)
    (case cc_flag_holds => k_is)
    (case k_flag_holds => k_is)
    (case a_flags_behind => k_is)
    (case l_flags_behind => k_is)
    (case cc_flags_behind => k_is)
    (case k_flags_behind => k_is)
    (case a_marks_behind => k_is)
    (case l_marks_behind => k_is)
    (case cc_marks_behind => k_is)
    (case k_marks_behind => k_is)
    (case a_mark_holds => k_is)
    (case l_mark_holds => k_is)
    (case cc_mark_holds => k_is)
    (case k_mark_holds => k_is)
    (case a_is_same => k_is)
    (case l_is_same => k_is)
    (case cc_is_same => k_is)
    (case k_is_same => k_is)
    (case a_move => k_is)
    (case l_move => k_is)
    (case cc_move => k_is)
    (case k_move => k_is)
    (case a_checked_actors => k_is)
    (case l_checked_actors => k_is)
    (case cc_checked_actors => k_is)
    (case k_checked_actors => k_is)
    (case a_Run___init => k_is)
    (case t_Run___init => k_is)
    (case l_Run___init => k_is)
    (case cc_Run___init => k_is)
    (case k_Run___init => k_is)
    (case a_Run_begin_round => k_is)
    (case t_Run_begin_round => k_is)
    (case l_Run_begin_round => k_is)
    (case cc_Run_begin_round => k_is)
    (case k_Run_begin_round => k_is)
    (case a_Run_begin => k_is)
    (case t_Run_begin => k_is)
    (case l_Run_begin => k_is)
    (case cc_Run_begin => k_is)
    (case k_Run_begin => k_is)
    (case a_Run_forget => k_is)
    (case t_Run_forget => k_is)
    (case l_Run_forget => k_is)
    (case cc_Run_forget => k_is)
    (case k_Run_forget => k_is)
    (case a_Run_keep => k_is)
    (case t_Run_keep => k_is)
    (case l_Run_keep => k_is)
    (case cc_Run_keep => k_is)
    (case k_Run_keep => k_is)
    (case a_Run_finish => k_is)
    (case t_Run_finish => k_is)
    (case l_Run_finish => k_is)
    (case cc_Run_finish => k_is)
    (case k_Run_finish => k_is)
    (case a_Run_step => k_is)
    (case t_Run_step => k_is)
    (case l_Run_step => k_is)
    (case cc_Run_step => k_is)
    (case k_Run_step => k_is)
    (case a_World___init => k_is)
    (case t_World___init => k_is)
    (case l_World___init => k_is)
    (case cc_World___init => k_is)
    (case k_World___init => k_is)
    (case a_World_run => k_is)
    (case t_World_run => k_is)
    (case l_World_run => k_is)
    (case cc_World_run => k_is)
    (case k_World_run => k_is)
    (case a_World_steps => k_is)
    (case t_World_steps => k_is)
    (case l_World_steps => k_is)
    (case cc_World_steps => k_is)
    (case k_World_steps => k_is)
    (case a_begun_pen => k_is)
    (case l_begun_pen => k_is)
    (case cc_begun_pen => k_is)
    (case k_begun_pen => k_is)
    (case a_draw => k_is)
    (case l_draw => k_is)
    (case cc_draw => k_is)
    (case k_draw => k_is)
    (case a_actor => k_is)
    (case l_actor => k_is)
    (case cc_actor => k_is)
    (case k_actor => k_is)
    (case a_steps => k_is)
    (case l_steps => k_is)
    (case cc_steps => k_is)
    (case k_steps => k_is)
    (case a_more_cases => k_is)
    (case l_more_cases => k_is)
    (case cc_more_cases => k_is)
    (case k_more_cases => k_is)
    (case a_cases => k_is)
    (case l_cases => k_is)
    (case cc_cases => k_is)
    (case k_cases => k_is)
    (case a_law => k_is)
    (case l_law => k_is)
    (case cc_law => k_is)
    (case k_law => k_is)
    (case no_Layout_actor => k_is)
    (case no_Run_begun => k_is)
    (case no_Layout_blocks => k_is)
    (case no_Layout_bounds => k_is)
    (case no_Run_call => k_is)
    (case no_Run_cells => k_is)
    (case no_Run_ended => k_is)
    (case no_Layout_first => k_is)
    (case no_World_flags => k_is)
    (case no_Run_flags => k_is)
    (case no_Layout_flags => k_is)
    (case no_Run_found => k_is)
    (case no_Layout_has_sweep => k_is)
    (case no_Layout_jumps => k_is)
    (case no_World_layout => k_is)
    (case no_Run_layout => k_is)
    (case no_Layout_lines => k_is)
    (case no_Layout_marks => k_is)
    (case no_Run_olds => k_is)
    (case no_Layout_owners => k_is)
    (case no_Run_places => k_is)
    (case no_World_readers => k_is)
    (case no_Layout_readers => k_is)
    (case no_World_readings => k_is)
    (case no_Layout_readings => k_is)
    (case no_World_registers => k_is)
    (case no_Layout_registers => k_is)
    (case no_Run_rows => k_is)
    (case no_World_text => k_is)
    (case ga_LETTERS => k_is)
    (case ga_LONGEST_NAME => k_is)
    (case ga_NUMBERS => k_is)
    (case gl_NUMBERS => k_is)
    (case ga_DIRECTIONS => k_is)
    (case gl_DIRECTIONS => k_is)
    (case ga_WRITER => k_is)
    (case ga_NO_NAMES => k_is)
    (case gl_NO_NAMES => k_is)
    (case ga_MOST_LINES => k_is)
    (case ga_MOST_FLAGS => k_is)
    (case ga_MOST_REGISTERS => k_is)
    (case ga_MOST_READERS => k_is)
    (case ga_MOST_BLOCKS => k_is)
    (case ga_BOUNDS => k_is)
    (case gl_BOUNDS => k_is)
    (case ga_HEADS => k_is)
    (case gl_HEADS => k_is)
    (case gs_HEADS => first | rfl | k_is)
    (case ga_FORMS => k_is)
    (case gl_FORMS => k_is)
    (case gs_FORMS => first | rfl | k_is)
    (case ga_SWEEPS => k_is)
    (case gl_SWEEPS => k_is)
    (case aE_BadValues => k_is)
    (case xL_BadValues => k_is)
    (case rv_BadValues => rfl)
    (case sa_BadValues => k_is)
    (case bE_BadValues => k_is)
    (case tE_BadValues => k_is)
    (case kE_BadValues => k_is)
    (case no_BadValues => k_is)
    (case in_BadValues => k_is)
    (case ti_BadValues => k_is)
    (case lI_BadValues => k_is)
    (case cI_BadValues => k_is)
    (case kI_BadValues => k_is)
    (case ga_EBadValues => k_is)
    (case gg_BadValues => k_is)
    (case hd_BadValues => k_is)
    (case iE_BadValues => k_is)
    (case sE_BadValues => first | rfl | k_is)
    (case aE_BadWorld => k_is)
    (case xL_BadWorld => k_is)
    (case rv_BadWorld => rfl)
    (case sa_BadWorld => k_is)
    (case bE_BadWorld => k_is)
    (case tE_BadWorld => k_is)
    (case kE_BadWorld => k_is)
    (case no_BadWorld => k_is)
    (case in_BadWorld => k_is)
    (case ti_BadWorld => k_is)
    (case lI_BadWorld => k_is)
    (case cI_BadWorld => k_is)
    (case kI_BadWorld => k_is)
    (case ga_EBadWorld => k_is)
    (case gg_BadWorld => k_is)
    (case hd_BadWorld => k_is)
    (case iE_BadWorld => k_is)
    (case sE_BadWorld => first | rfl | k_is)
    (case aE_NoActor => k_is)
    (case xL_NoActor => k_is)
    (case rv_NoActor => rfl)
    (case sa_NoActor => k_is)
    (case bE_NoActor => k_is)
    (case tE_NoActor => k_is)
    (case kE_NoActor => k_is)
    (case no_NoActor => k_is)
    (case in_NoActor => k_is)
    (case ti_NoActor => k_is)
    (case lI_NoActor => k_is)
    (case cI_NoActor => k_is)
    (case kI_NoActor => k_is)
    (case ga_ENoActor => k_is)
    (case gg_NoActor => k_is)
    (case hd_NoActor => k_is)
    (case iE_NoActor => k_is)
    (case sE_NoActor => first | rfl | k_is)
    (case z_abs => k_is)
    (case z_all => k_is)
    (case z_dict => k_is)
    (case z_enumerate => k_is)
    (case z_int => k_is)
    (case z_isinstance => k_is)
    (case z_len => k_is)
    (case z_list => k_is)
    (case z_max => k_is)
    (case z_min => k_is)
    (case z_range => k_is)
    (case z_repr => k_is)
    (case z_sorted => k_is)
    (case z_str => k_is)
    (case z_sum => k_is)
    (case z_tuple => k_is)
    (case z_zip => k_is)
    (case z_ValueError => k_is)

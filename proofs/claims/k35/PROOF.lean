import PyProof.Rows.All
import Wide.All
import OpenK.AllK
import Wide.FinOn
import KE.KNestM
import KE.KLam
import KE.DataMinKey
import HandS.Nested
import HandS.EndTab
import HandS.Words
import HandS.ForMost
import HandS.WordsExc
import HandS.ExcOwn
import HandS.Exc
import HandS.Evl
import HandS.IsInst
import HandS.Wide
import HandS.Zip
import HandS.More
import KE.GoesEnumKw
import KE.GoesMore
import HandS.SortKw
import KE.KEqDeep
import HandS.Conv
import HandS.ExcIs
import HandS.Strs
import HandS.SetFor
import HandS.Set
import HandS.Iter
import HandS.Dict
import HandS.Comp
import HandS.Defaults
import HandS.Text
import HandS.Walk
import HandS.Star
import PySem.Challenge.RW_susu_k35_reports_let_by
set_option Elab.async false
set_option linter.all false
set_option maxRecDepth 100000

namespace Su
open PySem PySem.Spec PyProof.Rows L2 Evl
/-! ### small rules over HandS.Evl -/
theorem CMul.l {i j : Int} (h1 : -(2 ^ 64) < i) (h2 : i < 2 ^ 64) : CMul i j := .inl ⟨h1, h2⟩
theorem CMul.r {i j : Int} (h1 : -(2 ^ 64) < j) (h2 : j < 2 ^ 64) : CMul i j := .inr ⟨h1, h2⟩
theorem rv_mod {H : Hp} {i j : Int} (h : 0 < j) : RV (rI (fun _ j => 0 < j) fun i j => .int (i % j)) (.int i) (.int j) H (.int (i % j)) := rv_I h
theorem rv_div {H : Hp} {i j : Int} (h : 0 < j) (h2 : j < 1073741824) : RV (rI CDiv fun i j => .int (i / j)) (.int i) (.int j) H (.int (i / j)) := rv_I ⟨h, h2⟩
theorem rv_mul {H : Hp} {i j : Int} (h : CMul i j) : RV (rI CMul fun i j => .int (i * j)) (.int i) (.int j) H (.int (i * j)) := rv_I h
theorem rv_pow {H : Hp} {i j : Int} (h : CPow i j) : RV (rI CPow fun i j => .int (i ^ j.toNat)) (.int i) (.int j) H (.int (i ^ j.toNat)) := rv_I h
theorem rv_p18 {H : Hp} : RV (rI CPow fun i j => .int (i ^ j.toNat)) (.int 10) (.int 18) H (.int (10 ^ 18)) := rv_I (C := CPow) (g := fun i j => .int (i ^ j.toNat)) ⟨by decide, by decide, by decide⟩
theorem rv_p12 {H : Hp} : RV (rI CPow fun i j => .int (i ^ j.toNat)) (.int 10) (.int 12) H (.int (10 ^ 12)) := rv_I (C := CPow) (g := fun i j => .int (i ^ j.toNat)) ⟨by decide, by decide, by decide⟩
theorem rv_p20 {H : Hp} : RV (rI CPow fun i j => .int (i ^ j.toNat)) (.int 10) (.int 20) H (.int (10 ^ 20)) := rv_I (C := CPow) (g := fun i j => .int (i ^ j.toNat)) ⟨by decide, by decide, by decide⟩
theorem rv_divW {H : Hp} {i j : Int} (h : CDivW i j) : RV (rI CDivW fun i j => .int (i / j)) (.int i) (.int j) H (.int (i / j)) := rv_I h
theorem rv_mulW {H : Hp} {i j : Int} (h : CMulW i j) : RV (rI CMulW fun i j => .int (i * j)) (.int i) (.int j) H (.int (i * j)) := rv_I h
theorem rc_abs {H : Hp} {i : Int} : RC (fun xs H Q => ∃ i, xs = [V.int i] ∧ Q (.int (if i < 0 then -i else i)) H) [.int i] H (.int (if i < 0 then -i else i)) := fun H1 _ _ q => ⟨i, rfl, q H1 (Ex.refl H1)⟩
theorem rc_max {H : Hp} {i j : Int} : RC (fun xs H Q => ∃ i j, xs = [V.int i, .int j] ∧ Q (.int (if j > i then j else i)) H) [.int i, .int j] H (.int (if j > i then j else i)) := fun H1 _ _ q => ⟨i, j, rfl, q H1 (Ex.refl H1)⟩
theorem rc_min {H : Hp} {i j : Int} : RC (fun xs H Q => ∃ i j, xs = [V.int i, .int j] ∧ Q (.int (if j < i then j else i)) H) [.int i, .int j] H (.int (if j < i then j else i)) := fun H1 _ _ q => ⟨i, j, rfl, q H1 (Ex.refl H1)⟩
theorem rc_len {K : PySem.W.Frag} {H : Hp} {p : Addr} {ys : List V} (h : SqL K H p ys ∨ SqT K H p ys) : RC (fun xs H Q => ∃ p ys, xs = [V.ref p] ∧ (SqL K H p ys ∨ SqT K H p ys) ∧ Q (.int ys.length) H) [.ref p] H (.int ys.length) :=
  fun H1 e _ q => ⟨p, ys, rfl, h.elim (fun h => .inl (ex_l e h)) (fun h => .inr (ex_t e h)), q H1 (Ex.refl H1)⟩
theorem rc_isi_int {K : PySem.W.Frag} {H : Hp} {i : Int} {n : String} {b : Bool} (h : kitB "int" n = some b) : RC (rIsi K) [.int i, .ty n] H (.bl b) :=
  fun H1 _ _ q => ⟨.int i, .ty n, .type "int", .type n, b, rfl, .ty n, .base (.int i), kit_ty h, q H1 (Ex.refl H1)⟩
theorem ex_g {H H' : Hp} {a : Addr} {o : HO} (e : Ex H H') (h : H a = some o) : H' a = some o := e a o h
theorem at_rows {rows : List Int} {z : Int} (h0 : 0 ≤ z) (h : z < rows.length) : atI (rows.map V.int) z = some (.int (rows.getD z.toNat 0)) := by
  have hz : z = ((z.toNat : Nat) : Int) := by omega
  have hl : z.toNat < rows.length := by omega
  refine at_of hz ?_
  rw [List.getElem?_map, List.getElem?_eq_getElem hl, List.getD_eq_getElem?_getD, List.getElem?_eq_getElem hl]
  rfl
theorem at4 {a b c d z : Int} (h0 : 0 ≤ z) (h : z < 4) : atI [V.int a, .int b, .int c, .int d] z = some (.int (if z = 0 then a else if z = 1 then b else if z = 2 then c else d)) := by
  have h4 : z = 0 ∨ z = 1 ∨ z = 2 ∨ z = 3 := by omega
  rcases h4 with rfl | rfl | rfl | rfl <;> rfl
theorem wm {i j : Int} (h1 : i.natAbs < 2 ^ 240) (h2 : j.natAbs < 2 ^ 240) : CMulW i j := wide_mul h1 h2 (by decide) (by decide) (by decide)
theorem wd {i j : Int} (h : 0 < j) (h2 : j.natAbs < 2 ^ 240) : CDivW i j := wide_div h h2 (by decide) (by decide)
theorem n400 {i : Int} {n : Int} (h1 : -n ≤ i) (h2 : i ≤ n) (h : n.toNat < 2 ^ 240) : i.natAbs < 2 ^ 240 := by omega
theorem n400' {i : Int} (h1 : -(10 ^ 70) ≤ i) (h2 : i ≤ 10 ^ 70) : i.natAbs < 2 ^ 240 := n400 h1 h2 (by decide)
theorem decT {p : Prop} [Decidable p] (h : p) {b : Bool} (e : decide p = b) : b = true := by rw [← e]; exact decide_eq_true h
abbrev vErr : List Value := [.type "ValueError", .type "Exception", .type "BaseException", .type "object"]
theorem ex_up {H : Hp} {p : Addr} {o' : HO} {H0 : Hp} (e : Ex H0 H) (hp : H0 p = none) : Ex H0 (upd H p o') := Ex.mut e hp
theorem seq_ne {K : PySem.W.Frag} {H H' : Hp} {a : Addr} {xs : List V} (e : Ex H H') (h : SqL K H a xs) : SqL K H' a xs := ex_l e h
/-- a def's call that hands back a new list of which something is known -/
def SpN (sp : Sp) (vs : List V) (H : Hp) (P : List V → Prop) : Prop := ∀ H1, Ex H H1 → ∀ Q : VK, (∀ xs p H2, P xs → H1 p = none → Ex H1 H2 → H2 p = some (.lst xs) → Q (.ref p) H2) → ∀ E : XK, sp vs H1 Q E
theorem q_callN {sp : Sp} {dvs vs : List V} {E : XK} {ta : TA} {σ : L2.St} {H : Hp} {i : Nat} {D : Ends} {tz : TS} {P : List V → Prop} (h : EvA ta σ H vs) (hs : SpN sp (vs ++ dvs) H P)
    (k : ∀ xs p H1, P xs → H p = none → Ex H H1 → H1 p = some (.lst xs) → tz D (σ.set i (some (.ref p))) H1) : tSeq (tAsg (tCall sp dvs E ta) (gName i)) tz D σ H :=
  h H (Ex.refl H) _ fun H1 e1 => hs H1 e1 _ (fun xs p H2 hP hp e2 h2 => k xs p H2 hP (fresh_back e1 hp) (e1.trans e2) h2) E
theorem s_callN {sp : Sp} {dvs vs : List V} {E : XK} {ta : TA} {σ : L2.St} {H : Hp} {i : Nat} {D : Ends} {P : List V → Prop} (h : EvA ta σ H vs) (hs : SpN sp (vs ++ dvs) H P)
    (k : ∀ xs p H1, P xs → H p = none → Ex H H1 → H1 p = some (.lst xs) → D.nx (σ.set i (some (.ref p))) H1) : tAsg (tCall sp dvs E ta) (gName i) D σ H :=
  h H (Ex.refl H) _ fun H1 e1 => hs H1 e1 _ (fun xs p H2 hP hp e2 h2 => k xs p H2 hP (fresh_back e1 hp) (e1.trans e2) h2) E
/-- .. whose first argument is a new list -/
theorem s_callN1 {sp : Sp} {dvs vs xs0 : List V} {E : XK} {te : TE} {tr : TA} {σ : L2.St} {H : Hp} {i : Nat} {D : Ends} {P : List V → Prop} (h1 : EvL te σ H xs0) (h2 : EvA tr σ H vs) (hs : ∀ p0 H1, Ex H H1 → H1 p0 = some (.lst xs0) → SpN sp (.ref p0 :: vs ++ dvs) H1 P)
    (k : ∀ xs p H1, P xs → H p = none → Ex H H1 → H1 p = some (.lst xs) → D.nx (σ.set i (some (.ref p))) H1) : tAsg (tCall sp dvs E (tCons te tr)) (gName i) D σ H :=
  h1 H (Ex.refl H) _ fun p0 H1 _ e1 hp0 => h2 H1 e1 _ fun H2 e2 => hs p0 H2 (e1.trans e2) (e2 _ _ hp0) H2 (Ex.refl H2) _ (fun xs p H3 hP hp e3 h3 => k xs p H3 hP (fresh_back (e1.trans e2) hp) ((e1.trans e2).trans e3) h3) E
theorem ev_callL {sp : Sp} {dvs vs xs0 : List V} {E : XK} {te : TE} {tr : TA} {σ : L2.St} {H : Hp} {z : V} (h1 : EvL te σ H xs0) (h2 : EvA tr σ H vs) (hs : ∀ p0 H1, Ex H H1 → H1 p0 = some (.lst xs0) → SpV sp (.ref p0 :: vs ++ dvs) H1 z) : Ev (tCall sp dvs E (tCons te tr)) σ H z := fun H0 e0 Q q =>
  h1 H0 e0 _ fun p0 H1 _ e1 hp0 => h2 H1 (e0.trans e1) _ fun H2 e2 => hs p0 H2 ((e0.trans e1).trans e2) (e2 _ _ hp0) H2 (Ex.refl H2) _ (fun H3 e3 => q H3 ((e1.trans e2).trans e3)) E
theorem cut_from (xs : List V) (k : Nat) : cutV xs (some (k : Int)) none = xs.drop k := by
  unfold cutV
  rw [HT.sIx_nat, HT.sIx_none]
  by_cases h : k ≤ xs.length
  · rw [Nat.min_eq_left h, List.take_of_length_le (by rw [List.length_drop]; omega)]
  · rw [Nat.min_eq_right (by omega), Nat.sub_self, List.take_zero, List.drop_of_length_le (by omega)]
theorem s_asgSub {l : Addr} {xs : List V} {z : Int} {j : Nat} {te ta tb : TE} {σ : L2.St} {H : Hp} {v : V} {D : Ends} (hl : H l = some (.lst xs)) (h : Ev te σ H v) (ho : Ev ta σ H (.ref l)) (hi : Ev tb σ H (.int z)) (hz : z = (j : Int)) (hj : j < xs.length)
    (k : ∀ H1, Ex H H1 → D.nx σ (upd H1 l (.lst (xs.set j v)))) : tAsg te (gSub ta tb rSetL) D σ H := s_setL hl h ho (hz ▸ hi) hj k
end Su
open PySem PySem.Spec PyProof.Rows L2 Evl Su
/-! ### small tactics: "ev" an expression, "et" a test, "ea" arguments, "rv" an operator, "rc" a built-in, "hc" a bound -/
local macro_rules | `(tactic| walk_at "hc") => `(tactic| first | assumption | omega | (exact Su.CMul.l (by omega) (by omega)) | (exact Su.CMul.r (by omega) (by omega)) | (exact Su.wm (Su.n400' (by omega) (by omega)) (Su.n400' (by omega) (by omega))) | (exact Su.wd (by omega) (Su.n400' (by omega) (by omega))) | decide)
local macro_rules | `(tactic| walk_at "rv") => `(tactic| first
  | (with_reducible exact rv_I0)
  | (with_reducible exact rv_eq rfl)
  | (with_reducible exact rv_ne rfl)
  | (with_reducible refine Su.rv_mod ?_; walk_at "hc")
  | (with_reducible refine Su.rv_div ?_ ?_ <;> walk_at "hc")
  | (with_reducible refine Su.rv_mul ?_; walk_at "hc")
  | exact Su.rv_p18
  | exact Su.rv_p12
  | exact Su.rv_p20
  | (with_reducible refine Su.rv_divW ?_; walk_at "hc")
  | (with_reducible refine Su.rv_mulW ?_; walk_at "hc")
  | (apply rv_ixL; (first | assumption | (exact sq_of (by assumption))); (first | (apply Su.at_rows <;> walk_at "hc") | rfl | assumption)))
local macro_rules | `(tactic| walk_at "rc") => `(tactic| first
  | exact Su.rc_abs
  | exact Su.rc_max
  | exact Su.rc_min
  | exact Su.rc_isi_int (b := true) (by decide +kernel)
  | exact Su.rc_isi_int (b := false) (by decide +kernel))
local macro_rules | `(tactic| walk_at "ea") => `(tactic| first
  | exact ea_nil
  | (apply ea_cons; (walk_at "ev"); (walk_at "ea")))
local macro_rules | `(tactic| walk_at "ev") => `(tactic| first
  | exact ev_c
  | exact ev_var rfl
  | (apply ev_op; (walk_at "ev"); (walk_at "ev"); (walk_at "rv"))
  | (apply ev_un; (walk_at "ev"); (exact ru_neg))
  | (apply ev_andV; (walk_at "ev"); (intro _; walk_at "ev"))
  | (apply ev_orV; (walk_at "ev"); (intro _; walk_at "ev"))
  | (apply ev_notV; (walk_at "ev"))
  | (apply ev_len; (walk_at "ev"); first | assumption | (exact sq_of (by assumption)))
  | (apply ev_cb; (walk_at "ea"); (walk_at "rc")))
local macro_rules | `(tactic| walk_at "et") => `(tactic| first
  | (apply et_and; (walk_at "et"); (intro _; walk_at "et"))
  | (apply et_or; (walk_at "et"); (intro _; walk_at "et"))
  | (apply et_not; (walk_at "et"))
  | (apply et_test; (walk_at "ev"))
  | (apply et_B; (walk_at "ev")))

open PySem PySem.Spec PyProof.Rows L2 Evl Su
namespace Su
def topS (i : Nat) : Stmt := PySem.Challenge.pw_susu_k35_reports_let_by.main.body.getD i (.Pass ⟨0, 0, 0, 0⟩)
abbrev s__wall : Stmt := topS 0
abbrev N__wall : List Str := ["k"]
theorem sc__wall : FnScope N__wall ["k"] (defScope s__wall) := ⟨rfl, rfl, rfl, by decide +kernel, rfl, by decide +kernel, by decide +kernel⟩
abbrev s_first_covered : Stmt := topS 2
abbrev N_first_covered : List Str := ["stake", "seats", "pledge"]
theorem sc_first_covered : FnScope N_first_covered ["stake", "seats", "pledge"] (defScope s_first_covered) := ⟨rfl, rfl, rfl, by decide +kernel, rfl, by decide +kernel, by decide +kernel⟩
abbrev s_is_covered : Stmt := topS 3
abbrev N_is_covered : List Str := ["stake", "seats", "pledge", "turn"]
theorem sc_is_covered : FnScope N_is_covered ["stake", "seats", "pledge", "turn"] (defScope s_is_covered) := ⟨rfl, rfl, rfl, by decide +kernel, rfl, by decide +kernel, by decide +kernel⟩
abbrev s_within : Stmt := topS 4
abbrev N_within : List Str := ["windows", "a", "b", "at", "first", "last"]
theorem sc_within : FnScope N_within ["windows", "a", "b"] (defScope s_within) := ⟨rfl, rfl, rfl, by decide +kernel, rfl, by decide +kernel, by decide +kernel⟩
abbrev s_order_or_bar : Stmt := topS 5
abbrev N_order_or_bar : List Str := ["windows", "row", "a", "b"]
theorem sc_order_or_bar : FnScope N_order_or_bar ["windows"] (defScope s_order_or_bar) := ⟨rfl, rfl, rfl, by decide +kernel, rfl, by decide +kernel, by decide +kernel⟩
abbrev s_told_order : Stmt := topS 6
abbrev N_told_order : List Str := ["windows", "free", "row", "turn", "ready", "chosen", "at"]
theorem sc_told_order : FnScope N_told_order ["windows"] (defScope s_told_order) := ⟨rfl, rfl, rfl, by decide +kernel, rfl, by decide +kernel, by decide +kernel⟩
abbrev s_fullest_span : Stmt := topS 7
abbrev N_fullest_span : List Str := ["windows", "turns", "spans", "a", "b"]
theorem sc_fullest_span : FnScope N_fullest_span ["windows"] (defScope s_fullest_span) := ⟨rfl, rfl, rfl, by decide +kernel, rfl, by decide +kernel, by decide +kernel⟩
abbrev s_surplus : Stmt := topS 8
abbrev N_surplus : List Str := ["windows", "a", "b"]
theorem sc_surplus : FnScope N_surplus ["windows", "a", "b"] (defScope s_surplus) := ⟨rfl, rfl, rfl, by decide +kernel, rfl, by decide +kernel, by decide +kernel⟩
abbrev s_rounds_between : Stmt := topS 9
abbrev N_rounds_between : List Str := ["a", "b"]
theorem sc_rounds_between : FnScope N_rounds_between ["a", "b"] (defScope s_rounds_between) := ⟨rfl, rfl, rfl, by decide +kernel, rfl, by decide +kernel, by decide +kernel⟩
abbrev s_Ledger___init__ : Stmt := inClass (topS 11) 0
abbrev N_Ledger___init__ : List Str := ["self", "stake", "pledges", "queue", "bidding"]
theorem sc_Ledger___init__ : FnScope N_Ledger___init__ ["self", "stake", "pledges", "queue", "bidding"] (defScope s_Ledger___init__) := ⟨rfl, rfl, rfl, by decide +kernel, rfl, by decide +kernel, by decide +kernel⟩
abbrev s_Ledger_follows : Stmt := inClass (topS 11) 1
abbrev N_Ledger_follows : List Str := ["self", "report", "turn", "kind", "drawer", "coins", "share", "fallen", "pledged", "at"]
theorem sc_Ledger_follows : FnScope N_Ledger_follows ["self", "report"] (defScope s_Ledger_follows) := ⟨rfl, rfl, rfl, by decide +kernel, rfl, by decide +kernel, by decide +kernel⟩
abbrev s_Ledger_pledge_can_pay : Stmt := inClass (topS 11) 2
abbrev N_Ledger_pledge_can_pay : List Str := ["self", "at"]
theorem sc_Ledger_pledge_can_pay : FnScope N_Ledger_pledge_can_pay ["self", "at"] (defScope s_Ledger_pledge_can_pay) := ⟨rfl, rfl, rfl, by decide +kernel, rfl, by decide +kernel, by decide +kernel⟩
abbrev s_Ledger_payers : Stmt := inClass (topS 11) 3
abbrev N_Ledger_payers : List Str := ["self", "fallen"]
theorem sc_Ledger_payers : FnScope N_Ledger_payers ["self", "fallen"] (defScope s_Ledger_payers) := ⟨rfl, rfl, rfl, by decide +kernel, rfl, by decide +kernel, by decide +kernel⟩
abbrev s_Ledger_can_draw : Stmt := inClass (topS 11) 4
abbrev N_Ledger_can_draw : List Str := ["self", "drawer", "share"]
theorem sc_Ledger_can_draw : FnScope N_Ledger_can_draw ["self", "drawer", "share"] (defScope s_Ledger_can_draw) := ⟨rfl, rfl, rfl, by decide +kernel, rfl, by decide +kernel, by decide +kernel⟩
abbrev s_Ledger_draw_coins : Stmt := inClass (topS 11) 5
abbrev N_Ledger_draw_coins : List Str := ["self", "share"]
theorem sc_Ledger_draw_coins : FnScope N_Ledger_draw_coins ["self", "share"] (defScope s_Ledger_draw_coins) := ⟨rfl, rfl, rfl, by decide +kernel, rfl, by decide +kernel, by decide +kernel⟩
abbrev s_Ledger_take_in : Stmt := inClass (topS 11) 6
abbrev N_Ledger_take_in : List Str := ["self", "report", "turn", "kind", "drawer", "coins", "share", "fallen", "pledged", "at"]
theorem sc_Ledger_take_in : FnScope N_Ledger_take_in ["self", "report"] (defScope s_Ledger_take_in) := ⟨rfl, rfl, rfl, by decide +kernel, rfl, by decide +kernel, by decide +kernel⟩
abbrev s_first_wrong : Stmt := topS 12
abbrev N_first_wrong : List Str := ["stake", "pledges", "queue", "bidding", "reports", "ledger", "number", "report"]
theorem sc_first_wrong : FnScope N_first_wrong ["stake", "pledges", "queue", "bidding", "reports"] (defScope s_first_wrong) := ⟨rfl, rfl, rfl, by decide +kernel, rfl, by decide +kernel, by decide +kernel⟩
abbrev s_grows : Stmt := topS 13
abbrev N_grows : List Str := ["row", "at"]
theorem sc_grows : FnScope N_grows ["row"] (defScope s_grows) := ⟨rfl, rfl, rfl, by decide +kernel, rfl, by decide +kernel, by decide +kernel⟩
abbrev s_Seat___init__ : Stmt := inClass (topS 28) 0
abbrev N_Seat___init__ : List Str := ["self", "pledge"]
theorem sc_Seat___init__ : FnScope N_Seat___init__ ["self", "pledge"] (defScope s_Seat___init__) := ⟨rfl, rfl, rfl, by decide +kernel, rfl, by decide +kernel, by decide +kernel⟩
abbrev s_Circle___init__ : Stmt := inClass (topS 29) 0
abbrev N_Circle___init__ : List Str := ["self", "stake", "pledges", "wishes", "bidding", "pledge"]
theorem sc_Circle___init__ : FnScope N_Circle___init__ ["self", "stake", "pledges", "wishes", "bidding"] (defScope s_Circle___init__) := ⟨rfl, rfl, rfl, by decide +kernel, rfl, by decide +kernel, by decide +kernel⟩
abbrev s_Circle_turn : Stmt := inClass (topS 29) 1
abbrev N_Circle_turn : List Str := ["self"]
theorem sc_Circle_turn : FnScope N_Circle_turn ["self"] (defScope s_Circle_turn) := ⟨rfl, rfl, rfl, by decide +kernel, rfl, by decide +kernel, by decide +kernel⟩
abbrev s_Circle_ended : Stmt := inClass (topS 29) 2
abbrev N_Circle_ended : List Str := ["self"]
theorem sc_Circle_ended : FnScope N_Circle_ended ["self"] (defScope s_Circle_ended) := ⟨rfl, rfl, rfl, by decide +kernel, rfl, by decide +kernel, by decide +kernel⟩
abbrev s_Circle_queue : Stmt := inClass (topS 29) 3
abbrev N_Circle_queue : List Str := ["self"]
theorem sc_Circle_queue : FnScope N_Circle_queue ["self"] (defScope s_Circle_queue) := ⟨rfl, rfl, rfl, by decide +kernel, rfl, by decide +kernel, by decide +kernel⟩
abbrev s_Circle_box : Stmt := inClass (topS 29) 5
abbrev N_Circle_box : List Str := ["self"]
theorem sc_Circle_box : FnScope N_Circle_box ["self"] (defScope s_Circle_box) := ⟨rfl, rfl, rfl, by decide +kernel, rfl, by decide +kernel, by decide +kernel⟩
abbrev s_Circle_pot : Stmt := inClass (topS 29) 6
abbrev N_Circle_pot : List Str := ["self"]
theorem sc_Circle_pot : FnScope N_Circle_pot ["self"] (defScope s_Circle_pot) := ⟨rfl, rfl, rfl, by decide +kernel, rfl, by decide +kernel, by decide +kernel⟩
abbrev s_Circle_seat : Stmt := inClass (topS 29) 7
abbrev N_Circle_seat : List Str := ["self", "at", "seat"]
theorem sc_Circle_seat : FnScope N_Circle_seat ["self", "at"] (defScope s_Circle_seat) := ⟨rfl, rfl, rfl, by decide +kernel, rfl, by decide +kernel, by decide +kernel⟩
abbrev s_Circle_close : Stmt := inClass (topS 29) 11
abbrev N_Circle_close : List Str := ["self", "paid", "bids", "standing", "fallen", "pledged", "payers", "result", "report", "now", "before"]
theorem sc_Circle_close : FnScope N_Circle_close ["self", "paid", "bids"] (defScope s_Circle_close) := ⟨rfl, rfl, rfl, by decide +kernel, rfl, by decide +kernel, by decide +kernel⟩
abbrev s_Circle_seat_at : Stmt := inClass (topS 29) 16
abbrev N_Circle_seat_at : List Str := ["self", "at"]
theorem sc_Circle_seat_at : FnScope N_Circle_seat_at ["self", "at"] (defScope s_Circle_seat_at) := ⟨rfl, rfl, rfl, by decide +kernel, rfl, by decide +kernel, by decide +kernel⟩
abbrev s_Circle_seats_of : Stmt := inClass (topS 29) 17
abbrev N_Circle_seats_of : List Str := ["self", "numbers", "at"]
theorem sc_Circle_seats_of : FnScope N_Circle_seats_of ["self", "numbers"] (defScope s_Circle_seats_of) := ⟨rfl, rfl, rfl, by decide +kernel, rfl, by decide +kernel, by decide +kernel⟩
abbrev s_Circle_covers : Stmt := inClass (topS 29) 18
abbrev N_Circle_covers : List Str := ["self", "at", "turn"]
theorem sc_Circle_covers : FnScope N_Circle_covers ["self", "at", "turn"] (defScope s_Circle_covers) := ⟨rfl, rfl, rfl, by decide +kernel, rfl, by decide +kernel, by decide +kernel⟩
abbrev s_Circle_standings : Stmt := inClass (topS 29) 19
abbrev N_Circle_standings : List Str := ["self", "seat"]
theorem sc_Circle_standings : FnScope N_Circle_standings ["self"] (defScope s_Circle_standings) := ⟨rfl, rfl, rfl, by decide +kernel, rfl, by decide +kernel, by decide +kernel⟩
abbrev s_Circle_unpaid : Stmt := inClass (topS 29) 20
abbrev N_Circle_unpaid : List Str := ["self", "state", "paid", "at", "seat"]
theorem sc_Circle_unpaid : FnScope N_Circle_unpaid ["self", "state", "paid"] (defScope s_Circle_unpaid) := ⟨rfl, rfl, rfl, by decide +kernel, rfl, by decide +kernel, by decide +kernel⟩
abbrev s_Circle_refuse_lists : Stmt := inClass (topS 29) 21
abbrev N_Circle_refuse_lists : List Str := ["self", "paid", "bids", "coins"]
theorem sc_Circle_refuse_lists : FnScope N_Circle_refuse_lists ["self", "paid", "bids"] (defScope s_Circle_refuse_lists) := ⟨rfl, rfl, rfl, by decide +kernel, rfl, by decide +kernel, by decide +kernel⟩
abbrev s_Circle_let_fall : Stmt := inClass (topS 29) 22
abbrev N_Circle_let_fall : List Str := ["self", "fallen", "at"]
theorem sc_Circle_let_fall : FnScope N_Circle_let_fall ["self", "fallen"] (defScope s_Circle_let_fall) := ⟨rfl, rfl, rfl, by decide +kernel, rfl, by decide +kernel, by decide +kernel⟩
abbrev s_Circle_leave_queue : Stmt := inClass (topS 29) 23
abbrev N_Circle_leave_queue : List Str := ["self", "at", "state", "seat"]
theorem sc_Circle_leave_queue : FnScope N_Circle_leave_queue ["self", "at", "state"] (defScope s_Circle_leave_queue) := ⟨rfl, rfl, rfl, by decide +kernel, rfl, by decide +kernel, by decide +kernel⟩
abbrev s_Circle_charge_pledges : Stmt := inClass (topS 29) 24
abbrev N_Circle_charge_pledges : List Str := ["self", "pledged", "seat"]
theorem sc_Circle_charge_pledges : FnScope N_Circle_charge_pledges ["self", "pledged"] (defScope s_Circle_charge_pledges) := ⟨rfl, rfl, rfl, by decide +kernel, rfl, by decide +kernel, by decide +kernel⟩
abbrev s_Circle_collect : Stmt := inClass (topS 29) 25
abbrev N_Circle_collect : List Str := ["self", "seat", "payers", "at"]
theorem sc_Circle_collect : FnScope N_Circle_collect ["self"] (defScope s_Circle_collect) := ⟨rfl, rfl, rfl, by decide +kernel, rfl, by decide +kernel, by decide +kernel⟩
abbrev s_Circle_rest : Stmt := inClass (topS 29) 26
abbrev N_Circle_rest : List Str := ["self", "payers"]
theorem sc_Circle_rest : FnScope N_Circle_rest ["self", "payers"] (defScope s_Circle_rest) := ⟨rfl, rfl, rfl, by decide +kernel, rfl, by decide +kernel, by decide +kernel⟩
abbrev s_Circle_draw : Stmt := inClass (topS 29) 27
abbrev N_Circle_draw : List Str := ["self", "payers", "bids", "drawer", "bid", "others", "share", "coins", "winner", "seat", "at"]
theorem sc_Circle_draw : FnScope N_Circle_draw ["self", "payers", "bids"] (defScope s_Circle_draw) := ⟨rfl, rfl, rfl, by decide +kernel, rfl, by decide +kernel, by decide +kernel⟩
abbrev s_Circle_best_bid : Stmt := inClass (topS 29) 28
abbrev N_Circle_best_bid : List Str := ["self", "bids", "counting", "best", "at"]
theorem sc_Circle_best_bid : FnScope N_Circle_best_bid ["self", "bids"] (defScope s_Circle_best_bid) := ⟨rfl, rfl, rfl, by decide +kernel, rfl, by decide +kernel, by decide +kernel⟩
abbrev s_refuse_opening : Stmt := topS 30
abbrev N_refuse_opening : List Str := ["stake", "pledges", "wishes", "many", "pledge", "wish"]
theorem sc_refuse_opening : FnScope N_refuse_opening ["stake", "pledges", "wishes"] (defScope s_refuse_opening) := ⟨rfl, rfl, rfl, by decide +kernel, rfl, by decide +kernel, by decide +kernel⟩
abbrev s_first_queue : Stmt := topS 31
abbrev N_first_queue : List Str := ["stake", "pledges", "wishes", "windows", "paper", "pledge", "wish"]
theorem sc_first_queue : FnScope N_first_queue ["stake", "pledges", "wishes"] (defScope s_first_queue) := ⟨rfl, rfl, rfl, by decide +kernel, rfl, by decide +kernel, by decide +kernel⟩
abbrev s__law_draws : Stmt := topS 33
abbrev N__law_draws : List Str := ["_law_script", "_law_many", "_law_rows", "_law_mix", "_law_cell", "_law_rest"]
theorem sc__law_draws : FnScope N__law_draws ["_law_script", "_law_many"] (defScope s__law_draws) := ⟨rfl, rfl, rfl, by decide +kernel, rfl, by decide +kernel, by decide +kernel⟩
abbrev s__law_same : Stmt := topS 34
abbrev N__law_same : List Str := ["_law_told", "_law_due", "_law_one", "_law_other"]
theorem sc__law_same : FnScope N__law_same ["_law_told", "_law_due"] (defScope s__law_same) := ⟨rfl, rfl, rfl, by decide +kernel, rfl, by decide +kernel, by decide +kernel⟩
abbrev s__law_perm : Stmt := topS 35
abbrev N__law_perm : List Str := ["_law_some", "_law_size", "_law_row", "_law_at"]
theorem sc__law_perm : FnScope N__law_perm ["_law_some", "_law_size"] (defScope s__law_perm) := ⟨rfl, rfl, rfl, by decide +kernel, rfl, by decide +kernel, by decide +kernel⟩
abbrev s__law_bits : Stmt := topS 36
abbrev N__law_bits : List Str := ["_law_number", "_law_size", "_law_row", "_law_at"]
theorem sc__law_bits : FnScope N__law_bits ["_law_number", "_law_size"] (defScope s__law_bits) := ⟨rfl, rfl, rfl, by decide +kernel, rfl, by decide +kernel, by decide +kernel⟩
abbrev s__law_paid : Stmt := topS 37
abbrev N__law_paid : List Str := ["_law_some", "_law_turn", "_law_size", "_law_way", "_law_raw", "_law_other", "_law_row"]
theorem sc__law_paid : FnScope N__law_paid ["_law_some", "_law_turn", "_law_size", "_law_way"] (defScope s__law_paid) := ⟨rfl, rfl, rfl, by decide +kernel, rfl, by decide +kernel, by decide +kernel⟩
abbrev s__law_opening : Stmt := topS 38
abbrev N__law_opening : List Str := ["_law_some", "_law_size", "_law_stake", "_law_pledges", "_law_wishes", "_law_at", "_law_number", "_law_rest"]
theorem sc__law_opening : FnScope N__law_opening ["_law_some", "_law_size", "_law_stake"] (defScope s__law_opening) := ⟨rfl, rfl, rfl, by decide +kernel, rfl, by decide +kernel, by decide +kernel⟩
abbrev s_law : Stmt := topS 39
abbrev N_law : List Str := ["_law_script", "_law_some", "_law_size", "_law_stake", "_law_bidding", "_law_pledges", "_law_wishes", "_law_circle", "_law_line", "_law_reports", "_law_turn", "_law_paid_here", "_law_bids", "_law_some_first", "_law_lent", "_law_queue", "_law_handed", "_law_again", "_law_row", "_law_at"]
theorem sc_law : FnScope N_law ["_law_script"] (defScope s_law) := ⟨rfl, rfl, rfl, by decide +kernel, rfl, by decide +kernel, by decide +kernel⟩
/-- a def whose code object is known by its address -/
structure FunC (K : PySem.W.Frag) (x qual : Str) (st : Stmt) (f : Addr) (fd : FuncData) (c : Addr) : Prop where
  ex : ∃ (oc : Value) (od : Option Addr) (kV doc pm : Value) (an : Option Addr) (ct : Value) (osl : Array (Option Value)),
    fd = PySem.W.fnOf x qual (defArgs st) (defBody st) (defScope st) .none kV doc pm an (.ref c) ct ∧ K.lookup f = some ⟨oc, od, .func fd, osl⟩ ∧ PySem.W.codeIn K (.ref c) qual = true
section
variable {P : Program} {w : World} {K : PySem.W.Frag} {mg : Str → Option Value} {base : Heap}
theorem FunC.ok {x qual : Str} {st : Stmt} {f c : Addr} {fd : FuncData} {N ps : List Str} {k : Nat} {sp : Sp} (F : FunC K x qual st f fd c) (S : FnScope N ps (defScope st)) (len : ∀ vs H Q E, sp vs H Q E → vs.length = ps.length)
    (hbody : ∀ (A : Around) (outer : List Env) (s : Shared) (H : Hp) (vs : List V) (Q : VK) (E : XK), Room k (A.deeper (envOfC qual (defScope st) s.heap.objs.size f (.ref c))) → sp vs H Q E →
      ∃ t, PSs (cxOf CX0 P w K mg base N qual (defScope st) f (.ref c) A outer s H E).nox (defBody st) t ∧ t { nx := fun _ H' => Q .non H', rt := Q } (start N vs) H) : FnOk P w K mg base CX0 (k + 1) f fd ps sp := by
  obtain ⟨oc, od, kV, doc, pm, an, ct, osl, rfl, lk, hcd⟩ := F.ex
  refine fn_of lk hcd S len fun A outer s H vs Q E hr hsp => ?_
  obtain ⟨t, h, q⟩ := hbody A outer s H vs Q E hr hsp
  exact ⟨t, h.nox, q⟩
theorem func_mk {x qual : Str} {st : Stmt} {f c : Addr} {oc : Value} {od an : Option Addr} {osl : Array (Option Value)} {kV doc pm cdv ct : Value} (l : K.lookup f = some ⟨oc, od, .func (PySem.W.fnOf x qual (defArgs st) (defBody st) (defScope st) .none kV doc pm an cdv ct), osl⟩)
    (h : PySem.W.codeIn K cdv qual = true) (e : cdv = .ref c) : FunC K x qual st f (PySem.W.fnOf x qual (defArgs st) (defBody st) (defScope st) .none kV doc pm an cdv ct) c := by
  subst e
  exact ⟨oc, od, kV, doc, pm, an, ct, osl, rfl, l, h⟩
end
section
variable {K : PySem.W.Frag}
theorem fund_mk {x qual : Str} {params : Arguments} {body : List Stmt} {scope : Scope} {dvs : List V} {f T : Addr} {oc oc2 : Value} {od od2 an : Option Addr} {osl osl2 : Array (Option Value)} {kV doc pm cdv ct : Value} {its : Array Value} {n : Nat} (l : K.lookup f = some ⟨oc, od, .func (PySem.W.fnOf x qual params body scope (.ref T) kV doc pm an cdv ct), osl⟩)
    (c : PySem.W.codeIn K cdv qual = true) (k : PySem.W.keepIn K (.ref f) = true) (e : K.lookup T = some ⟨oc2, od2, .seq its n, osl2⟩) (hv : Vals dvs its.toList) (h0 : dvs ≠ [] := by simp) : FunD K x qual params body scope dvs [] f (PySem.W.fnOf x qual params body scope (.ref T) kV doc pm an cdv ct) :=
  ⟨⟨oc, od, _, kV, doc, pm, an, cdv, ct, osl, rfl, l, c, .inr ⟨h0, T, _, its.toList, n, rfl, e, rfl, hv⟩, .inl rfl⟩, k⟩
theorem binds_full {x qual : Str} {params : Arguments} {body : List Stmt} {scope : Scope} {v : V} {f : Addr} {fd : FuncData} {ps : List Str} (F : FunD K x qual params body scope [v] [] f fd)
    (h : ∀ (T : Addr) (kV doc pm : Value) (an : Option Addr) (cdv ct : Value) (us its : List Value), us.length = ps.length → its.length = 1 →
      ∃ k, bindArgs (PySem.W.fnOf x qual params body scope (.ref T) kV doc pm an cdv ct) ⟨us, []⟩ = seqItems? (.ref T) >>= k ∧ k (some its.toArray) = pure (ps.zip (us ++ its.drop 1))) : Binds K fd ps [] := by
  obtain ⟨ds, h1, h2⟩ := F.binds1 (ps := ps) ps.length 1 (by simp) (by show ps.length + (1 - 1) = ps.length; omega) h
  cases h1
  exact h2
end
/-- a def of the text, and a method -/
structure FnI (K : PySem.W.Frag) (x qual : Str) (st : Stmt) (ps : List Str) where
  f : Addr
  fd : FuncData
  F : Fun K x qual st f fd
  b : Binds K fd ps []
structure FnD (K : PySem.W.Frag) (x qual : Str) (st : Stmt) (ps : List Str) (dvs : List V) where
  f : Addr
  fd : FuncData
  F : FunD K x qual (defArgs st) (defBody st) (defScope st) dvs [] f fd
  b : Binds K fd ps []
  bd : ∃ ds, Vals dvs ds ∧ Binds K fd ps ds
structure MtI (K : PySem.W.Frag) (C : Addr) (x qual : Str) (st : Stmt) (ps : List Str) extends FnI K x qual st ps where
  mt : Meth K C x f
set_option maxHeartbeats 4000000 in
structure Top (K : PySem.W.Frag) (mg : Str → Option Value) where
  f_Ledger : Addr
  m_Ledger : mg "Ledger" = some (.ref f_Ledger)
  cl_Ledger : Cls K f_Ledger
  f_Seat : Addr
  m_Seat : mg "Seat" = some (.ref f_Seat)
  cl_Seat : Cls K f_Seat
  f_Circle : Addr
  m_Circle : mg "Circle" = some (.ref f_Circle)
  cl_Circle : Cls K f_Circle
  d__wall : FnI K "_wall" "_wall" s__wall ["k"]
  m__wall : mg "_wall" = some (.ref d__wall.f)
  d_first_covered : FnI K "first_covered" "first_covered" s_first_covered ["stake", "seats", "pledge"]
  m_first_covered : mg "first_covered" = some (.ref d_first_covered.f)
  d_is_covered : FnI K "is_covered" "is_covered" s_is_covered ["stake", "seats", "pledge", "turn"]
  m_is_covered : mg "is_covered" = some (.ref d_is_covered.f)
  d_within : FnI K "within" "within" s_within ["windows", "a", "b"]
  m_within : mg "within" = some (.ref d_within.f)
  d_order_or_bar : FnI K "order_or_bar" "order_or_bar" s_order_or_bar ["windows"]
  m_order_or_bar : mg "order_or_bar" = some (.ref d_order_or_bar.f)
  d_told_order : FnI K "told_order" "told_order" s_told_order ["windows"]
  m_told_order : mg "told_order" = some (.ref d_told_order.f)
  d_fullest_span : FnI K "fullest_span" "fullest_span" s_fullest_span ["windows"]
  m_fullest_span : mg "fullest_span" = some (.ref d_fullest_span.f)
  d_surplus : FnI K "surplus" "surplus" s_surplus ["windows", "a", "b"]
  m_surplus : mg "surplus" = some (.ref d_surplus.f)
  d_rounds_between : FnI K "rounds_between" "rounds_between" s_rounds_between ["a", "b"]
  m_rounds_between : mg "rounds_between" = some (.ref d_rounds_between.f)
  d_Ledger___init__ : FnI K "__init__" "Ledger.__init__" s_Ledger___init__ ["self", "stake", "pledges", "queue", "bidding"]
  d_Ledger_follows : MtI K f_Ledger "follows" "Ledger.follows" s_Ledger_follows ["self", "report"]
  d_Ledger_pledge_can_pay : MtI K f_Ledger "pledge_can_pay" "Ledger.pledge_can_pay" s_Ledger_pledge_can_pay ["self", "at"]
  d_Ledger_payers : MtI K f_Ledger "payers" "Ledger.payers" s_Ledger_payers ["self", "fallen"]
  d_Ledger_can_draw : MtI K f_Ledger "can_draw" "Ledger.can_draw" s_Ledger_can_draw ["self", "drawer", "share"]
  d_Ledger_draw_coins : MtI K f_Ledger "draw_coins" "Ledger.draw_coins" s_Ledger_draw_coins ["self", "share"]
  d_Ledger_take_in : MtI K f_Ledger "take_in" "Ledger.take_in" s_Ledger_take_in ["self", "report"]
  d_first_wrong : FnI K "first_wrong" "first_wrong" s_first_wrong ["stake", "pledges", "queue", "bidding", "reports"]
  m_first_wrong : mg "first_wrong" = some (.ref d_first_wrong.f)
  d_grows : FnI K "grows" "grows" s_grows ["row"]
  m_grows : mg "grows" = some (.ref d_grows.f)
  d_Seat___init__ : FnI K "__init__" "Seat.__init__" s_Seat___init__ ["self", "pledge"]
  d_Circle___init__ : FnD K "__init__" "Circle.__init__" s_Circle___init__ ["self", "stake", "pledges", "wishes", "bidding"] [.bl false]
  d_Circle_turn : MtI K f_Circle "turn" "Circle.turn" s_Circle_turn ["self"]
  d_Circle_ended : MtI K f_Circle "ended" "Circle.ended" s_Circle_ended ["self"]
  d_Circle_queue : MtI K f_Circle "queue" "Circle.queue" s_Circle_queue ["self"]
  d_Circle_box : MtI K f_Circle "box" "Circle.box" s_Circle_box ["self"]
  d_Circle_pot : MtI K f_Circle "pot" "Circle.pot" s_Circle_pot ["self"]
  d_Circle_seat : MtI K f_Circle "seat" "Circle.seat" s_Circle_seat ["self", "at"]
  d_Circle_close : MtI K f_Circle "close" "Circle.close" s_Circle_close ["self", "paid", "bids"]
  d_Circle_seat_at : MtI K f_Circle "seat_at" "Circle.seat_at" s_Circle_seat_at ["self", "at"]
  d_Circle_seats_of : MtI K f_Circle "seats_of" "Circle.seats_of" s_Circle_seats_of ["self", "numbers"]
  d_Circle_covers : MtI K f_Circle "covers" "Circle.covers" s_Circle_covers ["self", "at", "turn"]
  d_Circle_standings : MtI K f_Circle "standings" "Circle.standings" s_Circle_standings ["self"]
  d_Circle_unpaid : MtI K f_Circle "unpaid" "Circle.unpaid" s_Circle_unpaid ["self", "state", "paid"]
  d_Circle_refuse_lists : MtI K f_Circle "refuse_lists" "Circle.refuse_lists" s_Circle_refuse_lists ["self", "paid", "bids"]
  d_Circle_let_fall : MtI K f_Circle "let_fall" "Circle.let_fall" s_Circle_let_fall ["self", "fallen"]
  d_Circle_leave_queue : MtI K f_Circle "leave_queue" "Circle.leave_queue" s_Circle_leave_queue ["self", "at", "state"]
  d_Circle_charge_pledges : MtI K f_Circle "charge_pledges" "Circle.charge_pledges" s_Circle_charge_pledges ["self", "pledged"]
  d_Circle_collect : MtI K f_Circle "collect" "Circle.collect" s_Circle_collect ["self"]
  d_Circle_rest : MtI K f_Circle "rest" "Circle.rest" s_Circle_rest ["self", "payers"]
  d_Circle_draw : MtI K f_Circle "draw" "Circle.draw" s_Circle_draw ["self", "payers", "bids"]
  d_Circle_best_bid : MtI K f_Circle "best_bid" "Circle.best_bid" s_Circle_best_bid ["self", "bids"]
  d_refuse_opening : FnI K "refuse_opening" "refuse_opening" s_refuse_opening ["stake", "pledges", "wishes"]
  m_refuse_opening : mg "refuse_opening" = some (.ref d_refuse_opening.f)
  d_first_queue : FnI K "first_queue" "first_queue" s_first_queue ["stake", "pledges", "wishes"]
  m_first_queue : mg "first_queue" = some (.ref d_first_queue.f)
  d__law_draws : FnI K "_law_draws" "_law_draws" s__law_draws ["_law_script", "_law_many"]
  m__law_draws : mg "_law_draws" = some (.ref d__law_draws.f)
  d__law_same : FnI K "_law_same" "_law_same" s__law_same ["_law_told", "_law_due"]
  m__law_same : mg "_law_same" = some (.ref d__law_same.f)
  d__law_perm : FnI K "_law_perm" "_law_perm" s__law_perm ["_law_some", "_law_size"]
  m__law_perm : mg "_law_perm" = some (.ref d__law_perm.f)
  d__law_bits : FnI K "_law_bits" "_law_bits" s__law_bits ["_law_number", "_law_size"]
  m__law_bits : mg "_law_bits" = some (.ref d__law_bits.f)
  d__law_paid : FnI K "_law_paid" "_law_paid" s__law_paid ["_law_some", "_law_turn", "_law_size", "_law_way"]
  m__law_paid : mg "_law_paid" = some (.ref d__law_paid.f)
  d__law_opening : FnI K "_law_opening" "_law_opening" s__law_opening ["_law_some", "_law_size", "_law_stake"]
  m__law_opening : mg "_law_opening" = some (.ref d__law_opening.f)
  d_law : FnI K "law" "law" s_law ["_law_script"]
  m_law : mg "law" = some (.ref d_law.f)
  mk_Ledger : Mk K f_Ledger d_Ledger___init__.f
  na_Ledger : ∀ x ∈ (["stake", "pledges_left", "line", "bidding", "drawers", "open_round", "rests_due"] : List Str), NoAttr K f_Ledger x
  mk_Seat : Mk K f_Seat d_Seat___init__.f
  na_Seat : ∀ x ∈ (["state", "since", "pledge", "given", "drawn", "shared", "pledge_stakes"] : List Str), NoAttr K f_Seat x
  mk_Circle : Mk K f_Circle d_Circle___init__.f
  na_Circle : ∀ x ∈ (["line", "stake", "first_pledges", "wishes", "bidding", "seats", "open_round", "rests_due", "chest", "flows"] : List Str), NoAttr K f_Circle x
  m_abs : mg "abs" = none
  m_all : mg "all" = none
  m_bool : mg "bool" = none
  m_enumerate : mg "enumerate" = none
  m_int : mg "int" = none
  m_isinstance : mg "isinstance" = none
  m_len : mg "len" = none
  m_list : mg "list" = none
  m_max : mg "max" = none
  m_min : mg "min" = none
  m_range : mg "range" = none
  m_str : mg "str" = none
  m_tuple : mg "tuple" = none
  m_zip : mg "zip" = none
  c_told_order : Addr
  P_told_order : Addr
  C_told_order : FunC K "told_order" "told_order" s_told_order d_told_order.f d_told_order.fd c_told_order
  c_fullest_span : Addr
  P_fullest_span : Addr
  C_fullest_span : FunC K "fullest_span" "fullest_span" s_fullest_span d_fullest_span.f d_fullest_span.fd c_fullest_span
  c_Circle_best_bid : Addr
  P_Circle_best_bid : Addr
  C_Circle_best_bid : FunC K "best_bid" "Circle.best_bid" s_Circle_best_bid d_Circle_best_bid.f d_Circle_best_bid.fd c_Circle_best_bid
  ne_told_order_fullest_span : P_told_order ≠ P_fullest_span
  ne_told_order_Circle_best_bid : P_told_order ≠ P_Circle_best_bid
  ne_fullest_span_Circle_best_bid : P_fullest_span ≠ P_Circle_best_bid
  t_MOST_STAKE : Tok
  m_MOST_STAKE : mg "MOST_STAKE" = some (.int 1000000 t_MOST_STAKE)
  t_LEAST_SEATS : Tok
  m_LEAST_SEATS : mg "LEAST_SEATS" = some (.int 2 t_LEAST_SEATS)
  t_MOST_SEATS : Tok
  m_MOST_SEATS : mg "MOST_SEATS" = some (.int 20 t_MOST_SEATS)
  t_MOST_COINS : Tok
  m_MOST_COINS : mg "MOST_COINS" = some (.int 1000000000 t_MOST_COINS)
  t_WAITS : Tok
  m_WAITS : mg "WAITS" = some (.str "waits" t_WAITS)
  t_DREW : Tok
  m_DREW : mg "DREW" = some (.str "drew" t_DREW)
  t_FELL : Tok
  m_FELL : mg "FELL" = some (.str "fell" t_FELL)
abbrev Top.f__wall {K : PySem.W.Frag} {mg : Str → Option Value} (T : Top K mg) : Addr := T.d__wall.f
abbrev Top.fd__wall {K : PySem.W.Frag} {mg : Str → Option Value} (T : Top K mg) : FuncData := T.d__wall.fd
theorem Top.F__wall {K : PySem.W.Frag} {mg : Str → Option Value} (T : Top K mg) : Fun K "_wall" "_wall" s__wall T.f__wall T.fd__wall := T.d__wall.F
theorem Top.b__wall {K : PySem.W.Frag} {mg : Str → Option Value} (T : Top K mg) : Binds K T.fd__wall ["k"] [] := T.d__wall.b
abbrev Top.f_first_covered {K : PySem.W.Frag} {mg : Str → Option Value} (T : Top K mg) : Addr := T.d_first_covered.f
abbrev Top.fd_first_covered {K : PySem.W.Frag} {mg : Str → Option Value} (T : Top K mg) : FuncData := T.d_first_covered.fd
theorem Top.F_first_covered {K : PySem.W.Frag} {mg : Str → Option Value} (T : Top K mg) : Fun K "first_covered" "first_covered" s_first_covered T.f_first_covered T.fd_first_covered := T.d_first_covered.F
theorem Top.b_first_covered {K : PySem.W.Frag} {mg : Str → Option Value} (T : Top K mg) : Binds K T.fd_first_covered ["stake", "seats", "pledge"] [] := T.d_first_covered.b
abbrev Top.f_is_covered {K : PySem.W.Frag} {mg : Str → Option Value} (T : Top K mg) : Addr := T.d_is_covered.f
abbrev Top.fd_is_covered {K : PySem.W.Frag} {mg : Str → Option Value} (T : Top K mg) : FuncData := T.d_is_covered.fd
theorem Top.F_is_covered {K : PySem.W.Frag} {mg : Str → Option Value} (T : Top K mg) : Fun K "is_covered" "is_covered" s_is_covered T.f_is_covered T.fd_is_covered := T.d_is_covered.F
theorem Top.b_is_covered {K : PySem.W.Frag} {mg : Str → Option Value} (T : Top K mg) : Binds K T.fd_is_covered ["stake", "seats", "pledge", "turn"] [] := T.d_is_covered.b
abbrev Top.f_within {K : PySem.W.Frag} {mg : Str → Option Value} (T : Top K mg) : Addr := T.d_within.f
abbrev Top.fd_within {K : PySem.W.Frag} {mg : Str → Option Value} (T : Top K mg) : FuncData := T.d_within.fd
theorem Top.F_within {K : PySem.W.Frag} {mg : Str → Option Value} (T : Top K mg) : Fun K "within" "within" s_within T.f_within T.fd_within := T.d_within.F
theorem Top.b_within {K : PySem.W.Frag} {mg : Str → Option Value} (T : Top K mg) : Binds K T.fd_within ["windows", "a", "b"] [] := T.d_within.b
abbrev Top.f_order_or_bar {K : PySem.W.Frag} {mg : Str → Option Value} (T : Top K mg) : Addr := T.d_order_or_bar.f
abbrev Top.fd_order_or_bar {K : PySem.W.Frag} {mg : Str → Option Value} (T : Top K mg) : FuncData := T.d_order_or_bar.fd
theorem Top.F_order_or_bar {K : PySem.W.Frag} {mg : Str → Option Value} (T : Top K mg) : Fun K "order_or_bar" "order_or_bar" s_order_or_bar T.f_order_or_bar T.fd_order_or_bar := T.d_order_or_bar.F
theorem Top.b_order_or_bar {K : PySem.W.Frag} {mg : Str → Option Value} (T : Top K mg) : Binds K T.fd_order_or_bar ["windows"] [] := T.d_order_or_bar.b
abbrev Top.f_told_order {K : PySem.W.Frag} {mg : Str → Option Value} (T : Top K mg) : Addr := T.d_told_order.f
abbrev Top.fd_told_order {K : PySem.W.Frag} {mg : Str → Option Value} (T : Top K mg) : FuncData := T.d_told_order.fd
theorem Top.F_told_order {K : PySem.W.Frag} {mg : Str → Option Value} (T : Top K mg) : Fun K "told_order" "told_order" s_told_order T.f_told_order T.fd_told_order := T.d_told_order.F
theorem Top.b_told_order {K : PySem.W.Frag} {mg : Str → Option Value} (T : Top K mg) : Binds K T.fd_told_order ["windows"] [] := T.d_told_order.b
abbrev Top.f_fullest_span {K : PySem.W.Frag} {mg : Str → Option Value} (T : Top K mg) : Addr := T.d_fullest_span.f
abbrev Top.fd_fullest_span {K : PySem.W.Frag} {mg : Str → Option Value} (T : Top K mg) : FuncData := T.d_fullest_span.fd
theorem Top.F_fullest_span {K : PySem.W.Frag} {mg : Str → Option Value} (T : Top K mg) : Fun K "fullest_span" "fullest_span" s_fullest_span T.f_fullest_span T.fd_fullest_span := T.d_fullest_span.F
theorem Top.b_fullest_span {K : PySem.W.Frag} {mg : Str → Option Value} (T : Top K mg) : Binds K T.fd_fullest_span ["windows"] [] := T.d_fullest_span.b
abbrev Top.f_surplus {K : PySem.W.Frag} {mg : Str → Option Value} (T : Top K mg) : Addr := T.d_surplus.f
abbrev Top.fd_surplus {K : PySem.W.Frag} {mg : Str → Option Value} (T : Top K mg) : FuncData := T.d_surplus.fd
theorem Top.F_surplus {K : PySem.W.Frag} {mg : Str → Option Value} (T : Top K mg) : Fun K "surplus" "surplus" s_surplus T.f_surplus T.fd_surplus := T.d_surplus.F
theorem Top.b_surplus {K : PySem.W.Frag} {mg : Str → Option Value} (T : Top K mg) : Binds K T.fd_surplus ["windows", "a", "b"] [] := T.d_surplus.b
abbrev Top.f_rounds_between {K : PySem.W.Frag} {mg : Str → Option Value} (T : Top K mg) : Addr := T.d_rounds_between.f
abbrev Top.fd_rounds_between {K : PySem.W.Frag} {mg : Str → Option Value} (T : Top K mg) : FuncData := T.d_rounds_between.fd
theorem Top.F_rounds_between {K : PySem.W.Frag} {mg : Str → Option Value} (T : Top K mg) : Fun K "rounds_between" "rounds_between" s_rounds_between T.f_rounds_between T.fd_rounds_between := T.d_rounds_between.F
theorem Top.b_rounds_between {K : PySem.W.Frag} {mg : Str → Option Value} (T : Top K mg) : Binds K T.fd_rounds_between ["a", "b"] [] := T.d_rounds_between.b
abbrev Top.f_Ledger___init__ {K : PySem.W.Frag} {mg : Str → Option Value} (T : Top K mg) : Addr := T.d_Ledger___init__.f
abbrev Top.fd_Ledger___init__ {K : PySem.W.Frag} {mg : Str → Option Value} (T : Top K mg) : FuncData := T.d_Ledger___init__.fd
theorem Top.F_Ledger___init__ {K : PySem.W.Frag} {mg : Str → Option Value} (T : Top K mg) : Fun K "__init__" "Ledger.__init__" s_Ledger___init__ T.f_Ledger___init__ T.fd_Ledger___init__ := T.d_Ledger___init__.F
theorem Top.b_Ledger___init__ {K : PySem.W.Frag} {mg : Str → Option Value} (T : Top K mg) : Binds K T.fd_Ledger___init__ ["self", "stake", "pledges", "queue", "bidding"] [] := T.d_Ledger___init__.b
abbrev Top.f_Ledger_follows {K : PySem.W.Frag} {mg : Str → Option Value} (T : Top K mg) : Addr := T.d_Ledger_follows.f
abbrev Top.fd_Ledger_follows {K : PySem.W.Frag} {mg : Str → Option Value} (T : Top K mg) : FuncData := T.d_Ledger_follows.fd
theorem Top.F_Ledger_follows {K : PySem.W.Frag} {mg : Str → Option Value} (T : Top K mg) : Fun K "follows" "Ledger.follows" s_Ledger_follows T.f_Ledger_follows T.fd_Ledger_follows := T.d_Ledger_follows.F
theorem Top.b_Ledger_follows {K : PySem.W.Frag} {mg : Str → Option Value} (T : Top K mg) : Binds K T.fd_Ledger_follows ["self", "report"] [] := T.d_Ledger_follows.b
theorem Top.mt_Ledger_follows {K : PySem.W.Frag} {mg : Str → Option Value} (T : Top K mg) : Meth K T.f_Ledger "follows" T.f_Ledger_follows := T.d_Ledger_follows.mt
abbrev Top.f_Ledger_pledge_can_pay {K : PySem.W.Frag} {mg : Str → Option Value} (T : Top K mg) : Addr := T.d_Ledger_pledge_can_pay.f
abbrev Top.fd_Ledger_pledge_can_pay {K : PySem.W.Frag} {mg : Str → Option Value} (T : Top K mg) : FuncData := T.d_Ledger_pledge_can_pay.fd
theorem Top.F_Ledger_pledge_can_pay {K : PySem.W.Frag} {mg : Str → Option Value} (T : Top K mg) : Fun K "pledge_can_pay" "Ledger.pledge_can_pay" s_Ledger_pledge_can_pay T.f_Ledger_pledge_can_pay T.fd_Ledger_pledge_can_pay := T.d_Ledger_pledge_can_pay.F
theorem Top.b_Ledger_pledge_can_pay {K : PySem.W.Frag} {mg : Str → Option Value} (T : Top K mg) : Binds K T.fd_Ledger_pledge_can_pay ["self", "at"] [] := T.d_Ledger_pledge_can_pay.b
theorem Top.mt_Ledger_pledge_can_pay {K : PySem.W.Frag} {mg : Str → Option Value} (T : Top K mg) : Meth K T.f_Ledger "pledge_can_pay" T.f_Ledger_pledge_can_pay := T.d_Ledger_pledge_can_pay.mt
abbrev Top.f_Ledger_payers {K : PySem.W.Frag} {mg : Str → Option Value} (T : Top K mg) : Addr := T.d_Ledger_payers.f
abbrev Top.fd_Ledger_payers {K : PySem.W.Frag} {mg : Str → Option Value} (T : Top K mg) : FuncData := T.d_Ledger_payers.fd
theorem Top.F_Ledger_payers {K : PySem.W.Frag} {mg : Str → Option Value} (T : Top K mg) : Fun K "payers" "Ledger.payers" s_Ledger_payers T.f_Ledger_payers T.fd_Ledger_payers := T.d_Ledger_payers.F
theorem Top.b_Ledger_payers {K : PySem.W.Frag} {mg : Str → Option Value} (T : Top K mg) : Binds K T.fd_Ledger_payers ["self", "fallen"] [] := T.d_Ledger_payers.b
theorem Top.mt_Ledger_payers {K : PySem.W.Frag} {mg : Str → Option Value} (T : Top K mg) : Meth K T.f_Ledger "payers" T.f_Ledger_payers := T.d_Ledger_payers.mt
abbrev Top.f_Ledger_can_draw {K : PySem.W.Frag} {mg : Str → Option Value} (T : Top K mg) : Addr := T.d_Ledger_can_draw.f
abbrev Top.fd_Ledger_can_draw {K : PySem.W.Frag} {mg : Str → Option Value} (T : Top K mg) : FuncData := T.d_Ledger_can_draw.fd
theorem Top.F_Ledger_can_draw {K : PySem.W.Frag} {mg : Str → Option Value} (T : Top K mg) : Fun K "can_draw" "Ledger.can_draw" s_Ledger_can_draw T.f_Ledger_can_draw T.fd_Ledger_can_draw := T.d_Ledger_can_draw.F
theorem Top.b_Ledger_can_draw {K : PySem.W.Frag} {mg : Str → Option Value} (T : Top K mg) : Binds K T.fd_Ledger_can_draw ["self", "drawer", "share"] [] := T.d_Ledger_can_draw.b
theorem Top.mt_Ledger_can_draw {K : PySem.W.Frag} {mg : Str → Option Value} (T : Top K mg) : Meth K T.f_Ledger "can_draw" T.f_Ledger_can_draw := T.d_Ledger_can_draw.mt
abbrev Top.f_Ledger_draw_coins {K : PySem.W.Frag} {mg : Str → Option Value} (T : Top K mg) : Addr := T.d_Ledger_draw_coins.f
abbrev Top.fd_Ledger_draw_coins {K : PySem.W.Frag} {mg : Str → Option Value} (T : Top K mg) : FuncData := T.d_Ledger_draw_coins.fd
theorem Top.F_Ledger_draw_coins {K : PySem.W.Frag} {mg : Str → Option Value} (T : Top K mg) : Fun K "draw_coins" "Ledger.draw_coins" s_Ledger_draw_coins T.f_Ledger_draw_coins T.fd_Ledger_draw_coins := T.d_Ledger_draw_coins.F
theorem Top.b_Ledger_draw_coins {K : PySem.W.Frag} {mg : Str → Option Value} (T : Top K mg) : Binds K T.fd_Ledger_draw_coins ["self", "share"] [] := T.d_Ledger_draw_coins.b
theorem Top.mt_Ledger_draw_coins {K : PySem.W.Frag} {mg : Str → Option Value} (T : Top K mg) : Meth K T.f_Ledger "draw_coins" T.f_Ledger_draw_coins := T.d_Ledger_draw_coins.mt
abbrev Top.f_Ledger_take_in {K : PySem.W.Frag} {mg : Str → Option Value} (T : Top K mg) : Addr := T.d_Ledger_take_in.f
abbrev Top.fd_Ledger_take_in {K : PySem.W.Frag} {mg : Str → Option Value} (T : Top K mg) : FuncData := T.d_Ledger_take_in.fd
theorem Top.F_Ledger_take_in {K : PySem.W.Frag} {mg : Str → Option Value} (T : Top K mg) : Fun K "take_in" "Ledger.take_in" s_Ledger_take_in T.f_Ledger_take_in T.fd_Ledger_take_in := T.d_Ledger_take_in.F
theorem Top.b_Ledger_take_in {K : PySem.W.Frag} {mg : Str → Option Value} (T : Top K mg) : Binds K T.fd_Ledger_take_in ["self", "report"] [] := T.d_Ledger_take_in.b
theorem Top.mt_Ledger_take_in {K : PySem.W.Frag} {mg : Str → Option Value} (T : Top K mg) : Meth K T.f_Ledger "take_in" T.f_Ledger_take_in := T.d_Ledger_take_in.mt
abbrev Top.f_first_wrong {K : PySem.W.Frag} {mg : Str → Option Value} (T : Top K mg) : Addr := T.d_first_wrong.f
abbrev Top.fd_first_wrong {K : PySem.W.Frag} {mg : Str → Option Value} (T : Top K mg) : FuncData := T.d_first_wrong.fd
theorem Top.F_first_wrong {K : PySem.W.Frag} {mg : Str → Option Value} (T : Top K mg) : Fun K "first_wrong" "first_wrong" s_first_wrong T.f_first_wrong T.fd_first_wrong := T.d_first_wrong.F
theorem Top.b_first_wrong {K : PySem.W.Frag} {mg : Str → Option Value} (T : Top K mg) : Binds K T.fd_first_wrong ["stake", "pledges", "queue", "bidding", "reports"] [] := T.d_first_wrong.b
abbrev Top.f_grows {K : PySem.W.Frag} {mg : Str → Option Value} (T : Top K mg) : Addr := T.d_grows.f
abbrev Top.fd_grows {K : PySem.W.Frag} {mg : Str → Option Value} (T : Top K mg) : FuncData := T.d_grows.fd
theorem Top.F_grows {K : PySem.W.Frag} {mg : Str → Option Value} (T : Top K mg) : Fun K "grows" "grows" s_grows T.f_grows T.fd_grows := T.d_grows.F
theorem Top.b_grows {K : PySem.W.Frag} {mg : Str → Option Value} (T : Top K mg) : Binds K T.fd_grows ["row"] [] := T.d_grows.b
abbrev Top.f_Seat___init__ {K : PySem.W.Frag} {mg : Str → Option Value} (T : Top K mg) : Addr := T.d_Seat___init__.f
abbrev Top.fd_Seat___init__ {K : PySem.W.Frag} {mg : Str → Option Value} (T : Top K mg) : FuncData := T.d_Seat___init__.fd
theorem Top.F_Seat___init__ {K : PySem.W.Frag} {mg : Str → Option Value} (T : Top K mg) : Fun K "__init__" "Seat.__init__" s_Seat___init__ T.f_Seat___init__ T.fd_Seat___init__ := T.d_Seat___init__.F
theorem Top.b_Seat___init__ {K : PySem.W.Frag} {mg : Str → Option Value} (T : Top K mg) : Binds K T.fd_Seat___init__ ["self", "pledge"] [] := T.d_Seat___init__.b
abbrev Top.f_Circle___init__ {K : PySem.W.Frag} {mg : Str → Option Value} (T : Top K mg) : Addr := T.d_Circle___init__.f
abbrev Top.fd_Circle___init__ {K : PySem.W.Frag} {mg : Str → Option Value} (T : Top K mg) : FuncData := T.d_Circle___init__.fd
theorem Top.F_Circle___init__ {K : PySem.W.Frag} {mg : Str → Option Value} (T : Top K mg) : FunD K "__init__" "Circle.__init__" (defArgs s_Circle___init__) (defBody s_Circle___init__) (defScope s_Circle___init__) [.bl false] [] T.f_Circle___init__ T.fd_Circle___init__ := T.d_Circle___init__.F
theorem Top.bd_Circle___init__ {K : PySem.W.Frag} {mg : Str → Option Value} (T : Top K mg) : ∃ ds, Vals [.bl false] ds ∧ Binds K T.fd_Circle___init__ ["self", "stake", "pledges", "wishes", "bidding"] ds := T.d_Circle___init__.bd
theorem Top.b_Circle___init__ {K : PySem.W.Frag} {mg : Str → Option Value} (T : Top K mg) : Binds K T.fd_Circle___init__ ["self", "stake", "pledges", "wishes", "bidding"] [] := T.d_Circle___init__.b
abbrev Top.f_Circle_turn {K : PySem.W.Frag} {mg : Str → Option Value} (T : Top K mg) : Addr := T.d_Circle_turn.f
abbrev Top.fd_Circle_turn {K : PySem.W.Frag} {mg : Str → Option Value} (T : Top K mg) : FuncData := T.d_Circle_turn.fd
theorem Top.F_Circle_turn {K : PySem.W.Frag} {mg : Str → Option Value} (T : Top K mg) : Fun K "turn" "Circle.turn" s_Circle_turn T.f_Circle_turn T.fd_Circle_turn := T.d_Circle_turn.F
theorem Top.b_Circle_turn {K : PySem.W.Frag} {mg : Str → Option Value} (T : Top K mg) : Binds K T.fd_Circle_turn ["self"] [] := T.d_Circle_turn.b
theorem Top.mt_Circle_turn {K : PySem.W.Frag} {mg : Str → Option Value} (T : Top K mg) : Meth K T.f_Circle "turn" T.f_Circle_turn := T.d_Circle_turn.mt
abbrev Top.f_Circle_ended {K : PySem.W.Frag} {mg : Str → Option Value} (T : Top K mg) : Addr := T.d_Circle_ended.f
abbrev Top.fd_Circle_ended {K : PySem.W.Frag} {mg : Str → Option Value} (T : Top K mg) : FuncData := T.d_Circle_ended.fd
theorem Top.F_Circle_ended {K : PySem.W.Frag} {mg : Str → Option Value} (T : Top K mg) : Fun K "ended" "Circle.ended" s_Circle_ended T.f_Circle_ended T.fd_Circle_ended := T.d_Circle_ended.F
theorem Top.b_Circle_ended {K : PySem.W.Frag} {mg : Str → Option Value} (T : Top K mg) : Binds K T.fd_Circle_ended ["self"] [] := T.d_Circle_ended.b
theorem Top.mt_Circle_ended {K : PySem.W.Frag} {mg : Str → Option Value} (T : Top K mg) : Meth K T.f_Circle "ended" T.f_Circle_ended := T.d_Circle_ended.mt
abbrev Top.f_Circle_queue {K : PySem.W.Frag} {mg : Str → Option Value} (T : Top K mg) : Addr := T.d_Circle_queue.f
abbrev Top.fd_Circle_queue {K : PySem.W.Frag} {mg : Str → Option Value} (T : Top K mg) : FuncData := T.d_Circle_queue.fd
theorem Top.F_Circle_queue {K : PySem.W.Frag} {mg : Str → Option Value} (T : Top K mg) : Fun K "queue" "Circle.queue" s_Circle_queue T.f_Circle_queue T.fd_Circle_queue := T.d_Circle_queue.F
theorem Top.b_Circle_queue {K : PySem.W.Frag} {mg : Str → Option Value} (T : Top K mg) : Binds K T.fd_Circle_queue ["self"] [] := T.d_Circle_queue.b
theorem Top.mt_Circle_queue {K : PySem.W.Frag} {mg : Str → Option Value} (T : Top K mg) : Meth K T.f_Circle "queue" T.f_Circle_queue := T.d_Circle_queue.mt
abbrev Top.f_Circle_box {K : PySem.W.Frag} {mg : Str → Option Value} (T : Top K mg) : Addr := T.d_Circle_box.f
abbrev Top.fd_Circle_box {K : PySem.W.Frag} {mg : Str → Option Value} (T : Top K mg) : FuncData := T.d_Circle_box.fd
theorem Top.F_Circle_box {K : PySem.W.Frag} {mg : Str → Option Value} (T : Top K mg) : Fun K "box" "Circle.box" s_Circle_box T.f_Circle_box T.fd_Circle_box := T.d_Circle_box.F
theorem Top.b_Circle_box {K : PySem.W.Frag} {mg : Str → Option Value} (T : Top K mg) : Binds K T.fd_Circle_box ["self"] [] := T.d_Circle_box.b
theorem Top.mt_Circle_box {K : PySem.W.Frag} {mg : Str → Option Value} (T : Top K mg) : Meth K T.f_Circle "box" T.f_Circle_box := T.d_Circle_box.mt
abbrev Top.f_Circle_pot {K : PySem.W.Frag} {mg : Str → Option Value} (T : Top K mg) : Addr := T.d_Circle_pot.f
abbrev Top.fd_Circle_pot {K : PySem.W.Frag} {mg : Str → Option Value} (T : Top K mg) : FuncData := T.d_Circle_pot.fd
theorem Top.F_Circle_pot {K : PySem.W.Frag} {mg : Str → Option Value} (T : Top K mg) : Fun K "pot" "Circle.pot" s_Circle_pot T.f_Circle_pot T.fd_Circle_pot := T.d_Circle_pot.F
theorem Top.b_Circle_pot {K : PySem.W.Frag} {mg : Str → Option Value} (T : Top K mg) : Binds K T.fd_Circle_pot ["self"] [] := T.d_Circle_pot.b
theorem Top.mt_Circle_pot {K : PySem.W.Frag} {mg : Str → Option Value} (T : Top K mg) : Meth K T.f_Circle "pot" T.f_Circle_pot := T.d_Circle_pot.mt
abbrev Top.f_Circle_seat {K : PySem.W.Frag} {mg : Str → Option Value} (T : Top K mg) : Addr := T.d_Circle_seat.f
abbrev Top.fd_Circle_seat {K : PySem.W.Frag} {mg : Str → Option Value} (T : Top K mg) : FuncData := T.d_Circle_seat.fd
theorem Top.F_Circle_seat {K : PySem.W.Frag} {mg : Str → Option Value} (T : Top K mg) : Fun K "seat" "Circle.seat" s_Circle_seat T.f_Circle_seat T.fd_Circle_seat := T.d_Circle_seat.F
theorem Top.b_Circle_seat {K : PySem.W.Frag} {mg : Str → Option Value} (T : Top K mg) : Binds K T.fd_Circle_seat ["self", "at"] [] := T.d_Circle_seat.b
theorem Top.mt_Circle_seat {K : PySem.W.Frag} {mg : Str → Option Value} (T : Top K mg) : Meth K T.f_Circle "seat" T.f_Circle_seat := T.d_Circle_seat.mt
abbrev Top.f_Circle_close {K : PySem.W.Frag} {mg : Str → Option Value} (T : Top K mg) : Addr := T.d_Circle_close.f
abbrev Top.fd_Circle_close {K : PySem.W.Frag} {mg : Str → Option Value} (T : Top K mg) : FuncData := T.d_Circle_close.fd
theorem Top.F_Circle_close {K : PySem.W.Frag} {mg : Str → Option Value} (T : Top K mg) : Fun K "close" "Circle.close" s_Circle_close T.f_Circle_close T.fd_Circle_close := T.d_Circle_close.F
theorem Top.b_Circle_close {K : PySem.W.Frag} {mg : Str → Option Value} (T : Top K mg) : Binds K T.fd_Circle_close ["self", "paid", "bids"] [] := T.d_Circle_close.b
theorem Top.mt_Circle_close {K : PySem.W.Frag} {mg : Str → Option Value} (T : Top K mg) : Meth K T.f_Circle "close" T.f_Circle_close := T.d_Circle_close.mt
abbrev Top.f_Circle_seat_at {K : PySem.W.Frag} {mg : Str → Option Value} (T : Top K mg) : Addr := T.d_Circle_seat_at.f
abbrev Top.fd_Circle_seat_at {K : PySem.W.Frag} {mg : Str → Option Value} (T : Top K mg) : FuncData := T.d_Circle_seat_at.fd
theorem Top.F_Circle_seat_at {K : PySem.W.Frag} {mg : Str → Option Value} (T : Top K mg) : Fun K "seat_at" "Circle.seat_at" s_Circle_seat_at T.f_Circle_seat_at T.fd_Circle_seat_at := T.d_Circle_seat_at.F
theorem Top.b_Circle_seat_at {K : PySem.W.Frag} {mg : Str → Option Value} (T : Top K mg) : Binds K T.fd_Circle_seat_at ["self", "at"] [] := T.d_Circle_seat_at.b
theorem Top.mt_Circle_seat_at {K : PySem.W.Frag} {mg : Str → Option Value} (T : Top K mg) : Meth K T.f_Circle "seat_at" T.f_Circle_seat_at := T.d_Circle_seat_at.mt
abbrev Top.f_Circle_seats_of {K : PySem.W.Frag} {mg : Str → Option Value} (T : Top K mg) : Addr := T.d_Circle_seats_of.f
abbrev Top.fd_Circle_seats_of {K : PySem.W.Frag} {mg : Str → Option Value} (T : Top K mg) : FuncData := T.d_Circle_seats_of.fd
theorem Top.F_Circle_seats_of {K : PySem.W.Frag} {mg : Str → Option Value} (T : Top K mg) : Fun K "seats_of" "Circle.seats_of" s_Circle_seats_of T.f_Circle_seats_of T.fd_Circle_seats_of := T.d_Circle_seats_of.F
theorem Top.b_Circle_seats_of {K : PySem.W.Frag} {mg : Str → Option Value} (T : Top K mg) : Binds K T.fd_Circle_seats_of ["self", "numbers"] [] := T.d_Circle_seats_of.b
theorem Top.mt_Circle_seats_of {K : PySem.W.Frag} {mg : Str → Option Value} (T : Top K mg) : Meth K T.f_Circle "seats_of" T.f_Circle_seats_of := T.d_Circle_seats_of.mt
abbrev Top.f_Circle_covers {K : PySem.W.Frag} {mg : Str → Option Value} (T : Top K mg) : Addr := T.d_Circle_covers.f
abbrev Top.fd_Circle_covers {K : PySem.W.Frag} {mg : Str → Option Value} (T : Top K mg) : FuncData := T.d_Circle_covers.fd
theorem Top.F_Circle_covers {K : PySem.W.Frag} {mg : Str → Option Value} (T : Top K mg) : Fun K "covers" "Circle.covers" s_Circle_covers T.f_Circle_covers T.fd_Circle_covers := T.d_Circle_covers.F
theorem Top.b_Circle_covers {K : PySem.W.Frag} {mg : Str → Option Value} (T : Top K mg) : Binds K T.fd_Circle_covers ["self", "at", "turn"] [] := T.d_Circle_covers.b
theorem Top.mt_Circle_covers {K : PySem.W.Frag} {mg : Str → Option Value} (T : Top K mg) : Meth K T.f_Circle "covers" T.f_Circle_covers := T.d_Circle_covers.mt
abbrev Top.f_Circle_standings {K : PySem.W.Frag} {mg : Str → Option Value} (T : Top K mg) : Addr := T.d_Circle_standings.f
abbrev Top.fd_Circle_standings {K : PySem.W.Frag} {mg : Str → Option Value} (T : Top K mg) : FuncData := T.d_Circle_standings.fd
theorem Top.F_Circle_standings {K : PySem.W.Frag} {mg : Str → Option Value} (T : Top K mg) : Fun K "standings" "Circle.standings" s_Circle_standings T.f_Circle_standings T.fd_Circle_standings := T.d_Circle_standings.F
theorem Top.b_Circle_standings {K : PySem.W.Frag} {mg : Str → Option Value} (T : Top K mg) : Binds K T.fd_Circle_standings ["self"] [] := T.d_Circle_standings.b
theorem Top.mt_Circle_standings {K : PySem.W.Frag} {mg : Str → Option Value} (T : Top K mg) : Meth K T.f_Circle "standings" T.f_Circle_standings := T.d_Circle_standings.mt
abbrev Top.f_Circle_unpaid {K : PySem.W.Frag} {mg : Str → Option Value} (T : Top K mg) : Addr := T.d_Circle_unpaid.f
abbrev Top.fd_Circle_unpaid {K : PySem.W.Frag} {mg : Str → Option Value} (T : Top K mg) : FuncData := T.d_Circle_unpaid.fd
theorem Top.F_Circle_unpaid {K : PySem.W.Frag} {mg : Str → Option Value} (T : Top K mg) : Fun K "unpaid" "Circle.unpaid" s_Circle_unpaid T.f_Circle_unpaid T.fd_Circle_unpaid := T.d_Circle_unpaid.F
theorem Top.b_Circle_unpaid {K : PySem.W.Frag} {mg : Str → Option Value} (T : Top K mg) : Binds K T.fd_Circle_unpaid ["self", "state", "paid"] [] := T.d_Circle_unpaid.b
theorem Top.mt_Circle_unpaid {K : PySem.W.Frag} {mg : Str → Option Value} (T : Top K mg) : Meth K T.f_Circle "unpaid" T.f_Circle_unpaid := T.d_Circle_unpaid.mt
abbrev Top.f_Circle_refuse_lists {K : PySem.W.Frag} {mg : Str → Option Value} (T : Top K mg) : Addr := T.d_Circle_refuse_lists.f
abbrev Top.fd_Circle_refuse_lists {K : PySem.W.Frag} {mg : Str → Option Value} (T : Top K mg) : FuncData := T.d_Circle_refuse_lists.fd
theorem Top.F_Circle_refuse_lists {K : PySem.W.Frag} {mg : Str → Option Value} (T : Top K mg) : Fun K "refuse_lists" "Circle.refuse_lists" s_Circle_refuse_lists T.f_Circle_refuse_lists T.fd_Circle_refuse_lists := T.d_Circle_refuse_lists.F
theorem Top.b_Circle_refuse_lists {K : PySem.W.Frag} {mg : Str → Option Value} (T : Top K mg) : Binds K T.fd_Circle_refuse_lists ["self", "paid", "bids"] [] := T.d_Circle_refuse_lists.b
theorem Top.mt_Circle_refuse_lists {K : PySem.W.Frag} {mg : Str → Option Value} (T : Top K mg) : Meth K T.f_Circle "refuse_lists" T.f_Circle_refuse_lists := T.d_Circle_refuse_lists.mt
abbrev Top.f_Circle_let_fall {K : PySem.W.Frag} {mg : Str → Option Value} (T : Top K mg) : Addr := T.d_Circle_let_fall.f
abbrev Top.fd_Circle_let_fall {K : PySem.W.Frag} {mg : Str → Option Value} (T : Top K mg) : FuncData := T.d_Circle_let_fall.fd
theorem Top.F_Circle_let_fall {K : PySem.W.Frag} {mg : Str → Option Value} (T : Top K mg) : Fun K "let_fall" "Circle.let_fall" s_Circle_let_fall T.f_Circle_let_fall T.fd_Circle_let_fall := T.d_Circle_let_fall.F
theorem Top.b_Circle_let_fall {K : PySem.W.Frag} {mg : Str → Option Value} (T : Top K mg) : Binds K T.fd_Circle_let_fall ["self", "fallen"] [] := T.d_Circle_let_fall.b
theorem Top.mt_Circle_let_fall {K : PySem.W.Frag} {mg : Str → Option Value} (T : Top K mg) : Meth K T.f_Circle "let_fall" T.f_Circle_let_fall := T.d_Circle_let_fall.mt
abbrev Top.f_Circle_leave_queue {K : PySem.W.Frag} {mg : Str → Option Value} (T : Top K mg) : Addr := T.d_Circle_leave_queue.f
abbrev Top.fd_Circle_leave_queue {K : PySem.W.Frag} {mg : Str → Option Value} (T : Top K mg) : FuncData := T.d_Circle_leave_queue.fd
theorem Top.F_Circle_leave_queue {K : PySem.W.Frag} {mg : Str → Option Value} (T : Top K mg) : Fun K "leave_queue" "Circle.leave_queue" s_Circle_leave_queue T.f_Circle_leave_queue T.fd_Circle_leave_queue := T.d_Circle_leave_queue.F
theorem Top.b_Circle_leave_queue {K : PySem.W.Frag} {mg : Str → Option Value} (T : Top K mg) : Binds K T.fd_Circle_leave_queue ["self", "at", "state"] [] := T.d_Circle_leave_queue.b
theorem Top.mt_Circle_leave_queue {K : PySem.W.Frag} {mg : Str → Option Value} (T : Top K mg) : Meth K T.f_Circle "leave_queue" T.f_Circle_leave_queue := T.d_Circle_leave_queue.mt
abbrev Top.f_Circle_charge_pledges {K : PySem.W.Frag} {mg : Str → Option Value} (T : Top K mg) : Addr := T.d_Circle_charge_pledges.f
abbrev Top.fd_Circle_charge_pledges {K : PySem.W.Frag} {mg : Str → Option Value} (T : Top K mg) : FuncData := T.d_Circle_charge_pledges.fd
theorem Top.F_Circle_charge_pledges {K : PySem.W.Frag} {mg : Str → Option Value} (T : Top K mg) : Fun K "charge_pledges" "Circle.charge_pledges" s_Circle_charge_pledges T.f_Circle_charge_pledges T.fd_Circle_charge_pledges := T.d_Circle_charge_pledges.F
theorem Top.b_Circle_charge_pledges {K : PySem.W.Frag} {mg : Str → Option Value} (T : Top K mg) : Binds K T.fd_Circle_charge_pledges ["self", "pledged"] [] := T.d_Circle_charge_pledges.b
theorem Top.mt_Circle_charge_pledges {K : PySem.W.Frag} {mg : Str → Option Value} (T : Top K mg) : Meth K T.f_Circle "charge_pledges" T.f_Circle_charge_pledges := T.d_Circle_charge_pledges.mt
abbrev Top.f_Circle_collect {K : PySem.W.Frag} {mg : Str → Option Value} (T : Top K mg) : Addr := T.d_Circle_collect.f
abbrev Top.fd_Circle_collect {K : PySem.W.Frag} {mg : Str → Option Value} (T : Top K mg) : FuncData := T.d_Circle_collect.fd
theorem Top.F_Circle_collect {K : PySem.W.Frag} {mg : Str → Option Value} (T : Top K mg) : Fun K "collect" "Circle.collect" s_Circle_collect T.f_Circle_collect T.fd_Circle_collect := T.d_Circle_collect.F
theorem Top.b_Circle_collect {K : PySem.W.Frag} {mg : Str → Option Value} (T : Top K mg) : Binds K T.fd_Circle_collect ["self"] [] := T.d_Circle_collect.b
theorem Top.mt_Circle_collect {K : PySem.W.Frag} {mg : Str → Option Value} (T : Top K mg) : Meth K T.f_Circle "collect" T.f_Circle_collect := T.d_Circle_collect.mt
abbrev Top.f_Circle_rest {K : PySem.W.Frag} {mg : Str → Option Value} (T : Top K mg) : Addr := T.d_Circle_rest.f
abbrev Top.fd_Circle_rest {K : PySem.W.Frag} {mg : Str → Option Value} (T : Top K mg) : FuncData := T.d_Circle_rest.fd
theorem Top.F_Circle_rest {K : PySem.W.Frag} {mg : Str → Option Value} (T : Top K mg) : Fun K "rest" "Circle.rest" s_Circle_rest T.f_Circle_rest T.fd_Circle_rest := T.d_Circle_rest.F
theorem Top.b_Circle_rest {K : PySem.W.Frag} {mg : Str → Option Value} (T : Top K mg) : Binds K T.fd_Circle_rest ["self", "payers"] [] := T.d_Circle_rest.b
theorem Top.mt_Circle_rest {K : PySem.W.Frag} {mg : Str → Option Value} (T : Top K mg) : Meth K T.f_Circle "rest" T.f_Circle_rest := T.d_Circle_rest.mt
abbrev Top.f_Circle_draw {K : PySem.W.Frag} {mg : Str → Option Value} (T : Top K mg) : Addr := T.d_Circle_draw.f
abbrev Top.fd_Circle_draw {K : PySem.W.Frag} {mg : Str → Option Value} (T : Top K mg) : FuncData := T.d_Circle_draw.fd
theorem Top.F_Circle_draw {K : PySem.W.Frag} {mg : Str → Option Value} (T : Top K mg) : Fun K "draw" "Circle.draw" s_Circle_draw T.f_Circle_draw T.fd_Circle_draw := T.d_Circle_draw.F
theorem Top.b_Circle_draw {K : PySem.W.Frag} {mg : Str → Option Value} (T : Top K mg) : Binds K T.fd_Circle_draw ["self", "payers", "bids"] [] := T.d_Circle_draw.b
theorem Top.mt_Circle_draw {K : PySem.W.Frag} {mg : Str → Option Value} (T : Top K mg) : Meth K T.f_Circle "draw" T.f_Circle_draw := T.d_Circle_draw.mt
abbrev Top.f_Circle_best_bid {K : PySem.W.Frag} {mg : Str → Option Value} (T : Top K mg) : Addr := T.d_Circle_best_bid.f
abbrev Top.fd_Circle_best_bid {K : PySem.W.Frag} {mg : Str → Option Value} (T : Top K mg) : FuncData := T.d_Circle_best_bid.fd
theorem Top.F_Circle_best_bid {K : PySem.W.Frag} {mg : Str → Option Value} (T : Top K mg) : Fun K "best_bid" "Circle.best_bid" s_Circle_best_bid T.f_Circle_best_bid T.fd_Circle_best_bid := T.d_Circle_best_bid.F
theorem Top.b_Circle_best_bid {K : PySem.W.Frag} {mg : Str → Option Value} (T : Top K mg) : Binds K T.fd_Circle_best_bid ["self", "bids"] [] := T.d_Circle_best_bid.b
theorem Top.mt_Circle_best_bid {K : PySem.W.Frag} {mg : Str → Option Value} (T : Top K mg) : Meth K T.f_Circle "best_bid" T.f_Circle_best_bid := T.d_Circle_best_bid.mt
abbrev Top.f_refuse_opening {K : PySem.W.Frag} {mg : Str → Option Value} (T : Top K mg) : Addr := T.d_refuse_opening.f
abbrev Top.fd_refuse_opening {K : PySem.W.Frag} {mg : Str → Option Value} (T : Top K mg) : FuncData := T.d_refuse_opening.fd
theorem Top.F_refuse_opening {K : PySem.W.Frag} {mg : Str → Option Value} (T : Top K mg) : Fun K "refuse_opening" "refuse_opening" s_refuse_opening T.f_refuse_opening T.fd_refuse_opening := T.d_refuse_opening.F
theorem Top.b_refuse_opening {K : PySem.W.Frag} {mg : Str → Option Value} (T : Top K mg) : Binds K T.fd_refuse_opening ["stake", "pledges", "wishes"] [] := T.d_refuse_opening.b
abbrev Top.f_first_queue {K : PySem.W.Frag} {mg : Str → Option Value} (T : Top K mg) : Addr := T.d_first_queue.f
abbrev Top.fd_first_queue {K : PySem.W.Frag} {mg : Str → Option Value} (T : Top K mg) : FuncData := T.d_first_queue.fd
theorem Top.F_first_queue {K : PySem.W.Frag} {mg : Str → Option Value} (T : Top K mg) : Fun K "first_queue" "first_queue" s_first_queue T.f_first_queue T.fd_first_queue := T.d_first_queue.F
theorem Top.b_first_queue {K : PySem.W.Frag} {mg : Str → Option Value} (T : Top K mg) : Binds K T.fd_first_queue ["stake", "pledges", "wishes"] [] := T.d_first_queue.b
abbrev Top.f__law_draws {K : PySem.W.Frag} {mg : Str → Option Value} (T : Top K mg) : Addr := T.d__law_draws.f
abbrev Top.fd__law_draws {K : PySem.W.Frag} {mg : Str → Option Value} (T : Top K mg) : FuncData := T.d__law_draws.fd
theorem Top.F__law_draws {K : PySem.W.Frag} {mg : Str → Option Value} (T : Top K mg) : Fun K "_law_draws" "_law_draws" s__law_draws T.f__law_draws T.fd__law_draws := T.d__law_draws.F
theorem Top.b__law_draws {K : PySem.W.Frag} {mg : Str → Option Value} (T : Top K mg) : Binds K T.fd__law_draws ["_law_script", "_law_many"] [] := T.d__law_draws.b
abbrev Top.f__law_same {K : PySem.W.Frag} {mg : Str → Option Value} (T : Top K mg) : Addr := T.d__law_same.f
abbrev Top.fd__law_same {K : PySem.W.Frag} {mg : Str → Option Value} (T : Top K mg) : FuncData := T.d__law_same.fd
theorem Top.F__law_same {K : PySem.W.Frag} {mg : Str → Option Value} (T : Top K mg) : Fun K "_law_same" "_law_same" s__law_same T.f__law_same T.fd__law_same := T.d__law_same.F
theorem Top.b__law_same {K : PySem.W.Frag} {mg : Str → Option Value} (T : Top K mg) : Binds K T.fd__law_same ["_law_told", "_law_due"] [] := T.d__law_same.b
abbrev Top.f__law_perm {K : PySem.W.Frag} {mg : Str → Option Value} (T : Top K mg) : Addr := T.d__law_perm.f
abbrev Top.fd__law_perm {K : PySem.W.Frag} {mg : Str → Option Value} (T : Top K mg) : FuncData := T.d__law_perm.fd
theorem Top.F__law_perm {K : PySem.W.Frag} {mg : Str → Option Value} (T : Top K mg) : Fun K "_law_perm" "_law_perm" s__law_perm T.f__law_perm T.fd__law_perm := T.d__law_perm.F
theorem Top.b__law_perm {K : PySem.W.Frag} {mg : Str → Option Value} (T : Top K mg) : Binds K T.fd__law_perm ["_law_some", "_law_size"] [] := T.d__law_perm.b
abbrev Top.f__law_bits {K : PySem.W.Frag} {mg : Str → Option Value} (T : Top K mg) : Addr := T.d__law_bits.f
abbrev Top.fd__law_bits {K : PySem.W.Frag} {mg : Str → Option Value} (T : Top K mg) : FuncData := T.d__law_bits.fd
theorem Top.F__law_bits {K : PySem.W.Frag} {mg : Str → Option Value} (T : Top K mg) : Fun K "_law_bits" "_law_bits" s__law_bits T.f__law_bits T.fd__law_bits := T.d__law_bits.F
theorem Top.b__law_bits {K : PySem.W.Frag} {mg : Str → Option Value} (T : Top K mg) : Binds K T.fd__law_bits ["_law_number", "_law_size"] [] := T.d__law_bits.b
abbrev Top.f__law_paid {K : PySem.W.Frag} {mg : Str → Option Value} (T : Top K mg) : Addr := T.d__law_paid.f
abbrev Top.fd__law_paid {K : PySem.W.Frag} {mg : Str → Option Value} (T : Top K mg) : FuncData := T.d__law_paid.fd
theorem Top.F__law_paid {K : PySem.W.Frag} {mg : Str → Option Value} (T : Top K mg) : Fun K "_law_paid" "_law_paid" s__law_paid T.f__law_paid T.fd__law_paid := T.d__law_paid.F
theorem Top.b__law_paid {K : PySem.W.Frag} {mg : Str → Option Value} (T : Top K mg) : Binds K T.fd__law_paid ["_law_some", "_law_turn", "_law_size", "_law_way"] [] := T.d__law_paid.b
abbrev Top.f__law_opening {K : PySem.W.Frag} {mg : Str → Option Value} (T : Top K mg) : Addr := T.d__law_opening.f
abbrev Top.fd__law_opening {K : PySem.W.Frag} {mg : Str → Option Value} (T : Top K mg) : FuncData := T.d__law_opening.fd
theorem Top.F__law_opening {K : PySem.W.Frag} {mg : Str → Option Value} (T : Top K mg) : Fun K "_law_opening" "_law_opening" s__law_opening T.f__law_opening T.fd__law_opening := T.d__law_opening.F
theorem Top.b__law_opening {K : PySem.W.Frag} {mg : Str → Option Value} (T : Top K mg) : Binds K T.fd__law_opening ["_law_some", "_law_size", "_law_stake"] [] := T.d__law_opening.b
abbrev Top.f_law {K : PySem.W.Frag} {mg : Str → Option Value} (T : Top K mg) : Addr := T.d_law.f
abbrev Top.fd_law {K : PySem.W.Frag} {mg : Str → Option Value} (T : Top K mg) : FuncData := T.d_law.fd
theorem Top.F_law {K : PySem.W.Frag} {mg : Str → Option Value} (T : Top K mg) : Fun K "law" "law" s_law T.f_law T.fd_law := T.d_law.F
theorem Top.b_law {K : PySem.W.Frag} {mg : Str → Option Value} (T : Top K mg) : Binds K T.fd_law ["_law_script"] [] := T.d_law.b
theorem Top.na_Ledger_stake {K : PySem.W.Frag} {mg : Str → Option Value} (T : Top K mg) : NoAttr K T.f_Ledger "stake" := T.na_Ledger _ (List.mem_cons_self)
theorem Top.na_Ledger_pledges_left {K : PySem.W.Frag} {mg : Str → Option Value} (T : Top K mg) : NoAttr K T.f_Ledger "pledges_left" := T.na_Ledger _ (List.mem_cons_of_mem _ (List.mem_cons_self))
theorem Top.na_Ledger_line {K : PySem.W.Frag} {mg : Str → Option Value} (T : Top K mg) : NoAttr K T.f_Ledger "line" := T.na_Ledger _ (List.mem_cons_of_mem _ (List.mem_cons_of_mem _ (List.mem_cons_self)))
theorem Top.na_Ledger_bidding {K : PySem.W.Frag} {mg : Str → Option Value} (T : Top K mg) : NoAttr K T.f_Ledger "bidding" := T.na_Ledger _ (List.mem_cons_of_mem _ (List.mem_cons_of_mem _ (List.mem_cons_of_mem _ (List.mem_cons_self))))
theorem Top.na_Ledger_drawers {K : PySem.W.Frag} {mg : Str → Option Value} (T : Top K mg) : NoAttr K T.f_Ledger "drawers" := T.na_Ledger _ (List.mem_cons_of_mem _ (List.mem_cons_of_mem _ (List.mem_cons_of_mem _ (List.mem_cons_of_mem _ (List.mem_cons_self)))))
theorem Top.na_Ledger_open_round {K : PySem.W.Frag} {mg : Str → Option Value} (T : Top K mg) : NoAttr K T.f_Ledger "open_round" := T.na_Ledger _ (List.mem_cons_of_mem _ (List.mem_cons_of_mem _ (List.mem_cons_of_mem _ (List.mem_cons_of_mem _ (List.mem_cons_of_mem _ (List.mem_cons_self))))))
theorem Top.na_Ledger_rests_due {K : PySem.W.Frag} {mg : Str → Option Value} (T : Top K mg) : NoAttr K T.f_Ledger "rests_due" := T.na_Ledger _ (List.mem_cons_of_mem _ (List.mem_cons_of_mem _ (List.mem_cons_of_mem _ (List.mem_cons_of_mem _ (List.mem_cons_of_mem _ (List.mem_cons_of_mem _ (List.mem_cons_self)))))))
theorem Top.na_Seat_state {K : PySem.W.Frag} {mg : Str → Option Value} (T : Top K mg) : NoAttr K T.f_Seat "state" := T.na_Seat _ (List.mem_cons_self)
theorem Top.na_Seat_since {K : PySem.W.Frag} {mg : Str → Option Value} (T : Top K mg) : NoAttr K T.f_Seat "since" := T.na_Seat _ (List.mem_cons_of_mem _ (List.mem_cons_self))
theorem Top.na_Seat_pledge {K : PySem.W.Frag} {mg : Str → Option Value} (T : Top K mg) : NoAttr K T.f_Seat "pledge" := T.na_Seat _ (List.mem_cons_of_mem _ (List.mem_cons_of_mem _ (List.mem_cons_self)))
theorem Top.na_Seat_given {K : PySem.W.Frag} {mg : Str → Option Value} (T : Top K mg) : NoAttr K T.f_Seat "given" := T.na_Seat _ (List.mem_cons_of_mem _ (List.mem_cons_of_mem _ (List.mem_cons_of_mem _ (List.mem_cons_self))))
theorem Top.na_Seat_drawn {K : PySem.W.Frag} {mg : Str → Option Value} (T : Top K mg) : NoAttr K T.f_Seat "drawn" := T.na_Seat _ (List.mem_cons_of_mem _ (List.mem_cons_of_mem _ (List.mem_cons_of_mem _ (List.mem_cons_of_mem _ (List.mem_cons_self)))))
theorem Top.na_Seat_shared {K : PySem.W.Frag} {mg : Str → Option Value} (T : Top K mg) : NoAttr K T.f_Seat "shared" := T.na_Seat _ (List.mem_cons_of_mem _ (List.mem_cons_of_mem _ (List.mem_cons_of_mem _ (List.mem_cons_of_mem _ (List.mem_cons_of_mem _ (List.mem_cons_self))))))
theorem Top.na_Seat_pledge_stakes {K : PySem.W.Frag} {mg : Str → Option Value} (T : Top K mg) : NoAttr K T.f_Seat "pledge_stakes" := T.na_Seat _ (List.mem_cons_of_mem _ (List.mem_cons_of_mem _ (List.mem_cons_of_mem _ (List.mem_cons_of_mem _ (List.mem_cons_of_mem _ (List.mem_cons_of_mem _ (List.mem_cons_self)))))))
theorem Top.na_Circle_line {K : PySem.W.Frag} {mg : Str → Option Value} (T : Top K mg) : NoAttr K T.f_Circle "line" := T.na_Circle _ (List.mem_cons_self)
theorem Top.na_Circle_stake {K : PySem.W.Frag} {mg : Str → Option Value} (T : Top K mg) : NoAttr K T.f_Circle "stake" := T.na_Circle _ (List.mem_cons_of_mem _ (List.mem_cons_self))
theorem Top.na_Circle_first_pledges {K : PySem.W.Frag} {mg : Str → Option Value} (T : Top K mg) : NoAttr K T.f_Circle "first_pledges" := T.na_Circle _ (List.mem_cons_of_mem _ (List.mem_cons_of_mem _ (List.mem_cons_self)))
theorem Top.na_Circle_wishes {K : PySem.W.Frag} {mg : Str → Option Value} (T : Top K mg) : NoAttr K T.f_Circle "wishes" := T.na_Circle _ (List.mem_cons_of_mem _ (List.mem_cons_of_mem _ (List.mem_cons_of_mem _ (List.mem_cons_self))))
theorem Top.na_Circle_bidding {K : PySem.W.Frag} {mg : Str → Option Value} (T : Top K mg) : NoAttr K T.f_Circle "bidding" := T.na_Circle _ (List.mem_cons_of_mem _ (List.mem_cons_of_mem _ (List.mem_cons_of_mem _ (List.mem_cons_of_mem _ (List.mem_cons_self)))))
theorem Top.na_Circle_seats {K : PySem.W.Frag} {mg : Str → Option Value} (T : Top K mg) : NoAttr K T.f_Circle "seats" := T.na_Circle _ (List.mem_cons_of_mem _ (List.mem_cons_of_mem _ (List.mem_cons_of_mem _ (List.mem_cons_of_mem _ (List.mem_cons_of_mem _ (List.mem_cons_self))))))
theorem Top.na_Circle_open_round {K : PySem.W.Frag} {mg : Str → Option Value} (T : Top K mg) : NoAttr K T.f_Circle "open_round" := T.na_Circle _ (List.mem_cons_of_mem _ (List.mem_cons_of_mem _ (List.mem_cons_of_mem _ (List.mem_cons_of_mem _ (List.mem_cons_of_mem _ (List.mem_cons_of_mem _ (List.mem_cons_self)))))))
theorem Top.na_Circle_rests_due {K : PySem.W.Frag} {mg : Str → Option Value} (T : Top K mg) : NoAttr K T.f_Circle "rests_due" := T.na_Circle _ (List.mem_cons_of_mem _ (List.mem_cons_of_mem _ (List.mem_cons_of_mem _ (List.mem_cons_of_mem _ (List.mem_cons_of_mem _ (List.mem_cons_of_mem _ (List.mem_cons_of_mem _ (List.mem_cons_self))))))))
theorem Top.na_Circle_chest {K : PySem.W.Frag} {mg : Str → Option Value} (T : Top K mg) : NoAttr K T.f_Circle "chest" := T.na_Circle _ (List.mem_cons_of_mem _ (List.mem_cons_of_mem _ (List.mem_cons_of_mem _ (List.mem_cons_of_mem _ (List.mem_cons_of_mem _ (List.mem_cons_of_mem _ (List.mem_cons_of_mem _ (List.mem_cons_of_mem _ (List.mem_cons_self)))))))))
theorem Top.na_Circle_flows {K : PySem.W.Frag} {mg : Str → Option Value} (T : Top K mg) : NoAttr K T.f_Circle "flows" := T.na_Circle _ (List.mem_cons_of_mem _ (List.mem_cons_of_mem _ (List.mem_cons_of_mem _ (List.mem_cons_of_mem _ (List.mem_cons_of_mem _ (List.mem_cons_of_mem _ (List.mem_cons_of_mem _ (List.mem_cons_of_mem _ (List.mem_cons_of_mem _ (List.mem_cons_self))))))))))
section
variable {K : PySem.W.Frag} {mg : Str → Option Value}
def Top.tabs (T : Top K mg) : List (Addr × Str) := [(T.P_told_order, ("told_order" : Str) ++ (".<locals>." : Str) ++ ("<lambda>" : Str)), (T.P_fullest_span, ("fullest_span" : Str) ++ (".<locals>." : Str) ++ ("<lambda>" : Str)), (T.P_Circle_best_bid, ("Circle.best_bid" : Str) ++ (".<locals>." : Str) ++ ("<lambda>" : Str))]
theorem Top.hm_told_order (T : Top K mg) : (T.P_told_order, ("told_order" : Str) ++ (".<locals>." : Str) ++ ("<lambda>" : Str)) ∈ T.tabs := by unfold Top.tabs; simp
theorem Top.hu_told_order (T : Top K mg) : ∀ p ∈ T.tabs, p.1 = T.P_told_order → p.2 = ("told_order" : Str) ++ (".<locals>." : Str) ++ ("<lambda>" : Str) := by
  intro p hp e
  unfold Top.tabs at hp
  rcases List.mem_cons.mp hp with rfl | hp
  · exact rfl
  rcases List.mem_cons.mp hp with rfl | hp
  · exact absurd e (fun z => T.ne_told_order_fullest_span z.symm)
  rcases List.mem_cons.mp hp with rfl | hp
  · exact absurd e (fun z => T.ne_told_order_Circle_best_bid z.symm)
  exact absurd hp List.not_mem_nil
theorem Top.hm_fullest_span (T : Top K mg) : (T.P_fullest_span, ("fullest_span" : Str) ++ (".<locals>." : Str) ++ ("<lambda>" : Str)) ∈ T.tabs := by unfold Top.tabs; simp
theorem Top.hu_fullest_span (T : Top K mg) : ∀ p ∈ T.tabs, p.1 = T.P_fullest_span → p.2 = ("fullest_span" : Str) ++ (".<locals>." : Str) ++ ("<lambda>" : Str) := by
  intro p hp e
  unfold Top.tabs at hp
  rcases List.mem_cons.mp hp with rfl | hp
  · exact absurd e T.ne_told_order_fullest_span
  rcases List.mem_cons.mp hp with rfl | hp
  · exact rfl
  rcases List.mem_cons.mp hp with rfl | hp
  · exact absurd e (fun z => T.ne_fullest_span_Circle_best_bid z.symm)
  exact absurd hp List.not_mem_nil
theorem Top.hm_Circle_best_bid (T : Top K mg) : (T.P_Circle_best_bid, ("Circle.best_bid" : Str) ++ (".<locals>." : Str) ++ ("<lambda>" : Str)) ∈ T.tabs := by unfold Top.tabs; simp
theorem Top.hu_Circle_best_bid (T : Top K mg) : ∀ p ∈ T.tabs, p.1 = T.P_Circle_best_bid → p.2 = ("Circle.best_bid" : Str) ++ (".<locals>." : Str) ++ ("<lambda>" : Str) := by
  intro p hp e
  unfold Top.tabs at hp
  rcases List.mem_cons.mp hp with rfl | hp
  · exact absurd e T.ne_told_order_Circle_best_bid
  rcases List.mem_cons.mp hp with rfl | hp
  · exact absurd e T.ne_fullest_span_Circle_best_bid
  rcases List.mem_cons.mp hp with rfl | hp
  · exact rfl
  exact absurd hp List.not_mem_nil
end
end Su
namespace Su
/-! ### rules whose written part is named, for blocks -/
section
variable {X : Cx} {K : PySem.W.Frag}
theorem ix_listK (h : X.K = K := by rfl) : IxR X (rIxL K) := h ▸ ix_list
theorem ix_tupK (h : X.K = K := by rfl) : IxR X (rIxT K) := h ▸ ix_tup
theorem sl_listK (h : X.K = K := by rfl) : SlR X (rSlL K) := h ▸ sl_list
theorem call_len_seqK (h : X.K = K := by rfl) : CallR X (.builtin "len") (fun xs H Q => ∃ p ys, xs = [.ref p] ∧ (SqL K H p ys ∨ SqT K H p ys) ∧ Q (.int ys.length) H) := h ▸ call_len_seq
theorem op_in_seqK (h : X.K = K := by rfl) : OpR X (compareOp .In) (rIn K false) := h ▸ op_in_seq
theorem op_notIn_seqK (h : X.K = K := by rfl) : OpR X (compareOp .NotIn) (rIn K true) := h ▸ op_notIn_seq
theorem call_list_ofK (h : X.K = K := by rfl) : CallR X (.type "list") (fun xs H Q => ∃ p ys, xs = [.ref p] ∧ (SqL K H p ys ∨ SqT K H p ys) ∧ ∀ l, H l = none → Q (.ref l) (upd H l (.lst ys))) := h ▸ call_list_of
theorem call_isiK' (h : X.K = K := by rfl) : CallR X (.builtin "isinstance") (rIsi K) := h ▸ call_isi
end

end Su
namespace Su
theorem chain_le' {σ : L2.St} {H : Hp} {ta tb tc : TE} {a b c : Int} (h1 : Ev ta σ H (.int a)) (h2 : Ev tb σ H (.int b)) (h3 : Ev tc σ H (.int c)) :
    Ev (tChain (rI0 fun i j => .bl (decide (i ≤ j))) (rI0 fun i j => .bl (decide (i ≤ j))) ta tb tc) σ H (.bl (decide (a ≤ b) && decide (b ≤ c))) := fun H1 e Q q =>
  h1 H1 e _ fun H2 e2 => h2 H2 (e.trans e2) _ fun H3 e3 => ⟨a, b, rfl, rfl, decide (a ≤ b), rfl, by
    cases hd : decide (a ≤ b) with
    | true =>
      show tc σ H3 _
      exact h3 H3 ((e.trans e2).trans e3) _ fun H4 e4 => ⟨b, c, rfl, rfl, by rw [hd] at q; exact q H4 ((e2.trans e3).trans e4)⟩
    | false =>
      rw [hd] at q
      exact q H3 (e2.trans e3)⟩
theorem chain_le {σ : L2.St} {H : Hp} {ta tb tc : TE} {a b c : Int} (h1 : Ev ta σ H (.int a)) (h2 : Ev tb σ H (.int b)) (h3 : Ev tc σ H (.int c)) :
    EvT (tTest (tChain (rI0 fun i j => .bl (decide (i ≤ j))) (rI0 fun i j => .bl (decide (i ≤ j))) ta tb tc)) σ H (decide (a ≤ b) && decide (b ≤ c)) := fun H1 e Q q =>
  h1 H1 e _ fun H2 e2 => h2 H2 (e.trans e2) _ fun H3 e3 => ⟨a, b, rfl, rfl, decide (a ≤ b), rfl, by
    cases hd : decide (a ≤ b) with
    | true =>
      show tc σ H3 _
      exact h3 H3 ((e.trans e2).trans e3) _ fun H4 e4 => ⟨b, c, rfl, rfl, decide (b ≤ c), rfl, by rw [hd] at q; exact q H4 ((e2.trans e3).trans e4)⟩
    | false =>
      rw [hd] at q
      exact ⟨false, rfl, q H3 (e2.trans e3)⟩⟩
theorem et_chain {f g : Int → Int → Bool} {σ : L2.St} {H : Hp} {ta tb tc : TE} {a b c : Int} (h1 : Ev ta σ H (.int a)) (h2 : Ev tb σ H (.int b)) (h3 : Ev tc σ H (.int c)) :
    EvT (tTest (tChain (rI0 fun i j => .bl (f i j)) (rI0 fun i j => .bl (g i j)) ta tb tc)) σ H (f a b && g b c) := fun H1 e Q q =>
  h1 H1 e _ fun H2 e2 => h2 H2 (e.trans e2) _ fun H3 e3 => ⟨a, b, rfl, rfl, f a b, rfl, by
    cases hd : f a b with
    | true =>
      show tc σ H3 _
      exact h3 H3 ((e.trans e2).trans e3) _ fun H4 e4 => ⟨b, c, rfl, rfl, g b c, rfl, by rw [hd] at q; exact q H4 ((e2.trans e3).trans e4)⟩
    | false =>
      rw [hd] at q
      exact ⟨false, rfl, q H3 (e2.trans e3)⟩⟩

end Su
namespace Su
/-! ### the drawn numbers -/
def Rows (m : Nat) (rows : List Int) : Prop := m ≤ rows.length ∧ rows.length ≤ m + 63 ∧ ∀ x ∈ rows, -(10 ^ 18) < x ∧ x < 10 ^ 18
theorem Rows.add {rows : List Int} {x : Int} (h : ∀ x ∈ rows, -(10 ^ 18) < x ∧ x < 10 ^ 18) (h1 : -(10 ^ 18) < x) (h2 : x < 10 ^ 18) : ∀ y ∈ rows ++ [x], -(10 ^ 18) < y ∧ y < 10 ^ 18 := fun y hy => by
  rcases List.mem_append.mp hy with h' | h'
  · exact h y h'
  · obtain rfl := List.mem_singleton.mp h'
    exact ⟨h1, h2⟩
theorem Rows.get {m : Nat} {rows : List Int} (h : Rows m rows) (i : Nat) : -(10 ^ 18) < rows.getD i 0 ∧ rows.getD i 0 < 10 ^ 18 := by
  by_cases hi : i < rows.length
  · rw [List.getD_eq_getElem?_getD, List.getElem?_eq_getElem hi]
    exact h.2.2 _ (List.getElem_mem hi)
  · rw [List.getD_eq_getElem?_getD, List.getElem?_eq_none (by omega)]
    decide
section
variable {P : Program} {w : World} {K : PySem.W.Frag} {mg : Str → Option Value} {base : Heap}
def spDraws (K : PySem.W.Frag) : Sp := fun vs H Q _ => ∃ (a : Addr) (ns : List Int) (m : Nat), vs = [.ref a, .int (m : Int)] ∧ SqL K H a (ns.map V.int) ∧ ns.length ≤ 63 ∧ m ≤ 1000 ∧
  ∀ rows H' p, H p = none → Ex H H' → H' p = some (.lst (rows.map V.int)) → Rows m rows → Q (.ref p) H'
theorem spN_draws {K : PySem.W.Frag} {a : Addr} {ns : List Int} {m : Nat} {H : Hp} (hS : SqL K H a (ns.map V.int)) (hl : ns.length ≤ 63) (hm : m ≤ 1000) : SpN (spDraws K) [.ref a, .int (m : Int)] H (fun xs => ∃ rows : List Int, Rows m rows ∧ xs = rows.map V.int) :=
  fun H1 e Q q E => ⟨a, ns, m, rfl, ex_l e hS, hl, hm, fun rows H' p hp e' h' hr => q _ p H' ⟨rows, hr, rfl⟩ hp e' h'⟩
def DrI (H0 : Hp) (a p : Addr) (m i : Nat) (σ : L2.St) (H : Hp) : Prop := ∃ (rows : List Int) (mix : Int) (y4 y5 : Option V), σ = [some (.ref a), some (.int (m : Int)), some (.ref p), some (.int mix), y4, y5] ∧ Ex H0 H ∧ H p = some (.lst (rows.map V.int)) ∧
  rows.length ≤ m + i ∧ 0 ≤ mix ∧ mix < 2147483647 ∧ ∀ x ∈ rows, -(10 ^ 18) < x ∧ x < 10 ^ 18
theorem ok__law_draws {f : Addr} {fd : FuncData} {k : Nat} (F : Fun K "_law_draws" "_law_draws" s__law_draws f fd) (T : Top K mg) : FnOk P w K mg base CX0 (k + 1) f fd ["_law_script", "_law_many"] (spDraws K) := by
  have nd := sc__law_draws.nd
  refine F.ok sc__law_draws (fun vs H Q E h => ?_) (fun cdv A outer s H vs Q E hr h => ?_)
  · obtain ⟨a, ns, m, rfl, _⟩ := h
    rfl
  · obtain ⟨a, ns, m, rfl, hS, hlen, hm, q⟩ := h
    refine ⟨_, (pss_cons (ps_set (i := 2) nd rfl (.inl rfl) (pe_lst pa_nil))
      (pss_cons (ps_set (i := 3) nd rfl (.inl rfl) pe_int)
      (pss_cons (ps_for PassesOwn.never rfl (pi_list (pv 0)) (pg_name (i := 4) nd rfl (.inl rfl))
        (pss_cons (ps_set (i := 3) nd rfl (.inl rfl) (pe_op op_mod (pe_op op_add (pe_op op_mul (pv 3) pe_int) (pv 4)) pe_int))
          (pss_cons (ps_set (i := 5) nd rfl (.inl rfl) (pe_callB call_abs (by rfl) T.m_abs (by decide +kernel) (pa_cons (pv 4) pa_nil)))
          (pss_cons (ps_if (pt_cmpR op_lt (pv 5) (pe_op op_pow pe_int pe_int) (nomark _))
            (pss_cons (ps_expr (pe_bm PySem.F.plainAttrs_list PySem.F.slot_list_append PySem.F.type_list_append mt_append (pv 2) (pa_cons (pv 4) pa_nil)))
              (pss_one (ps_set (i := 5) nd rfl (.inl rfl) pe_int)))
            pss_nil)
          (pss_one (ps_while PassesOwn.never (PW.pt (pw_and (pt_cmpR op_gt (pv 5) pe_int (nomark _)) (pw_and1 (pt_cmpR op_lt (pe_callB call_len_seq (by rfl) T.m_len PySem.boot_len (pa_cons (pv 2) pa_nil)) (pv 1) (nomark _)))))
            (pss_cons (ps_expr (pe_bm PySem.F.plainAttrs_list PySem.F.slot_list_append PySem.F.type_list_append mt_append (pv 2) (pa_cons (pe_op op_mod (pv 5) pe_int) pa_nil)))
              (pss_one (ps_set (i := 5) nd rfl (.inl rfl) (pe_op op_fdiv (pv 5) pe_int))))))))))
      (pss_cons (ps_while PassesOwn.never (pt_cmpR op_lt (pe_callB call_len_seq (by rfl) T.m_len PySem.boot_len (pa_cons (pv 2) pa_nil)) (pv 1) (nomark _))
        (pss_cons (ps_set (i := 3) nd rfl (.inl rfl) (pe_op op_mod (pe_op op_add (pe_op op_mul (pv 3) pe_int) pe_int) pe_int))
          (pss_one (ps_expr (pe_bm PySem.F.plainAttrs_list PySem.F.slot_list_append PySem.F.type_list_append mt_append (pv 2) (pa_cons (pe_op op_mod (pe_op op_mul (pv 3) (pv 3)) pe_int) pa_nil))))))
      (pss_one (ps_ret (pv 2))))))), ?_⟩
    -- rows = []; mix = 1
    refine q_asgL (el_lst ea_nil (by decide)) fun p H1 hp e1 h1 => ?_
    have hS1 := ex_l e1 hS
    refine q_asg (by walk_at "ev") fun H2 e2 => ?_
    refine q_forL (by walk_at "ev") (ex_l e2 hS1) (DrI H a p m) ?_ ?_ ?_ ?_
    · intro H3 e3
      exact ⟨[], 1, none, none, rfl, (e1.trans e2).trans e3, e3 p _ (e2 p _ h1), Nat.zero_le _, by omega, by omega, fun x hx => by cases hx⟩
    · rintro i σ' H' _ ⟨rows, mix, y4, y5, rfl, ex, _⟩
      exact ex_l ex hS
    · rintro i x σ' H' hx ⟨rows, mix, y4, y5, rfl, ex, hr', hrl, m0, m1, hb⟩
      obtain ⟨c, rfl⟩ : ∃ c : Int, x = .int c := by
        rw [List.getElem?_map] at hx
        cases hc : ns[i]? with
        | none => rw [hc] at hx; cases hx
        | some c => rw [hc] at hx; exact ⟨c, (Option.some.inj hx).symm⟩
      have hi : i < 63 := by
        have := (List.getElem?_eq_some_iff.mp hx).1
        rw [List.length_map] at this
        omega
      refine q_asg (by walk_at "ev") fun H3 e3 => ?_
      have m0' := Int.emod_nonneg (mix * 31 + c) (show (2147483647 : Int) ≠ 0 by decide)
      have m1' := Int.emod_lt_of_pos (mix * 31 + c) (show (0 : Int) < 2147483647 by decide)
      generalize (mix * 31 + c) % 2147483647 = mix' at m0' m1' ⊢
      refine q_asg (by walk_at "ev") fun H4 e4 => ?_
      have hr4 := ex_g e4 (ex_g e3 hr')
      have ex4 := (ex.trans e3).trans e4
      have r0 : 0 ≤ (if c < 0 then -c else c) := by split <;> omega
      have rc : (if c < 0 then -c else c) < 10 ^ 18 → -(10 ^ 18) < c ∧ c < 10 ^ 18 := by split <;> omega
      generalize (if c < 0 then -c else c) = rest at r0 rc ⊢
      -- what stands behind the if: the while
      have hwh : ∀ (rows' : List Int) (rest' : Int) (y4' : Option V) (H5 : Hp), Ex H H5 → H5 p = some (.lst (rows'.map V.int)) → rows'.length ≤ m + (i + 1) → 0 ≤ rest' → (0 < rest' → rows'.length ≤ m + i) → (∀ x ∈ rows', -(10 ^ 18) < x ∧ x < 10 ^ 18) →
          ∀ (tc : TT) (tb : TS) (D : Ends), True → True := fun _ _ _ _ _ _ _ _ _ _ _ _ _ _ => trivial
      clear hwh
      refine q_when (by walk_at "et") (fun hb' H5 e5 => ?_) (fun hb' H5 e5 => ?_)
      · have hlt : rest < 10 ^ 18 := of_decide_eq_true hb'
        obtain ⟨c1, c2⟩ := rc hlt
        refine q_app (ex_g e5 hr4) (by walk_at "ev") (by walk_at "ev") (by rw [List.length_map]; omega) fun H6 e6 => ?_
        refine s_asg (by walk_at "ev") fun H7 e7 => ?_
        have hp7 : H7 p = some (.lst ((rows ++ [c]).map V.int)) := e7 p _ (by rw [upd_same, List.map_append]; rfl)
        have ex7 : Ex H H7 := (ex_up ((ex4.trans e5).trans e6) hp).trans e7
        refine s_while (fun n σ2 H2 => n = 0 ∧ σ2 = [some (.ref a), some (.int (m : Int)), some (.ref p), some (.int mix'), some (.int c), some (.int 0)] ∧ Ex H H2 ∧ H2 p = some (.lst ((rows ++ [c]).map V.int))) 0 ⟨rfl, rfl, ex7, hp7⟩ ?_
        rintro n σ2 H2 ⟨rfl, rfl, ex2, hp2⟩
        refine ⟨_, by walk_at "et", fun hb2 => ?_, fun hb2 H8 e8 => ?_⟩
        · simp at hb2
        · exact ⟨rows ++ [c], mix', _, _, rfl, ex2.trans e8, e8 p _ hp2, by rw [List.length_append]; show rows.length + 1 ≤ _; omega, m0', m1', Rows.add hb c1 c2⟩
      · refine s_while (fun n σ2 H2 => ∃ (rows' : List Int) (rest' : Int), σ2 = [some (.ref a), some (.int (m : Int)), some (.ref p), some (.int mix'), some (.int c), some (.int rest')] ∧ n = rest'.toNat ∧ Ex H H2 ∧ H2 p = some (.lst (rows'.map V.int)) ∧ rows'.length ≤ m + i ∧ 0 ≤ rest' ∧ ∀ x ∈ rows', -(10 ^ 18) < x ∧ x < 10 ^ 18) rest.toNat
          ⟨rows, rest, rfl, rfl, ex4.trans e5, ex_g e5 hr4, hrl, r0, hb⟩ ?_
        rintro n σ2 H2 ⟨rows', rest', rfl, rfl, ex2, hp2, hrl', r0', hb'⟩
        refine ⟨_, by walk_at "et", fun hb2 H8 e8 => ?_, fun hb2 H8 e8 => ?_⟩
        · have hb3 := Bool.and_eq_true_iff.mp hb2
          have hpos : 0 < rest' := of_decide_eq_true hb3.1
          have hlm : ((rows'.map V.int).length : Int) < m := of_decide_eq_true hb3.2
          rw [List.length_map] at hlm
          refine ⟨fun σ3 H3 => ∃ n', n' < rest'.toNat ∧ ∃ (rows' : List Int) (rest' : Int), σ3 = [some (.ref a), some (.int (m : Int)), some (.ref p), some (.int mix'), some (.int c), some (.int rest')] ∧ n' = rest'.toNat ∧ Ex H H3 ∧ H3 p = some (.lst (rows'.map V.int)) ∧ rows'.length ≤ m + i ∧ 0 ≤ rest' ∧ ∀ x ∈ rows', -(10 ^ 18) < x ∧ x < 10 ^ 18, fun _ _ h => h, ?_⟩
          refine q_app (ex_g e8 hp2) (by walk_at "ev") (by walk_at "ev") (by rw [List.length_map]; omega) fun H9 e9 => ?_
          refine s_asg (by walk_at "ev") fun H10 e10 => ?_
          have d0 := Int.emod_nonneg rest' (show (1000003 : Int) ≠ 0 by decide)
          have d1 := Int.emod_lt_of_pos rest' (show (0 : Int) < 1000003 by decide)
          refine ⟨(rest' / 1000003).toNat, by omega, rows' ++ [rest' % 1000003], rest' / 1000003, rfl, rfl, (ex_up ((ex2.trans e8).trans e9) hp).trans e10, e10 p _ (by rw [upd_same, List.map_append]; rfl), ?_, by omega, Rows.add hb' (by omega) (by omega)⟩
          rw [List.length_append]
          show rows'.length + 1 ≤ _
          omega
        · exact ⟨rows', mix', _, _, rfl, ex2.trans e8, e8 p _ hp2, by omega, m0', m1', hb'⟩
    · rintro σ' H' ⟨rows, mix, y4, y5, rfl, ex, hr', hrl, m0, m1, hb⟩
      rw [List.length_map] at hrl
      refine q_while (fun n σ2 H2 => ∃ (rows : List Int) (mix : Int), σ2 = [some (.ref a), some (.int (m : Int)), some (.ref p), some (.int mix), y4, y5] ∧ n = m - rows.length ∧ Ex H H2 ∧ H2 p = some (.lst (rows.map V.int)) ∧ rows.length ≤ m + 63 ∧ 0 ≤ mix ∧ mix < 2147483647 ∧ ∀ x ∈ rows, -(10 ^ 18) < x ∧ x < 10 ^ 18)
        (m - rows.length) ⟨rows, mix, rfl, rfl, ex, hr', by omega, m0, m1, hb⟩ ?_
      rintro n σ2 H2 ⟨rows, mix, rfl, rfl, ex, hr', hrl, m0, m1, hb⟩
      refine ⟨_, by walk_at "et", fun hb2 H8 e8 => ?_, fun hb2 H8 e8 => ?_⟩
      · have hlm : ((rows.map V.int).length : Int) < m := of_decide_eq_true hb2
        rw [List.length_map] at hlm
        refine ⟨fun σ3 H3 => ∃ n', n' < m - rows.length ∧ ∃ (rows : List Int) (mix : Int), σ3 = [some (.ref a), some (.int (m : Int)), some (.ref p), some (.int mix), y4, y5] ∧ n' = m - rows.length ∧ Ex H H3 ∧ H3 p = some (.lst (rows.map V.int)) ∧ rows.length ≤ m + 63 ∧ 0 ≤ mix ∧ mix < 2147483647 ∧ ∀ x ∈ rows, -(10 ^ 18) < x ∧ x < 10 ^ 18, fun _ _ h => h, ?_⟩
        refine q_asg (by walk_at "ev") fun H9 e9 => ?_
        have m0' := Int.emod_nonneg (mix * 48271 + 11) (show (2147483647 : Int) ≠ 0 by decide)
        have m1' := Int.emod_lt_of_pos (mix * 48271 + 11) (show (0 : Int) < 2147483647 by decide)
        generalize (mix * 48271 + 11) % 2147483647 = mix' at m0' m1' ⊢
        refine s_app (ex_g e9 (ex_g e8 hr')) (by walk_at "ev") (by walk_at "ev") (by rw [List.length_map]; omega) fun H10 e10 => ?_
        have d0 := Int.emod_nonneg (mix' * mix') (show (999983 : Int) ≠ 0 by decide)
        have d1 := Int.emod_lt_of_pos (mix' * mix') (show (0 : Int) < 999983 by decide)
        refine ⟨m - (rows.length + 1), by omega, rows ++ [mix' * mix' % 999983], mix', rfl, by rw [List.length_append]; rfl, ex_up (((ex.trans e8).trans e9).trans e10) hp, by rw [upd_same, List.map_append]; rfl, ?_, m0', m1', Rows.add hb (by omega) (by omega)⟩
        rw [List.length_append]
        show rows.length + 1 ≤ _
        omega
      · refine s_ret (by walk_at "ev") fun H9 e9 => ?_
        have hlm : ¬ ((rows.map V.int).length : Int) < m := of_decide_eq_false hb2
        rw [List.length_map] at hlm
        exact q rows H9 p hp ((ex.trans e8).trans e9) (e9 p _ (e8 p _ hr')) ⟨by omega, hrl, hb⟩
end

end Su
namespace Su
/-! ### comprehensions over enumerate and zip -/
def dropAt (H : Hp) (D : Addr) : Hp := fun b => if b = D then none else H b
theorem drop_ex {H : Hp} {D : Addr} : Ex (dropAt H D) H := fun a o e => by
  unfold dropAt at e
  split at e
  · cases e
  · exact e
theorem drop_self {H : Hp} {D : Addr} : dropAt H D D = none := by unfold dropAt; rw [if_pos rfl]
theorem drop_of {H : Hp} {D T : Addr} {o : HO} (e : H T = some o) (n : T ≠ D) : dropAt H D T = some o := by unfold dropAt; rw [if_neg n]; exact e
theorem ex_drop {H H1 : Hp} {D : Addr} (e : Ex H1 H) (n : H1 D = none) : Ex H1 (dropAt H D) := fun a o h => drop_of (e a o h) fun z => by rw [z, n] at h; cases h
theorem cw_turn2 {H H' Hb : Hp} {t : TT} {te : TE} {f : Nat → Bool} {v : Nat → V} {Dl : Addr} {i : Nat} {σ2 : L2.St} (p : Cw H f v Dl i H') (hi : i < 50000) (hb : Ex Hb H') (ht : EvT t σ2 Hb (f i)) (he : f i = true → Ev te σ2 Hb (v i)) :
    t σ2 H' fun b H3 => if b = true then te σ2 H3 fun y H4 => ∃ acc, H4 Dl = some (.lst acc) ∧ acc.length < sizeLine ∧ Cw H f v Dl (i + 1) (upd H4 Dl (.lst (acc ++ [y]))) else Cw H f v Dl (i + 1) H3 := by
  obtain ⟨p1, p2, p3⟩ := p
  refine ht H' hb _ fun H3 e3 => ?_
  cases hf : f i with
  | true =>
    show te σ2 H3 fun y H4 => ∃ acc, H4 Dl = some (.lst acc) ∧ acc.length < sizeLine ∧ Cw H f v Dl (i + 1) (upd H4 Dl (.lst (acc ++ [y])))
    refine he hf H3 (hb.trans e3) _ fun H4 e4 => ⟨given i f v, e4 Dl _ (e3 Dl _ p3), sz_lt (by have := given_len i f v; omega), p1, Ex.mut ((p2.trans e3).trans e4) p1, ?_⟩
    rw [given_yes hf]
    exact upd_same
  | false =>
    show Cw H f v Dl (i + 1) H3
    refine ⟨p1, p2.trans e3, ?_⟩
    rw [given_no hf]
    exact e3 Dl _ p3
theorem cw_ex {H H1 H2 : Hp} {f : Nat → Bool} {v : Nat → V} {Dl : Addr} {i : Nat} (p : Cw H f v Dl i H1) (e : Ex H1 H2) : Cw H f v Dl i H2 := ⟨p.1, p.2.1.trans e, e Dl _ p.2.2⟩
/-- what a target does with a value: from the slots s to s2 -/
def Tgt (g : TG) (x : V) (σ σ2 : L2.St) (H : Hp) : Prop := ∀ H2, Ex H H2 → ∀ Q : L2.St → Hp → Prop, Q σ2 H2 → g x σ H2 Q
theorem tg_name {i : Nat} {x : V} {σ : L2.St} {H : Hp} : Tgt (gName i) x σ (σ.set i (some x)) H := fun _ _ _ q => q
theorem tg_two {K : PySem.W.Frag} {g1 g2 : TG} {T : Addr} {x y : V} {σ σ1 σ2 : L2.St} {H : Hp} (h : SqT K H T [x, y]) (h1 : Tgt g1 x σ σ1 H) (h2 : Tgt g2 y σ1 σ2 H) : Tgt (gTup K 2 (gCons g1 (gCons g2 gNil))) (.ref T) σ σ2 H := fun H2 e Q q =>
  ⟨T, [x, y], rfl, ex_t e h, rfl, x, [y], rfl, h1 H2 e _ ⟨y, [], rfl, h2 H2 e _ ⟨rfl, q⟩⟩⟩
theorem tg_three {K : PySem.W.Frag} {g1 g2 g3 : TG} {T : Addr} {x y z : V} {σ σ1 σ2 σ3 : L2.St} {H : Hp} (h : SqT K H T [x, y, z]) (h1 : Tgt g1 x σ σ1 H) (h2 : Tgt g2 y σ1 σ2 H) (h3 : Tgt g3 z σ2 σ3 H) : Tgt (gTup K 3 (gCons g1 (gCons g2 (gCons g3 gNil)))) (.ref T) σ σ3 H := fun H2 e Q q =>
  ⟨T, [x, y, z], rfl, ex_t e h, rfl, x, [y, z], rfl, h1 H2 e _ ⟨y, [z], rfl, h2 H2 e _ ⟨z, [], rfl, h3 H2 e _ ⟨rfl, q⟩⟩⟩⟩
section
variable {K : PySem.W.Frag} {σ : L2.St} {H : Hp} {t : TT} {te : TE} {g : TG} {vs : List Nat} {a b : Addr} {xs ys : List V} {ta : TA}
theorem et_yes {σ : L2.St} {H : Hp} : EvT tYes σ H true := fun H1 _ _ q => q H1 (Ex.refl H1)
theorem el_lcLg {tl : TE} (f : Nat → Bool) (v : Nat → V) (h : Ev tl σ H (.ref a)) (hx : SqL K H a xs) (hz : xs.length ≤ 40000)
    (hs : ∀ (i : Nat) (x : V) Hb, Ex H Hb → xs[i]? = some x → ∃ σ2, Tgt g x (wipe σ vs) σ2 Hb ∧ wipe σ2 vs = wipe σ vs ∧ EvT t σ2 Hb (f i) ∧ (f i = true → Ev te σ2 Hb (v i))) :
    EvL (tLc (iList K tl) g t te vs) σ H (given xs.length f v) := fun H0 e Q q => h H0 e _ fun H1 e1 => ⟨a, rfl, ⟨xs, ex_l (e.trans e1) hx⟩, fun Dl hD =>
  lc_list (xs := xs) (Cw H1 f v Dl) ⟨hD, Ex.new hD, upd_same⟩ (fun i H' _ p => ex_l ((e.trans e1).trans p.2.1) hx) (fun i x H' hi p => by
    obtain ⟨σ2, h1, h2, h3, h4⟩ := hs i x H1 (e.trans e1) hi
    exact h1 H' p.2.1 _ ⟨h2, cw_turn2 p (by have := (List.getElem?_eq_some_iff.mp hi).1; omega) p.2.1 h3 h4⟩)
    (fun H' p => q Dl H' (fresh_back e1 p.1) (e1.trans p.2.1) p.2.2)⟩
theorem el_lcE (f : Nat → Bool) (v : Nat → V) (h : EvA ta σ H [.ref a]) (hx : SqL K H a xs) (hz : xs.length ≤ 40000)
    (hs : ∀ (i : Nat) (x : V) T Hb, Ex H Hb → xs[i]? = some x → Hb T = some (.tup [.int (i : Nat), x]) → ∃ σ2, Tgt g (.ref T) (wipe σ vs) σ2 Hb ∧ wipe σ2 vs = wipe σ vs ∧ EvT t σ2 Hb (f i) ∧ (f i = true → Ev te σ2 Hb (v i))) :
    EvL (tLc (iEnum K ta) g t te vs) σ H (given xs.length f v) := fun H0 e Q q => h H0 e _ fun H1 e1 => ⟨a, xs, rfl, ex_l (e.trans e1) hx, fun Dl hD => by
  refine ⟨fun i m H' => m = xs.length - i ∧ i ≤ xs.length ∧ Cw H1 f v Dl i H', ⟨xs.length, by simp, Nat.zero_le _, hD, Ex.new hD, upd_same⟩, ?_⟩
  rintro i m H' ⟨rfl, hi, p⟩
  have hX := ex_l ((e.trans e1).trans p.2.1) hx
  by_cases hlt : i < xs.length
  · refine .inr ⟨⟨xs, xs[i], hX, List.getElem?_eq_getElem hlt⟩, Cw H1 f v Dl (i + 1), fun H2 p' => ⟨xs.length - (i + 1), by omega, rfl, hlt, p'⟩, fun y H2 hy => ?_⟩
    obtain ⟨T, x, rfl, nT, rfl, hxx⟩ := hy
    have gi := hxx xs hX
    have eT : Ex H' (upd H' T (.tup [.int (i : Nat), x])) := Ex.new nT
    have hTD : T ≠ Dl := fun z => by rw [z, p.2.2] at nT; cases nT
    have p2 := cw_ex p eT
    obtain ⟨σ2, h1, h2, h3, h4⟩ := hs i x T (dropAt (upd H' T (.tup [.int (i : Nat), x])) Dl) (ex_drop (((e.trans e1).trans p.2.1).trans eT) (fresh_back (e.trans e1) p.1)) gi (drop_of upd_same hTD)
    exact h1 _ drop_ex _ ⟨h2, cw_turn2 p2 (by omega) drop_ex h3 h4⟩
  · have ei : i = xs.length := by omega
    subst ei
    exact .inl ⟨⟨xs, hX, Nat.le_refl _⟩, q Dl H' (fresh_back e1 p.1) (e1.trans p.2.1) p.2.2⟩⟩
theorem el_lcZ (f : Nat → Bool) (v : Nat → V) (h : EvA ta σ H [.ref a, .ref b]) (hx : SqL K H a xs) (hy : SqL K H b ys) (hl : xs.length = ys.length) (hz : xs.length ≤ 40000)
    (hs : ∀ (i : Nat) (x y : V) T Hb, Ex H Hb → xs[i]? = some x → ys[i]? = some y → Hb T = some (.tup [x, y]) → ∃ σ2, Tgt g (.ref T) (wipe σ vs) σ2 Hb ∧ wipe σ2 vs = wipe σ vs ∧ EvT t σ2 Hb (f i) ∧ (f i = true → Ev te σ2 Hb (v i))) :
    EvL (tLc (RZ.iZipA K ta) g t te vs) σ H (given xs.length f v) := fun H0 e Q q => h H0 e _ fun H1 e1 => ⟨a, b, xs, ys, rfl, .inl ⟨ex_l (e.trans e1) hx, ex_l (e.trans e1) hy, fun Dl hD => by
  refine ⟨fun i m H' => m = xs.length - i ∧ i ≤ xs.length ∧ Cw H1 f v Dl i H', ⟨xs.length, by simp, Nat.zero_le _, hD, Ex.new hD, upd_same⟩, ?_⟩
  rintro i m H' ⟨rfl, hi, p⟩
  have hX := ex_l ((e.trans e1).trans p.2.1) hx
  have hY := ex_l ((e.trans e1).trans p.2.1) hy
  by_cases hlt : i < xs.length
  · have hlt2 : i < ys.length := by omega
    refine .inr ⟨⟨xs, ys, xs[i], ys[i], hX, hY, List.getElem?_eq_getElem hlt, List.getElem?_eq_getElem hlt2⟩, Cw H1 f v Dl (i + 1), fun H2 p' => ⟨xs.length - (i + 1), by omega, rfl, hlt, p'⟩, fun z H2 hzz => ?_⟩
    obtain ⟨T, x, y, rfl, nT, rfl, hxx, hyy⟩ := hzz
    have eT : Ex H' (upd H' T (.tup [x, y])) := Ex.new nT
    have hTD : T ≠ Dl := fun z => by rw [z, p.2.2] at nT; cases nT
    have p2 := cw_ex p eT
    obtain ⟨σ2, h1, h2, h3, h4⟩ := hs i x y T (dropAt (upd H' T (.tup [x, y])) Dl) (ex_drop (((e.trans e1).trans p.2.1).trans eT) (fresh_back (e.trans e1) p.1)) (hxx xs hX) (hyy ys hY) (drop_of upd_same hTD)
    exact h1 _ drop_ex _ ⟨h2, cw_turn2 p2 (by omega) drop_ex h3 h4⟩
  · have ei : i = xs.length := by omega
    subst ei
    exact .inl ⟨⟨xs, ys, hX, hY, .inl (Nat.le_refl _)⟩, q Dl H' (fresh_back e1 p.1) (e1.trans p.2.1) p.2.2⟩⟩⟩
theorem el_lcZT (f : Nat → Bool) (v : Nat → V) (h : EvA ta σ H [.ref a, .ref b]) (hx : SqT K H a xs) (hy : SqT K H b ys) (hl : xs.length = ys.length) (hz : xs.length ≤ 40000)
    (hs : ∀ (i : Nat) (x y : V) T Hb, Ex H Hb → xs[i]? = some x → ys[i]? = some y → Hb T = some (.tup [x, y]) → ∃ σ2, Tgt g (.ref T) (wipe σ vs) σ2 Hb ∧ wipe σ2 vs = wipe σ vs ∧ EvT t σ2 Hb (f i) ∧ (f i = true → Ev te σ2 Hb (v i))) :
    EvL (tLc (RZ.iZipA K ta) g t te vs) σ H (given xs.length f v) := fun H0 e Q q => h H0 e _ fun H1 e1 => ⟨a, b, xs, ys, rfl, .inr ⟨ex_t (e.trans e1) hx, ex_t (e.trans e1) hy, fun Dl hD => by
  refine ⟨fun i m H' => m = xs.length - i ∧ i ≤ xs.length ∧ Cw H1 f v Dl i H', ⟨xs.length, by simp, Nat.zero_le _, hD, Ex.new hD, upd_same⟩, ?_⟩
  rintro i m H' ⟨rfl, hi, p⟩
  have hX := ex_t ((e.trans e1).trans p.2.1) hx
  have hY := ex_t ((e.trans e1).trans p.2.1) hy
  by_cases hlt : i < xs.length
  · have hlt2 : i < ys.length := by omega
    refine .inr ⟨⟨xs, ys, xs[i], ys[i], hX, hY, List.getElem?_eq_getElem hlt, List.getElem?_eq_getElem hlt2⟩, Cw H1 f v Dl (i + 1), fun H2 p' => ⟨xs.length - (i + 1), by omega, rfl, hlt, p'⟩, fun z H2 hzz => ?_⟩
    obtain ⟨T, x, y, rfl, nT, rfl, hxx, hyy⟩ := hzz
    have eT : Ex H' (upd H' T (.tup [x, y])) := Ex.new nT
    have hTD : T ≠ Dl := fun z => by rw [z, p.2.2] at nT; cases nT
    have p2 := cw_ex p eT
    obtain ⟨σ2, h1, h2, h3, h4⟩ := hs i x y T (dropAt (upd H' T (.tup [x, y])) Dl) (ex_drop (((e.trans e1).trans p.2.1).trans eT) (fresh_back (e.trans e1) p.1)) (hxx xs hX) (hyy ys hY) (drop_of upd_same hTD)
    exact h1 _ drop_ex _ ⟨h2, cw_turn2 p2 (by omega) drop_ex h3 h4⟩
  · have ei : i = xs.length := by omega
    subst ei
    exact .inl ⟨⟨xs, ys, hX, hY, .inl (Nat.le_refl _)⟩, q Dl H' (fresh_back e1 p.1) (e1.trans p.2.1) p.2.2⟩⟩⟩
end

end Su
namespace Su
/-! ### data as a whole: _law_same of two alike -/
mutual
theorem dp_ex {K : PySem.W.Frag} {H H' : Hp} (e : Ex H H') : ∀ {x : V} {d : PyData}, Dp K H x d → Dp K H' x d
  | _, _, .non => .non
  | _, _, .bl b => .bl b
  | _, _, .int i => .int i
  | _, _, .str x => .str x
  | _, _, .lst h1 h2 => .lst (ex_l e h1) (dpa_ex e h2)
  | _, _, .tup h1 h2 => .tup (ex_t e h1) (dpa_ex e h2)
theorem dpa_ex {K : PySem.W.Frag} {H H' : Hp} (e : Ex H H') : ∀ {xs : List V} {ds : List PyData}, DpAll K H xs ds → DpAll K H' xs ds
  | _, _, .nil => .nil
  | _, _, .cons h1 h2 => .cons (dp_ex e h1) (dpa_ex e h2)
end
theorem dpa_len {K : PySem.W.Frag} {H : Hp} : ∀ {xs : List V} {ds : List PyData}, DpAll K H xs ds → xs.length = ds.length
  | _, _, .nil => rfl
  | _, _, .cons _ h2 => by rw [List.length_cons, List.length_cons, dpa_len h2]
theorem dpa_get {K : PySem.W.Frag} {H : Hp} : ∀ {xs : List V} {ds : List PyData} {i : Nat} {x : V}, DpAll K H xs ds → xs[i]? = some x → ∃ d, ds[i]? = some d ∧ Dp K H x d
  | _, _, _, _, .nil, e => by simp at e
  | _, _, 0, _, .cons h _, e => by simp at e; subst e; exact ⟨_, rfl, h⟩
  | _, _, i + 1, x, .cons _ h2, e => by
    obtain ⟨d, h1, h3⟩ := dpa_get (i := i) (x := x) h2 (by simpa using e)
    exact ⟨d, by simpa using h1, h3⟩
theorem dpa_of {K : PySem.W.Frag} {H : Hp} {α : Type} (f : α → V) (g : α → PyData) : ∀ l : List α, (∀ a ∈ l, Dp K H (f a) (g a)) → DpAll K H (l.map f) (l.map g)
  | [], _ => .nil
  | a :: r, h => .cons (h a List.mem_cons_self) (dpa_of f g r fun b hb => h b (List.mem_cons_of_mem _ hb))
def tyN : PyData → String
  | .none => "NoneType" | .bool _ => "bool" | .int _ => "int" | .str _ => "str" | .list _ => "list" | .tuple _ => "tuple" | .dict _ => "dict"
theorem ty_dp {K : PySem.W.Frag} {H : Hp} {x : V} {d : PyData} (h : Dp K H x d) : TyX K H x (.type (tyN d)) := by
  cases h with
  | non => exact .base .non
  | bl b => exact .base (.bl b)
  | int i => exact .base (.int i)
  | str s => exact .base (.str s)
  | lst h1 _ =>
    rcases h1 with (h1 | ⟨o, h1⟩) | ⟨o, its, n, h1, h2, _⟩
    · exact .base (.lst h1)
    · exact .base (.frz h1)
    · exact .kList h1 h2
  | tup h1 _ =>
    rcases h1 with (h1 | ⟨o, h1⟩) | ⟨o, its, n, h1, h2, _⟩
    · exact .base (.tup h1)
    · exact .fTuple h1
    · exact .kTuple h1 h2
theorem rc_isi_dp {K : PySem.W.Frag} {H : Hp} {x : V} {d : PyData} {n : String} {b : Bool} (h : Dp K H x d) (hk : kitB (tyN d) n = some b) : RC (rIsi K) [x, .ty n] H (.bl b) :=
  fun H1 e _ q => ⟨x, .ty n, .type (tyN d), .type n, b, rfl, .ty n, ty_dp (dp_ex e h), kit_ty hk, q H1 (Ex.refl H1)⟩
theorem kit_tab {t m : String} (ht : t = "NoneType" ∨ t = "bool" ∨ t = "int" ∨ t = "str" ∨ t = "list" ∨ t = "tuple") (hm : m = "bool" ∨ m = "int" ∨ m = "list" ∨ m = "tuple" ∨ m = "str") : ∃ b, kitB t m = some b := by
  rcases ht with rfl | rfl | rfl | rfl | rfl | rfl <;> rcases hm with rfl | rfl | rfl | rfl | rfl <;> first | exact ⟨true, by decide +kernel⟩ | exact ⟨false, by decide +kernel⟩
/-- data of ints, texts, None, bools, lists and tuples, n deep -/
inductive PlD : Nat → PyData → Prop
  | non {n : Nat} : PlD n .none
  | bool {n : Nat} (b : Bool) : PlD n (.bool b)
  | int {n : Nat} (i : Int) : PlD n (.int i)
  | str {n : Nat} (x : Str) : PlD n (.str x)
  | list {n : Nat} {xs : List PyData} : xs.length ≤ 1000 → (∀ x ∈ xs, PlD n x) → PlD (n + 1) (.list xs)
  | tuple {n : Nat} {xs : List PyData} : xs.length ≤ 1000 → (∀ x ∈ xs, PlD n x) → PlD (n + 1) (.tuple xs)
theorem PlD.ty {n : Nat} {d : PyData} (h : PlD n d) : tyN d = "NoneType" ∨ tyN d = "bool" ∨ tyN d = "int" ∨ tyN d = "str" ∨ tyN d = "list" ∨ tyN d = "tuple" := by
  cases h <;> simp [tyN]
theorem given_all {n : Nat} {v : V} : given n (fun _ => true) (fun _ => v) = List.replicate n v := by
  induction n with
  | zero => rfl
  | succ n ih => rw [given_yes rfl, ih, List.replicate_succ']
theorem all_rep (n : Nat) : (List.replicate n true).all id = true := by
  induction n with
  | zero => rfl
  | succ n ih => rw [List.replicate_succ, List.all_cons, ih]; rfl
section
variable {P : Program} {w : World} {K : PySem.W.Frag} {mg : Str → Option Value} {base : Heap}
theorem ev_isi {σ : L2.St} {H : Hp} {ta tb : TE} {x : V} {d : PyData} {n : String} {b : Bool} (ha : Ev ta σ H x) (hb : Ev tb σ H (.ty n)) (h : Dp K H x d) (hk : kitB (tyN d) n = some b) : Ev (tCB (rIsi K) (tCons ta (tCons tb tNil))) σ H (.bl b) := ev_cb (ea_cons ha (ea_cons hb ea_nil)) (rc_isi_dp h hk)
theorem ev_allT {σ : L2.St} {H : Hp} {te : TE} {n : Nat} (h : EvL te σ H (List.replicate n (V.bl true))) : Ev (tCB (rAll K) (tCons te tNil)) σ H (.bl true) := fun H1 e Q q =>
  h H1 e _ fun p H2 _ e2 h2 => ⟨p, List.replicate n true, rfl, sq_of (by rw [List.map_replicate]; exact h2), by rw [all_rep]; exact q H2 e2⟩
theorem rv_sc {H : Hp} {x : V} (h : scal x x = true) : RV rEq x x H (.bl true) := fun H1 e Q q => ⟨h, by rw [decide_eq_true rfl]; exact q H1 (Ex.refl H1)⟩
theorem rv_neb {H : Hp} {b : Bool} : RV rNe (.bl b) (.bl b) H (.bl false) := fun H1 e Q q => ⟨by cases b <;> rfl, by rw [decide_eq_true rfl]; exact q H1 (Ex.refl H1)⟩
end

end Su
namespace Su
section
variable {P : Program} {w : World} {K : PySem.W.Frag} {mg : Str → Option Value} {base : Heap}
def spSame (K : PySem.W.Frag) (n : Nat) : Sp := fun vs H Q _ => ∃ (x y : V) (d : PyData), vs = [x, y] ∧ PlD n d ∧ Dp K H x d ∧ Dp K H y d ∧ ∀ H', Ex H H' → Q (.bl true) H'
def spPrev (K : PySem.W.Frag) : Nat → Sp
  | 0 => fun _ _ _ _ => False
  | n + 1 => spSame K n
theorem spV_same {n : Nat} {x y : V} {d : PyData} {H : Hp} (hp : PlD n d) (h1 : Dp K H x d) (h2 : Dp K H y d) : SpV (spSame K n) [x, y] H (.bl true) := fun H1 e Q q _ => ⟨x, y, d, rfl, hp, dp_ex e h1, dp_ex e h2, q⟩
end
section
variable {P : Program} {w : World} {K : PySem.W.Frag} {mg : Str → Option Value} {base : Heap}
theorem ok__law_same (T : Top K mg) : ∀ n : Nat, FnOk P w K mg base CX0 (n + 1) T.f__law_same T.fd__law_same ["_law_told", "_law_due"] (spSame K n) := fun n => by
  have G__law_same : FnOk P w K mg base CX0 n T.f__law_same T.fd__law_same ["_law_told", "_law_due"] (spPrev K n) := by
    cases n with
    | zero => exact ⟨fun _ _ _ _ h => h.elim, fun _ _ _ _ _ _ _ _ _ _ _ _ _ h => h.elim⟩
    | succ n => exact ok__law_same T n
  have nd := sc__law_same.nd
  refine T.F__law_same.ok sc__law_same (fun vs H Q E h => ?_) (fun cdv A outer s H vs Q E hr h => ?_)
  · obtain ⟨x, y, d, rfl, _⟩ := h
    rfl
  · obtain ⟨x, y, d, rfl, hp, hx, hy, q⟩ := h
    refine ⟨_, (pss_cons (ps_if (PW.pt (pw_or (pt_cmpR op_ne (pe_callB call_isi (by rfl) T.m_isinstance (by decide +kernel) (pa_cons (pv 0) (pa_cons (pe_bltn (v := .ty "bool") (by rfl) T.m_bool (by decide +kernel) rfl) pa_nil))) (pe_callB call_isi (by rfl) T.m_isinstance (by decide +kernel) (pa_cons (pv 1) (pa_cons (pe_bltn (v := .ty "bool") (by rfl) T.m_bool (by decide +kernel) rfl) pa_nil))) (nomark _)) (pw_or1 (pt_cmpR op_ne (pe_callB call_isi (by rfl) T.m_isinstance (by decide +kernel) (pa_cons (pv 0) (pa_cons (pe_bltn (v := .ty "int") (by rfl) T.m_int (by decide +kernel) rfl) pa_nil))) (pe_callB call_isi (by rfl) T.m_isinstance (by decide +kernel) (pa_cons (pv 1) (pa_cons (pe_bltn (v := .ty "int") (by rfl) T.m_int (by decide +kernel) rfl) pa_nil))) (nomark _)))))
        (pss_one (ps_ret pe_bl))
        pss_nil)
      (pss_cons (ps_if (PW.pt (pw_or (pt_cmpR op_ne (pe_callB call_isi (by rfl) T.m_isinstance (by decide +kernel) (pa_cons (pv 0) (pa_cons (pe_bltn (v := .ty "list") (by rfl) T.m_list (by decide +kernel) rfl) pa_nil))) (pe_callB call_isi (by rfl) T.m_isinstance (by decide +kernel) (pa_cons (pv 1) (pa_cons (pe_bltn (v := .ty "list") (by rfl) T.m_list (by decide +kernel) rfl) pa_nil))) (nomark _)) (pw_or1 (pt_cmpR op_ne (pe_callB call_isi (by rfl) T.m_isinstance (by decide +kernel) (pa_cons (pv 0) (pa_cons (pe_bltn (v := .ty "tuple") (by rfl) T.m_tuple (by decide +kernel) rfl) pa_nil))) (pe_callB call_isi (by rfl) T.m_isinstance (by decide +kernel) (pa_cons (pv 1) (pa_cons (pe_bltn (v := .ty "tuple") (by rfl) T.m_tuple (by decide +kernel) rfl) pa_nil))) (nomark _)))))
        (pss_one (ps_ret pe_bl))
        pss_nil)
      (pss_cons (ps_if (PW.pt (pw_and (pt_not (pt_val (pe_callB call_isi (by rfl) T.m_isinstance (by decide +kernel) (pa_cons (pv 1) (pa_cons (pe_bltn (v := .ty "list") (by rfl) T.m_list (by decide +kernel) rfl) pa_nil))))) (pw_and1 (pt_not (pt_val (pe_callB call_isi (by rfl) T.m_isinstance (by decide +kernel) (pa_cons (pv 1) (pa_cons (pe_bltn (v := .ty "tuple") (by rfl) T.m_tuple (by decide +kernel) rfl) pa_nil))))))))
        (pss_one (ps_ret (pe_and (pe_cmpR op_eq (pe_callB call_isi (by rfl) T.m_isinstance (by decide +kernel) (pa_cons (pv 0) (pa_cons (pe_bltn (v := .ty "str") (by rfl) T.m_str (by decide +kernel) rfl) pa_nil))) (pe_callB call_isi (by rfl) T.m_isinstance (by decide +kernel) (pa_cons (pv 1) (pa_cons (pe_bltn (v := .ty "str") (by rfl) T.m_str (by decide +kernel) rfl) pa_nil))) (nomark _)) (pe_one (pe_cmpR op_eq (pv 0) (pv 1) (nomark _))))))
        pss_nil)
      (pss_one (ps_ret (pe_and (pe_cmpR op_eq (pe_callB call_len_seq (by rfl) T.m_len PySem.boot_len (pa_cons (pv 0) pa_nil)) (pe_callB call_len_seq (by rfl) T.m_len PySem.boot_len (pa_cons (pv 1) pa_nil)) (nomark _)) (pe_one (pe_callB (cr_all rfl) (by rfl) T.m_all (by decide +kernel) (pa_cons (pe_lc (own := [("_law_one", 2), ("_law_other", 3)]) (g := gTup K 2 (gCons (gName 2) (gCons (gName 3) gNil))) (tt := tYes) rfl nd (RZ.pi_zipA (by rfl) T.m_zip (pa_cons (pv 0) (pa_cons (pv 1) pa_nil))) (blkOk_by (own := [("_law_one", 2), ("_law_other", 3)]) (N := Su.N__law_same) (sc := defScope s__law_same) (by decide +kernel)) (fun _ _ _ _ _ => (pg_tup rfl (pgs_cons (pg_name (i := 2) nd rfl (.inl rfl)) (pgs_cons (pg_name (i := 3) nd rfl (.inl rfl)) pgs_nil)))) (fun _ _ _ _ _ => pts_nil) (fun _ _ _ _ _ => (pe_call G__law_same hr (by rfl) T.m__law_same T.F__law_same.kp T.b__law_same .nil pass0 (pa_cons (pv 2) (pa_cons (pv 3) pa_nil))))) pa_nil))))))))), ?_⟩
    have kb := fun (m : String) hm => kit_tab (m := m) hp.ty hm
    obtain ⟨b1, k1⟩ := kb "bool" (by simp)
    obtain ⟨b2, k2⟩ := kb "int" (by simp)
    obtain ⟨b3, k3⟩ := kb "list" (by simp)
    obtain ⟨b4, k4⟩ := kb "tuple" (by simp)
    obtain ⟨b5, k5⟩ := kb "str" (by simp)
    refine q_when (b := false) ?_ (fun h => by cases h) fun _ H1 e1 => ?_
    · exact et_or (a := false) (b := false) (et_test (ev_op (ev_isi (ev_var rfl) ev_c hx k1) (ev_isi (ev_var rfl) ev_c hy k1) rv_neb)) fun _ => et_test (ev_op (ev_isi (ev_var rfl) ev_c hx k2) (ev_isi (ev_var rfl) ev_c hy k2) rv_neb)
    have hx := dp_ex e1 hx
    have hy := dp_ex e1 hy
    refine q_when (b := false) ?_ (fun h => by cases h) fun _ H2 e2 => ?_
    · exact et_or (a := false) (b := false) (et_test (ev_op (ev_isi (ev_var rfl) ev_c hx k3) (ev_isi (ev_var rfl) ev_c hy k3) rv_neb)) fun _ => et_test (ev_op (ev_isi (ev_var rfl) ev_c hx k4) (ev_isi (ev_var rfl) ev_c hy k4) rv_neb)
    have hx := dp_ex e2 hx
    have hy := dp_ex e2 hy
    refine q_when (et_and (et_not (et_B (ev_isi (ev_var rfl) ev_c hy k3))) fun _ => et_not (et_B (ev_isi (ev_var rfl) ev_c hy k4))) (fun hb H3 e3 => ?_) (fun hb H3 e3 => ?_)
    · -- no list, no tuple
      have hx := dp_ex e3 hx
      have hy := dp_ex e3 hy
      have hsc : scal x x = true ∧ x = y := by
        cases hp with
        | non => cases hx; cases hy; exact ⟨rfl, rfl⟩
        | bool b => cases hx; cases hy; exact ⟨rfl, rfl⟩
        | int i => cases hx; cases hy; exact ⟨rfl, rfl⟩
        | str s => cases hx; cases hy; exact ⟨rfl, rfl⟩
        | list _ _ =>
          have z : b3 = true := Option.some.inj (k3.symm.trans (show kitB "list" "list" = some true by decide +kernel))
          rw [z] at hb
          exact absurd hb (by cases b4 <;> decide)
        | tuple _ _ =>
          have z : b4 = true := Option.some.inj (k4.symm.trans (show kitB "tuple" "tuple" = some true by decide +kernel))
          rw [z, Bool.not_true, Bool.and_false] at hb
          exact absurd hb (by decide)
      obtain ⟨hsc, rfl⟩ := hsc
      refine s_ret (v := .bl (true && true)) (ev_andV (ev_op (ev_isi (ev_var rfl) ev_c hx k5) (ev_isi (ev_var rfl) ev_c hy k5) (rv_sc (by cases b5 <;> rfl))) fun _ => ev_op (ev_var rfl) (ev_var rfl) (rv_sc hsc)) fun H4 e4 => q H4 (((e1.trans e2).trans e3).trans e4)
    · have hx := dp_ex e3 hx
      have hy := dp_ex e3 hy
      have ex3 := (e1.trans e2).trans e3
      cases hp with
      | non => exact absurd hb (by rw [← Option.some.inj ((show kitB "NoneType" "list" = some false by decide +kernel).symm.trans k3), ← Option.some.inj ((show kitB "NoneType" "tuple" = some false by decide +kernel).symm.trans k4)]; decide)
      | bool b => exact absurd hb (by rw [← Option.some.inj ((show kitB "bool" "list" = some false by decide +kernel).symm.trans k3), ← Option.some.inj ((show kitB "bool" "tuple" = some false by decide +kernel).symm.trans k4)]; decide)
      | int i => exact absurd hb (by rw [← Option.some.inj ((show kitB "int" "list" = some false by decide +kernel).symm.trans k3), ← Option.some.inj ((show kitB "int" "tuple" = some false by decide +kernel).symm.trans k4)]; decide)
      | str z => exact absurd hb (by rw [← Option.some.inj ((show kitB "str" "list" = some false by decide +kernel).symm.trans k3), ← Option.some.inj ((show kitB "str" "tuple" = some false by decide +kernel).symm.trans k4)]; decide)
      | @list n ds hn hds =>
        cases hx with
        | @lst a xs _ hX aX => cases hy with
          | @lst b ys _ hY aY =>
            have lx := dpa_len aX
            have ly := dpa_len aY
            refine s_ret (v := .bl (true && true)) (ev_andV (ev_op (ev_cb (ea_cons (ev_var rfl) ea_nil) (rc_len (.inl hX))) (ev_cb (ea_cons (ev_var rfl) ea_nil) (rc_len (.inl hY))) ?_) fun _ => ev_allT (n := xs.length) ?_) fun H4 e4 => q H4 (ex3.trans e4)
            · rw [lx, ly]
              exact rv_sc rfl
            · rw [← given_all]
              refine el_lcZ _ _ (ea_cons (ev_var rfl) (ea_cons (ev_var rfl) ea_nil)) hX hY (by omega) (by omega) fun i x y Tt Hb eb gx gy hT => ?_
              obtain ⟨d1, g1, p1⟩ := dpa_get aX gx
              obtain ⟨d2, g2, p2⟩ := dpa_get aY gy
              obtain rfl : d1 = d2 := Option.some.inj (g1.symm.trans g2)
              refine ⟨_, tg_two (.inl (.inl hT)) tg_name tg_name, rfl, et_yes, fun _ => ?_⟩
              refine ev_call (ea_cons (ev_var rfl) (ea_cons (ev_var rfl) ea_nil)) ?_
              exact spV_same (hds d1 (List.mem_of_getElem? g1)) (dp_ex eb p1) (dp_ex eb p2)
      | @tuple n ds hn hds =>
        cases hx with
        | @tup a xs _ hX aX => cases hy with
          | @tup b ys _ hY aY =>
            have lx := dpa_len aX
            have ly := dpa_len aY
            refine s_ret (v := .bl (true && true)) (ev_andV (ev_op (ev_cb (ea_cons (ev_var rfl) ea_nil) (rc_len (.inr hX))) (ev_cb (ea_cons (ev_var rfl) ea_nil) (rc_len (.inr hY))) ?_) fun _ => ev_allT (n := xs.length) ?_) fun H4 e4 => q H4 (ex3.trans e4)
            · rw [lx, ly]
              exact rv_sc rfl
            · rw [← given_all]
              refine el_lcZT _ _ (ea_cons (ev_var rfl) (ea_cons (ev_var rfl) ea_nil)) hX hY (by omega) (by omega) fun i x y Tt Hb eb gx gy hT => ?_
              obtain ⟨d1, g1, p1⟩ := dpa_get aX gx
              obtain ⟨d2, g2, p2⟩ := dpa_get aY gy
              obtain rfl : d1 = d2 := Option.some.inj (g1.symm.trans g2)
              refine ⟨_, tg_two (.inl (.inl hT)) tg_name tg_name, rfl, et_yes, fun _ => ?_⟩
              refine ev_call (ea_cons (ev_var rfl) (ea_cons (ev_var rfl) ea_nil)) ?_
              exact spV_same (hds d1 (List.mem_of_getElem? g1)) (dp_ex eb p1) (dp_ex eb p2)
end

end Su
namespace Su
/-! ### own exceptions: X(), except .. as e, isinstance(e, ..) -/
section
variable {X : Cx} {C : Addr} {bmB : List Value} {B newId initId : String}
theorem pmk_own0 {x : Str} {p pos : Pos} (F : ExcBaseFacts B newId initId bmB) (q : PySem.W.excIn X.K C bmB newId = true) (gC : X.mg x = some (.ref C)) (kC : PySem.W.keepIn X.K (.ref C) = true) (r : Raises X (.ref C)) (hg : Gl X x)
    (hdb : (x == ("__debug__" : Str)) = false := by decide) : PMk X (.Call (.Name x p) [] [] pos) (fun _ H Q => Q (.ref C) none H) := by
  intro pins s σ H Q I h
  refine wpAny_Call_Name_kw (ld_glob I hg gC ?_ hdb)
  refine PySem.W.callWith_K0 I.kIn kC ?_
  obtain ⟨bm, N, nm, qn, bs, hdct, sn, sub, ab, col, dd, k0, k1, k2, k3, k5, mN, hC, hN, hni, T⟩ := exc_obj I.kIn q
  refine wpAny_call_exc_subT F T hC hN hni (fun h' e hm => ?_) (Nat.zero_le _)
  exact mk_of I hm r h (I.hok.gone hm.new)
theorem pss_ex {ι : Type} {Pi : ι → Prop} {st : List Stmt} {t : ι → TS} (h : ∀ i, Pi i → PSs X st (t i)) : PSs X st (fun D σ H => ∃ i, Pi i ∧ t i D σ H) := ⟨fun pins s σ H D I ⟨i, hp, ht⟩ => (h i hp).run pins s σ H D I ht⟩
end
theorem rc_isE {K : PySem.W.Frag} {D a C : Addr} {H : Hp} {b : Bool} (h : PySem.W.kitOne K (.ref D) (.ref C) = some b) : RC (rIsE K D a) [.ref a, .ref C] H (.bl b) := fun H1 _ _ q => ⟨.ref C, .ref C, b, rfl, fun _ r => r, h, q H1 (Ex.refl H1)⟩
theorem rc_isEt {K : PySem.W.Frag} {D a : Addr} {n : String} {H : Hp} {b : Bool} (h : PySem.W.kitOne K (.ref D) (.type n) = some b) : RC (rIsE K D a) [.ref a, .ty n] H (.bl b) := fun H1 _ _ q => ⟨.ty n, .type n, b, rfl, fun _ r => r, h, q H1 (Ex.refl H1)⟩
def boolD (bs : List Bool) : PyData := .list (bs.map .bool)
theorem dp_bools {K : PySem.W.Frag} {H : Hp} {l : Addr} {bs : List Bool} (hl : SqL K H l (bs.map V.bl)) : Dp K H (.ref l) (boolD bs) := .lst hl (dpa_of V.bl PyData.bool bs fun i _ => .bl i)
theorem rv_eqDD {K : PySem.W.Frag} {H : Hp} {x y : V} {d e : PyData} {b : Bool} (h1 : Dp K H x d) (h2 : Dp K H y e) (hs : SeqAt.shaped d = true) (hs2 : SeqAt.shaped e = true) (hb : PyData.eqv d e = b) : RV (rEqD K) x y H (.bl b) := fun H1 ex Q q =>
  ⟨d, e, dp_ex ex h1, dp_ex ex h2, hs, hs2, by rw [hb]; exact q H1 (Ex.refl H1)⟩
theorem rv_neDD {K : PySem.W.Frag} {H : Hp} {x y : V} {d e : PyData} {b : Bool} (h1 : Dp K H x d) (h2 : Dp K H y e) (hs : SeqAt.shaped d = true) (hs2 : SeqAt.shaped e = true) (hb : PyData.eqv d e = !b) : RV (rNeD K) x y H (.bl b) := fun H1 ex Q q =>
  ⟨d, e, dp_ex ex h1, dp_ex ex h2, hs, hs2, by rw [hb, Bool.not_not]; exact q H1 (Ex.refl H1)⟩

end Su
namespace Su
/-! ### for i, x in enumerate(xs) -/
theorem s_forE {K : PySem.W.Frag} {a : Addr} {xs : List V} {g : TG} {tb : TS} {D : Ends} {σ : L2.St} {H : Hp} {ta : TA} (h : EvA ta σ H [.ref a]) (hx : SqL K H a xs) (Pv : Nat → L2.St → Hp → Prop) (h0 : ∀ H1, Ex H H1 → Pv 0 σ H1) (hl : ∀ i σ' H', i ≤ xs.length → Pv i σ' H' → SqL K H' a xs)
    (hs : ∀ i x T σ' Hc, xs[i]? = some x → Pv i σ' Hc → Hc T = none → ∃ σ2, Tgt g (.ref T) σ' σ2 (upd Hc T (.tup [.int (i : Nat), x])) ∧ tb { D with nx := Pv (i + 1), ct := Pv (i + 1), bk := D.nx } σ2 (upd Hc T (.tup [.int (i : Nat), x])))
    (hd : ∀ σ' H', Pv xs.length σ' H' → D.nx σ' H') : tFor (iEnum K ta) g tb D σ H :=
  h H (Ex.refl H) _ fun H1 e1 => ⟨a, xs, rfl, ex_l e1 hx, by
    refine ⟨fun i m σ' H' => m = xs.length - i ∧ i ≤ xs.length ∧ Pv i σ' H', ⟨xs.length, by simp, Nat.zero_le _, h0 H1 e1⟩, ?_⟩
    rintro i m σ' H' ⟨rfl, hi, p⟩
    have hX := hl i σ' H' hi p
    by_cases hlt : i < xs.length
    · refine .inr ⟨⟨xs, xs[i], hX, List.getElem?_eq_getElem hlt⟩, Pv (i + 1), fun σ2 H2 p' => ⟨xs.length - (i + 1), by omega, rfl, hlt, p'⟩, fun y H2 hy => ?_⟩
      obtain ⟨T, x, rfl, nT, rfl, hxx⟩ := hy
      obtain ⟨σ2, h1, h2⟩ := hs i x T σ' H' (hxx xs hX) p nT
      exact h1 _ (Ex.refl _) _ h2
    · have ei : i = xs.length := by omega
      subst ei
      exact .inl ⟨⟨xs, hX, Nat.le_refl _⟩, hd σ' H' p⟩⟩

end Su
namespace Su
/-! ### o[i] += e of a list; [e] * n -/
section
variable {X : Cx}
def rGetL (K : PySem.W.Frag) : V → V → Hp → VK → Prop := fun x y H Q => ∃ p xs i v, x = .ref p ∧ y = .int i ∧ 0 ≤ i ∧ SqL K H p xs ∧ atI xs i = some v ∧ Q v H
theorem get_list : PGet X (rGetL X.K) := by
  intro pins s σ H x y v u Q I rx ry h
  obtain ⟨p, xs, i, z, rfl, rfl, h0, hq, he, q⟩ := h
  cases rx
  obtain ⟨t, rfl⟩ := ry
  obtain ⟨its, r, pl, hz⟩ := I.list hq
  obtain ⟨j, h1, h2, h3, h4, h5⟩ := atI_get he
  obtain ⟨w, ew, rw'⟩ := r.get h2
  have hl := r.length
  have hn := line63
  have hj : i.toNat = j := by
    rw [seqIndex_of h0 h5] at h1
    exact Option.some.inj h1
  exact wpAny_getItem_list pl.isList h0 (by omega) (by rw [hj]; simpa using ew) ⟨z, H, I, rw', q⟩
end
theorem q_augL {to ti te : TE} {K : PySem.W.Frag} {σ : L2.St} {H : Hp} {D : Ends} {tz : TS} {l : Addr} {xs : List V} {z a b : Int} {j : Nat} {f : Int → Int → Int} (hl : H l = some (.lst xs)) (ho : Ev to σ H (.ref l)) (hi : Ev ti σ H (.int z)) (hz : z = (j : Int)) (hx : xs[j]? = some (.int a)) (h : Ev te σ H (.int b))
    (k : ∀ H1, Ex H H1 → tz D σ (upd H1 l (.lst (xs.set j (.int (f a b)))))) : tSeq (tAugS to ti te (rGetL K) (ipI f) rSetL) tz D σ H := by
  have hj : j < xs.length := (List.getElem?_eq_some_iff.mp hx).1
  refine ho H (Ex.refl H) _ fun H1 e1 => hi H1 e1 _ fun H2 e2 => ?_
  refine ⟨l, xs, z, .int a, rfl, rfl, by omega, sq_of (e2 l _ (e1 l _ hl)), at_of hz hx, h H2 (e1.trans e2) _ fun H3 e3 => ?_⟩
  refine ⟨a, b, rfl, rfl, l, xs, z, j, rfl, rfl, e3 l _ (e2 l _ (e1 l _ hl)), ?_, k H3 ((e1.trans e2).trans e3)⟩
  rw [hz]
  exact ixN_nat hj
theorem st_lastAugL {to ti te : TE} {K : PySem.W.Frag} {σ : L2.St} {H : Hp} {D : Ends} {l : Addr} {xs : List V} {z a b : Int} {j : Nat} {f : Int → Int → Int} (hl : H l = some (.lst xs)) (ho : Ev to σ H (.ref l)) (hi : Ev ti σ H (.int z)) (hz : z = (j : Int)) (hx : xs[j]? = some (.int a)) (h : Ev te σ H (.int b))
    (k : ∀ H1, Ex H H1 → D.nx σ (upd H1 l (.lst (xs.set j (.int (f a b)))))) : tAugS to ti te (rGetL K) (ipI f) rSetL D σ H := q_augL (D := D) (tz := fun D' σ' H' => D'.nx σ' H') hl ho hi hz hx h k
theorem flat1 {v : V} : ∀ n : Nat, (List.replicate n [v]).flatten = List.replicate n v
  | 0 => rfl
  | n + 1 => by rw [List.replicate_succ, List.replicate_succ, List.flatten_cons, flat1 n]; rfl
theorem el_rep1 {ta tb : TE} {σ : L2.St} {H : Hp} {v : V} {k : Int} (ha : EvL ta σ H [v]) (hb : Ev tb σ H (.int k)) (h0 : 0 ≤ k) (h1 : k ≤ 100000) : EvL (tOp rRep ta tb) σ H (List.replicate k.toNat v) := fun H1 e Q q =>
  ha H1 e _ fun p H2 hp e2 h2 => hb H2 (e.trans e2) _ fun H3 e3 => ⟨p, k, [v], rfl, rfl, e3 p _ h2, by omega, by omega, sz_of (by show 1 * k.toNat ≤ _; omega), fun r hr => by
    rw [flat1]
    exact q r _ (fresh_back (e2.trans e3) hr) ((e2.trans e3).trans (Ex.new hr)) upd_same⟩

end Su
namespace Su
theorem lay_of_shaped {d : PyData} (h : SeqAt.shaped d = true) : d.canLay0 = true := (Bool.and_eq_true_iff.mp h).1
/-- two lists of windows that are alike -/
theorem rv_neD {K : PySem.W.Frag} {H : Hp} {x y : V} {d : PyData} (h1 : Dp K H x d) (h2 : Dp K H y d) (hs : SeqAt.shaped d = true) : RV (rNeD K) x y H (.bl false) := fun H1 e Q q =>
  ⟨d, d, dp_ex e h1, dp_ex e h2, hs, hs, by rw [SeqAt.eqv_refl d (lay_of_shaped hs)]; exact q H1 (Ex.refl H1)⟩
theorem rv_eqD {K : PySem.W.Frag} {H : Hp} {x y : V} {d : PyData} (h1 : Dp K H x d) (h2 : Dp K H y d) (hs : SeqAt.shaped d = true) : RV (rEqD K) x y H (.bl true) := fun H1 e Q q =>
  ⟨d, d, dp_ex e h1, dp_ex e h2, hs, hs, by rw [SeqAt.eqv_refl d (lay_of_shaped hs)]; exact q H1 (Ex.refl H1)⟩
def intD (ns : List Int) : PyData := .list (ns.map .int)
theorem dp_ints {K : PySem.W.Frag} {H : Hp} {l : Addr} {ns : List Int} (hl : SqL K H l (ns.map V.int)) : Dp K H (.ref l) (intD ns) := .lst hl (dpa_of V.int PyData.int ns fun i _ => .int i)
theorem pl_ints {ns : List Int} (h : ns.length ≤ 1000) : PlD 1 (intD ns) := .list (by rw [List.length_map]; exact h) fun x hx => by
  obtain ⟨i, _, rfl⟩ := List.mem_map.mp hx
  exact .int i
theorem shaped_ints (ns : List Int) : SeqAt.shaped (intD ns) = true := by
  have h1 : ∀ l : List Int, PyData.canLayAll0 (l.map .int) = true := by
    intro l
    induction l with
    | nil => simp [PyData.canLayAll0]
    | cons a r ih => simp [PyData.canLayAll0, PyData.canLay0, ih]
  have h2 : ∀ l : List Int, PyData.depthAll (l.map .int) = 0 := by
    intro l
    induction l with
    | nil => simp [PyData.depthAll]
    | cons a r ih => simp [PyData.depthAll, PyData.depth, ih]
  unfold SeqAt.shaped intD
  rw [Bool.and_eq_true]
  refine ⟨?_, ?_⟩
  · simp only [PyData.canLay0]
    exact h1 ns
  · simp only [PyData.depth]
    have := h2 ns
    exact decide_eq_true (by omega)

end Su
namespace Su
/-! ### windows: a list of pairs -/
abbrev Win := Addr × Int × Int
def refs (qs : List Win) : List V := qs.map fun q => V.ref q.1
def TW (H : Hp) (qs : List Win) : Prop := ∀ q ∈ qs, H q.1 = some (.tup [.int q.2.1, .int q.2.2])
theorem TW.ex {H H' : Hp} {qs : List Win} (h : TW H qs) (e : Ex H H') : TW H' qs := fun q hq => e _ _ (h q hq)
theorem TW.upd {H : Hp} {qs : List Win} {p : Addr} {xs ys : List V} (h : TW H qs) (hp : H p = some (.lst xs)) : TW (upd H p (.lst ys)) qs := fun q hq => by
  rw [upd_ne (ne_of (h q hq) hp (fun z => nomatch z))]
  exact h q hq
theorem TW.nil {H : Hp} : TW H [] := fun q hq => absurd hq List.not_mem_nil
theorem TW.add {H : Hp} {qs : List Win} {q : Win} (h : TW H qs) (hq : H q.1 = some (.tup [.int q.2.1, .int q.2.2])) : TW H (qs ++ [q]) := fun r hr => by
  rcases List.mem_append.mp hr with h' | h'
  · exact h r h'
  · obtain rfl := List.mem_singleton.mp h'
    exact hq
theorem refs_at {qs : List Win} {i : Nat} {x : V} (h : (refs qs)[i]? = some x) : ∃ q, qs[i]? = some q ∧ x = .ref q.1 := by
  unfold refs at h
  rw [List.getElem?_map] at h
  cases hc : qs[i]? with
  | none => rw [hc] at h; cases h
  | some c => rw [hc] at h; exact ⟨c, rfl, (Option.some.inj h).symm⟩
theorem refs_len {qs : List Win} : (refs qs).length = qs.length := List.length_map _
/-- windows[i][0], windows[i][1] -/
theorem ev_win {K : PySem.W.Frag} {ta tb : TE} {σ : L2.St} {H : Hp} {l : Addr} {qs : List Win} {i : Nat} {q : Win} (ha : Ev ta σ H (.ref l)) (hb : Ev tb σ H (.int (i : Nat))) (hl : SqL K H l (refs qs)) (hq : qs[i]? = some q) : Ev (tOp (rIxL K) ta tb) σ H (.ref q.1) :=
  ev_op ha hb (rv_ixL hl (atI_nat (by unfold refs; rw [List.getElem?_map, hq]; rfl)))
theorem ev_w0 {K : PySem.W.Frag} {ta : TE} {σ : L2.St} {H : Hp} {q : Win} (ha : Ev ta σ H (.ref q.1)) (hq : H q.1 = some (.tup [.int q.2.1, .int q.2.2])) : Ev (tOp (rIxT K) ta (tC (.int 0))) σ H (.int q.2.1) := ev_op ha ev_c (rv_ixT (st_of hq) rfl)
theorem ev_w1 {K : PySem.W.Frag} {ta : TE} {σ : L2.St} {H : Hp} {q : Win} (ha : Ev ta σ H (.ref q.1)) (hq : H q.1 = some (.tup [.int q.2.1, .int q.2.2])) : Ev (tOp (rIxT K) ta (tC (.int 1))) σ H (.int q.2.2) := ev_op ha ev_c (rv_ixT (st_of hq) rfl)
def winD (qs : List Win) : PyData := .list (qs.map fun q => .tuple [.int q.2.1, .int q.2.2])
theorem dp_win {K : PySem.W.Frag} {H : Hp} {l : Addr} {qs : List Win} (hl : SqL K H l (refs qs)) (ht : TW H qs) : Dp K H (.ref l) (winD qs) :=
  .lst hl (dpa_of (fun q : Win => V.ref q.1) (fun q => .tuple [.int q.2.1, .int q.2.2]) qs fun q hq => .tup (st_of (ht q hq)) (.cons (.int _) (.cons (.int _) .nil)))
theorem shaped_win (qs : List Win) : SeqAt.shaped (winD qs) = true := by
  have h1 : ∀ l : List Win, PyData.canLayAll0 (l.map fun q => .tuple [.int q.2.1, .int q.2.2]) = true := by
    intro l
    induction l with
    | nil => simp [PyData.canLayAll0]
    | cons a r ih => simp [PyData.canLayAll0, PyData.canLay0, ih]
  have h2 : ∀ l : List Win, PyData.depthAll (l.map fun q => .tuple [.int q.2.1, .int q.2.2]) ≤ 1 := by
    intro l
    induction l with
    | nil => simp [PyData.depthAll]
    | cons a r ih =>
      simp only [List.map_cons, PyData.depthAll, PyData.depth]
      omega
  unfold SeqAt.shaped winD
  rw [Bool.and_eq_true]
  refine ⟨?_, ?_⟩
  · simp only [PyData.canLay0]
    exact h1 qs
  · simp only [PyData.depth]
    have := h2 qs
    exact decide_eq_true (by omega)

end Su
namespace Su
/-! ### is_order -/
theorem eqv_ints (a b : List Int) : PyData.eqv (intD a) (intD b) = decide (a = b) := by
  unfold intD
  rw [PyData.eqv]
  exact PySem.W.ked_eqvAll a b
theorem sorted_unique : ∀ {l m : List Int}, l.Pairwise (· ≤ ·) → m.Pairwise (· ≤ ·) → l.Perm m → l = m
  | [], m, _, _, h => (List.nil_perm.mp h).symm
  | a :: r, [], _, _, h => absurd h.length_eq (by rw [List.length_cons]; exact fun z => by cases z)
  | a :: r, b :: s, hl, hm, h => by
    obtain ⟨l1, l2⟩ := List.pairwise_cons.mp hl
    obtain ⟨m1, m2⟩ := List.pairwise_cons.mp hm
    have e : a = b := by
      have h1 : a ∈ b :: s := h.mem_iff.mp List.mem_cons_self
      have h2 : b ∈ a :: r := h.mem_iff.mpr List.mem_cons_self
      rcases List.mem_cons.mp h1 with e | h1
      · exact e
      · rcases List.mem_cons.mp h2 with e | h2
        · exact e.symm
        · have := l1 b h2
          have := m1 a h1
          omega
    subst e
    rw [sorted_unique l2 m2 ((List.perm_cons a).mp h)]
def sortI (ns : List Int) : List Int := ns.mergeSort fun a b => decide (a ≤ b)
theorem sortI_perm (ns : List Int) : (sortI ns).Perm ns := List.mergeSort_perm _ _
theorem sortI_sorted (ns : List Int) : (sortI ns).Pairwise (· ≤ ·) := by
  have h := List.pairwise_mergeSort (le := fun a b : Int => decide (a ≤ b)) (fun a b c h1 h2 => by
    have := of_decide_eq_true h1
    have := of_decide_eq_true h2
    exact decide_eq_true (by omega)) (fun a b => by
    rw [Bool.or_eq_true, decide_eq_true_eq, decide_eq_true_eq]
    omega) ns
  exact h.imp fun h => of_decide_eq_true h
def rgI (n : Nat) : List Int := (List.range n).map fun i : Nat => (i : Int)
theorem rgI_sorted (n : Nat) : (rgI n).Pairwise (· ≤ ·) := by
  unfold rgI
  rw [List.pairwise_map]
  exact List.pairwise_lt_range.imp fun {i j} h => by omega
theorem sortI_eq (ns : List Int) (n : Nat) : sortI ns = rgI n ↔ ns.Perm (rgI n) :=
  ⟨fun h => h ▸ (sortI_perm ns).symm, fun h => sorted_unique (sortI_sorted ns) (rgI_sorted n) ((sortI_perm ns).trans h)⟩
def inRound (ws : List (Int × Int)) (ns : List Int) (i : Nat) : Bool := match ns[i]? with
  | some n => match ws[n.toNat]? with
    | some w => decide (w.1 ≤ 1 + (i : Int)) && decide (1 + (i : Int) ≤ w.2)
    | none => false
  | none => false
def isOrd (ws : List (Int × Int)) (ns : List Int) : Bool := decide (sortI ns = rgI ws.length) && ((List.range ns.length).map (inRound ws ns)).all id
section
variable {P : Program} {w : World} {K : PySem.W.Frag} {mg : Str → Option Value} {base : Heap}
theorem el_sortedI {σ : L2.St} {H : Hp} {te : TE} {a : Addr} {ns : List Int} (h : Ev te σ H (.ref a)) (hs : SqL K H a (ns.map V.int)) : EvL (tCB (rSortedI K) (tCons te tNil)) σ H ((sortI ns).map V.int) := fun H0 e Q q =>
  h H0 e _ fun H1 e1 => ⟨a, ns, rfl, ex_l (e.trans e1) hs, fun ns' p hp ho hn => by
    obtain rfl : ns' = sortI ns := sorted_unique ho (sortI_sorted ns) (hp.trans (sortI_perm ns).symm)
    exact q p _ (fresh_back e1 hn) (e1.trans (Ex.new hn)) upd_same⟩
theorem el_rgI {σ : L2.St} {H : Hp} {te : TE} {n : Nat} (h : Ev te σ H (.int (n : Nat))) (hn : n ≤ 16000000) : EvL (tLstRg (tRg1 te)) σ H ((rgI n).map V.int) := fun H0 e Q q =>
  h H0 e _ fun H1 e1 => ⟨n, rfl, RgOk.of_le (by omega) (by omega) (by omega) (by omega), fun p hp => q p _ (fresh_back e1 hp) (e1.trans (Ex.new hp)) (by
    rw [upd_same]
    unfold rgV rgI
    rw [List.map_map, Int.sub_zero, Int.toNat_natCast]
    congr 2
    apply List.map_congr_left
    intro i _
    show V.int (0 + (i : Int)) = V.int (i : Int)
    rw [Int.zero_add])⟩
theorem ev_allB {σ : L2.St} {H : Hp} {te : TE} {bs : List Bool} (h : EvL te σ H (bs.map V.bl)) : Ev (tCB (rAll K) (tCons te tNil)) σ H (.bl (bs.all id)) := fun H1 e Q q =>
  h H1 e _ fun p H2 _ e2 h2 => ⟨p, bs, rfl, sq_of h2, q H2 e2⟩
end

end Su
namespace Su
/-! ### lists of natural numbers as values -/
def natI (l : List Nat) : List Int := l.map fun k : Nat => (k : Int)
theorem natI_len (l : List Nat) : (natI l).length = l.length := List.length_map _
theorem nat_given (l : List Nat) (p : Nat → Bool) (v : Nat → V) : given l.length (fun i => p (l.getD i 0)) (fun i => v (l.getD i 0)) = (l.filter p).map v := by
  have h : (List.range l.length).map (fun i => l.getD i 0) = l := by
    apply List.ext_getElem?
    intro i
    rw [List.getElem?_map]
    by_cases hi : i < l.length
    · rw [List.getElem?_range hi, List.getElem?_eq_getElem hi]
      show some (l.getD i 0) = _
      rw [List.getD_eq_getElem?_getD, List.getElem?_eq_getElem hi]
      rfl
    · rw [List.getElem?_eq_none (by rw [List.length_range]; omega), List.getElem?_eq_none (by omega)]
      rfl
  conv => rhs; rw [← h]
  unfold given
  rw [List.filter_map, List.map_map]
  rfl
theorem nat_given1 (l : List Nat) (v : Nat → V) : given l.length (fun _ => true) (fun i => v (l.getD i 0)) = l.map v := by
  have z := nat_given l (fun _ => true) v
  rw [List.filter_eq_self.mpr (fun _ _ => rfl)] at z
  exact z
theorem nat_at {l : List Nat} {i : Nat} {x : V} (h : ((natI l).map V.int)[i]? = some x) : ∃ k, x = .int (k : Nat) ∧ l[i]? = some k ∧ l.getD i 0 = k := by
  unfold natI at h
  rw [List.map_map, List.getElem?_map] at h
  cases hc : l[i]? with
  | none => rw [hc] at h; cases h
  | some c => rw [hc] at h; exact ⟨c, (Option.some.inj h).symm, rfl, by rw [List.getD_eq_getElem?_getD, hc]; rfl⟩
theorem natI_int (l : List Nat) : (natI l).map V.int = l.map fun k : Nat => V.int (k : Nat) := by
  unfold natI
  rw [List.map_map]
  rfl
theorem nat_eqd {i j : Nat} : decide (V.int (i : Nat) = V.int (j : Nat)) = decide (i = j) := by
  by_cases h : i = j
  · rw [h, decide_eq_true rfl, decide_eq_true rfl]
  · rw [decide_eq_false h, decide_eq_false (fun z => h (by have := V.int.inj z; omega))]
theorem nat_perm {r : List Nat} {n : Nat} : (natI r).Perm (rgI n) ↔ r.Perm (List.range n) := by
  unfold natI rgI
  refine ⟨fun h => ?_, fun h => h.map _⟩
  have := h.map Int.toNat
  rw [List.map_map, List.map_map] at this
  have e : ∀ l : List Nat, l.map (Int.toNat ∘ fun k : Nat => (k : Int)) = l := fun l => by
    conv => rhs; rw [← List.map_id l]
    apply List.map_congr_left
    intro k _
    exact Int.toNat_natCast k
  rw [e, e] at this
  exact this

end Su
namespace Su
def insB (ws : List (Int × Int)) (a b : Int) (i : Nat) : Bool := match ws[i]? with
  | some w => decide (a ≤ w.1) && decide (w.2 ≤ b)
  | none => false
def inside (ws : List (Int × Int)) (a b : Int) : List Int := ((List.range ws.length).filter (insB ws a b)).map fun i : Nat => (i : Int)
theorem inside_given (ws : List (Int × Int)) (a b : Int) : (inside ws a b).map V.int = given ws.length (insB ws a b) fun i => .int (i : Nat) := by
  unfold inside given
  rw [List.map_map]
  rfl
theorem inside_len (ws : List (Int × Int)) (a b : Int) : (inside ws a b).length ≤ ws.length := by
  unfold inside
  rw [List.length_map]
  have h := List.length_filter_le (insB ws a b) (List.range ws.length)
  rw [List.length_range] at h
  exact h
def wsOf (qs : List Win) : List (Int × Int) := qs.map (·.2)
theorem ws_at {qs : List Win} {i : Nat} {q : Win} (h : qs[i]? = some q) : (wsOf qs)[i]? = some q.2 := by unfold wsOf; rw [List.getElem?_map, h]; rfl
theorem ws_len {qs : List Win} : (wsOf qs).length = qs.length := List.length_map _

end Su
namespace Su
section
variable {P : Program} {w : World} {K : PySem.W.Frag} {mg : Str → Option Value} {base : Heap}
def spWithin (K : PySem.W.Frag) : Sp := fun vs H Q _ => ∃ (l : Addr) (qs : List Win) (a b : Int), vs = [.ref l, .int a, .int b] ∧ SqL K H l (refs qs) ∧ TW H qs ∧ qs.length ≤ 1000 ∧
  ∀ H' p, H p = none → Ex H H' → H' p = some (.lst ((inside (wsOf qs) a b).map V.int)) → Q (.ref p) H'
theorem spL_within {l : Addr} {qs : List Win} {a b : Int} {H : Hp} (hl : SqL K H l (refs qs)) (ht : TW H qs) (hn : qs.length ≤ 1000) : SpL (spWithin K) [.ref l, .int a, .int b] H ((inside (wsOf qs) a b).map V.int) :=
  fun H1 e Q q _ => ⟨l, qs, a, b, rfl, ex_l e hl, ht.ex e, hn, fun H' p hp e' h' => q p H' hp e' h'⟩
theorem ok_within {f : Addr} {fd : FuncData} {k : Nat} (F : Fun K "within" "within" s_within f fd) (T : Top K mg) : FnOk P w K mg base CX0 (k + 1) f fd ["windows", "a", "b"] (spWithin K) := by
  have nd := sc_within.nd
  refine F.ok sc_within (fun vs H Q E h => ?_) (fun cdv A outer s H vs Q E hr h => ?_)
  · obtain ⟨l, qs, a, b, rfl, _⟩ := h
    rfl
  · obtain ⟨l, qs, a, b, rfl, hl, ht, hn, q⟩ := h
    refine ⟨_, (pss_one (ps_ret (pe_lc (own := [("at", 3), ("first", 4), ("last", 5)]) (g := gTup K 2 (gCons (gName 3) (gCons (gTup K 2 (gCons (gName 4) (gCons (gName 5) gNil))) gNil))) (tt := _) rfl nd (pi_enum (by rfl) T.m_enumerate (pa_cons (pv 0) pa_nil)) (blkOk_by (own := [("at", 3), ("first", 4), ("last", 5)]) (N := Su.N_within) (sc := defScope s_within) (by decide +kernel)) (fun _ _ _ _ _ => (pg_tup rfl (pgs_cons (pg_name (i := 3) nd rfl (.inl rfl)) (pgs_cons (pg_tup rfl (pgs_cons (pg_name (i := 4) nd rfl (.inl rfl)) (pgs_cons (pg_name (i := 5) nd rfl (.inl rfl)) pgs_nil))) pgs_nil)))) (fun _ _ _ _ _ => (pts_one (PW.pt (pw_and (pt_cmpR op_ge (pv 4) (pv 1) (nomark _)) (pw_and1 (pt_cmpR op_le (pv 5) (pv 2) (nomark _))))))) (fun _ _ _ _ _ => (pv 3))))), ?_⟩
    refine s_retL (xs := (inside (wsOf qs) a b).map V.int) ?_ fun p H1 hp e1 h1 => q H1 p hp e1 h1
    rw [inside_given, ws_len, ← refs_len]
    refine el_lcE _ _ (by walk_at "ea") hl (by rw [refs_len]; omega) fun i x Tt Hb eb gx hT => ?_
    obtain ⟨q, gq, rfl⟩ := refs_at gx
    have hq := ht.ex eb q (List.mem_of_getElem? gq)
    refine ⟨_, tg_two (st_of hT) tg_name (tg_two (st_of hq) tg_name tg_name), rfl, ?_, fun _ => by walk_at "ev"⟩
    refine et_is (by walk_at "et") ?_
    unfold insB
    rw [ws_at gq]
end

end Su
namespace Su
def roundsB (a b : Int) : Int := if b - a + 1 > 0 then b - a + 1 else 0
section
variable {P : Program} {w : World} {K : PySem.W.Frag} {mg : Str → Option Value} {base : Heap}
def spRounds : Sp := fun vs H Q _ => ∃ a b : Int, vs = [.int a, .int b] ∧ ∀ H', Ex H H' → Q (.int (roundsB a b)) H'
theorem spV_rounds {a b : Int} {H : Hp} : SpV spRounds [.int a, .int b] H (.int (roundsB a b)) := fun H1 _ Q q _ => ⟨a, b, rfl, q⟩
theorem ok_rounds_between {f : Addr} {fd : FuncData} {k : Nat} (F : Fun K "rounds_between" "rounds_between" s_rounds_between f fd) (T : Top K mg) : FnOk P w K mg base CX0 (k + 1) f fd ["a", "b"] spRounds := by
  have nd := sc_rounds_between.nd
  refine F.ok sc_rounds_between (fun vs H Q E h => ?_) (fun cdv A outer s H vs Q E hr h => ?_)
  · obtain ⟨a, b, rfl, _⟩ := h
    rfl
  · obtain ⟨a, b, rfl, q⟩ := h
    refine ⟨_, (pss_one (ps_ret (pe_callB (call_max2 rfl) (by rfl) T.m_max (by decide +kernel) (pa_cons pe_int (pa_cons (pe_op op_add (pe_op op_sub (pv 1) (pv 0)) pe_int) pa_nil))))), ?_⟩
    refine s_ret (by walk_at "ev") fun H1 e1 => ?_
    exact q H1 e1
end

end Su
namespace Su
open LamX NdefX
/-! ### min, max with a lambda as key: the lambda called -/
section
variable {X : Cx} {pins : List (Addr × Obj)} {σ : L2.St} {H : Hp} {s : Shared}
abbrev lamF (X : Cx) (params : Arguments) (scope : Scope) (c' : Addr) : NF := ⟨"<lambda>", X.env.qual ++ "<lambda>", params, [], scope, cloFrom X.env.cells scope.names [], c'⟩
abbrev lamO (X : Cx) (params : Arguments) (body : Expr) (scope : Scope) (pm : Value) (c' : Addr) (ctv : Value) : Obj := PySem.W.kla_obj "<lambda>" (X.env.qual ++ "<lambda>") params body scope (cloFrom X.env.cells scope.names []) pm c' ctv
theorem lam_call {A' : Around} {k : Nat} {f c' : Addr} {pm ctv : Value} {params : Arguments} {body : Expr} {scope : Scope} {N fr : List Str} {kx : Str} {x : V} {u : Value} {ws : List (Option V)} {tb : TE} {Q : VK}
    (I : Inv X pins σ H s) (e0 : Env0 X.prog X.w X.K X.mg X.base A' X.stack s H) (hr : Room (k + 1) A') (hf : s.heap.get? f = some (lamO X params body scope pm c' ctv)) (hc : H c' = some (CodeO c' (X.env.qual ++ "<lambda>")))
    (S : NScope N [kx] fr scope) (hbind : bindArgs (PySem.W.kla_fn "<lambda>" (X.env.qual ++ "<lambda>") params body scope (cloFrom X.env.cells scope.names []) pm (.ref c') ctv) ⟨[u], []⟩ = pure [(kx, u)])
    (C : CellsAt (cloFrom X.env.cells scope.names []) fr ws s.heap H) (r : L2.RelV x u) (hbody : PE (ncx CX0 X.prog X.w X.K X.mg X.base N (lamF X params scope c') f A' X.stack s H E0) body tb) (ht : tb (startF N [x] ws) H Q) :
    codeAny (model X.prog X.w) A' (.call (.ref f) ⟨[u], []⟩) (CR CX0 X.stack X.prog X.w H s Q E0) s := by
  obtain ⟨⟨oc, vs, t, hoc, hdc, hvc⟩, _, _⟩ := I.hok c' _ hc
  refine PySem.W.kla_callFunE hr.depth hf rfl S.co S.gen rfl ⟨c', oc, vs, t, rfl, hoc, hdc, hvc⟩ ?_
  rw [hbind]
  refine wpAny_pure (wpAny_newFunctionEnv S.nocell (fun y hy => by rw [List.mem_singleton.mp hy]; exact S.par kx List.mem_cons_self) (fun h₁ hns hsb => ⟨I.nolimit.fresh _ hsb, ?_⟩) S.kind)
  show codeAny _ _ (.expr body (envF (lamF X params scope c') f s.heap.objs.size)) _ _
  have J := inv_startN (CX := CX0) (E := E0) (N := N) (ps := [kx]) (us := [u]) (vs := [x]) (F := lamF X params scope c') (f := f) (tk := s.toks + ([(kx, u)] : List (Str × Value)).length) S hr.hd e0 rfl (.cons r .nil) C hns fun b o e => hsb.extBut b o (Nat.ne_of_lt (Heap.lt_size e)) (Heap.get?_push_of_some _ e)
  exact PySem.W.kla_codeExpr (wpAny_mono (hbody.run [] _ _ H Q J ht) (fun v s' ⟨w', H', J', rv, q⟩ => ⟨w', H', J'.os, J'.bare, J'.base, J'.hok, rv, q⟩) fun e s' hq => hq)
end
/-! ### what is known behind a call: all of before, and tuples -/
def hstar (H' H'' : Hp) : Hp := fun b => match H' b with
  | some o => some o
  | none => match H'' b with
    | some (.tup xs) => some (.tup xs)
    | _ => none
section
variable {H' H'' : Hp}
theorem hs_old {b : Addr} {o : HO} (e : H' b = some o) : hstar H' H'' b = some o := by unfold hstar; rw [e]
theorem hs_tup {b : Addr} {xs : List V} (ex : Ex H' H'') (e : H'' b = some (.tup xs)) : hstar H' H'' b = some (.tup xs) := by
  unfold hstar
  cases h : H' b with
  | some o => rw [ex b o h] at e; exact e
  | none => rw [e]
theorem hs_none {b : Addr} (e : H'' b = none) (n : H' b = none) : hstar H' H'' b = none := by unfold hstar; rw [n, e]
theorem hs_new {b : Addr} {o : HO} (e : hstar H' H'' b = some o) : H' b = some o ∨ (H' b = none ∧ ∃ xs, o = .tup xs ∧ H'' b = some (.tup xs)) := by
  unfold hstar at e
  cases h : H' b with
  | some o' => rw [h] at e; exact .inl e
  | none =>
    rw [h] at e
    cases h2 : H'' b with
    | none => rw [h2] at e; cases e
    | some o2 =>
      rw [h2] at e
      cases o2 with
      | tup xs => exact .inr ⟨rfl, xs, (Option.some.inj e).symm, rfl⟩
      | _ => cases e
theorem hs_ex : Ex H' (hstar H' H'') := fun b o e => hs_old e
theorem ok_star {P : Program} {w : World} {h0 h : Heap} {b : Addr} {o : HO} (ex : Ex H' H'') (x0 : ObjOk P w H' h0 b o) (x : ObjOk P w H'' h b o) : ObjOk P w (hstar H' H'') h b o := by
  induction o with
  | dT kvs =>
    obtain ⟨a1, a2, xs, a3, a4⟩ := x
    exact ⟨a1, a2, xs, L2.Paired.mapP a3 fun p q ⟨z1, z2, z3⟩ => ⟨z1, hs_tup ex z2, z3⟩, a4⟩
  | ins C dx fs => exact ⟨hs_old x0.1, x.2⟩
  | frz ob u ih => exact ⟨x.1, ih x0.2 x.2⟩
  | _ => exact x
theorem hok_star {P : Program} {w : World} {h0 h : Heap} (ex : Ex H' H'') (k0 : HOk P w H' h0) (k : HOk P w H'' h) : HOk P w (hstar H' H'') h := fun b o e => by
  rcases hs_new e with e1 | ⟨_, xs, rfl, e2⟩
  · exact ok_star ex (k0 b o e1) (k b o (ex b o e1))
  · exact k b _ e2
theorem un_star {fs xx : List Addr} {h h' : Heap} (u : Un fs xx H' H'' h h') : Un fs xx H' (hstar H' H'') h h' :=
  ⟨u.keep, u.slot, fun b o e n hx => hs_none (u.free b o e n hx) n, u.there, fun b xs e => hs_old e, fun b o w e => hs_old e, fun b ps e => ⟨#[], by rw [hs_old e]; simp⟩⟩
end

/-! ### one item's key -/
structure KJ (X : Cx) (pins : List (Addr × Obj)) (σ : L2.St) (Hf : Hp) (f : Addr) (fo : Obj) (S It : Addr) (s : Shared) : Prop where
  ex : ∃ H', Inv X pins σ H' s ∧ Ex Hf H' ∧ (∀ b o, H' b = some o → Hf b = some o ∨ ∃ xs, o = .tup xs) ∧ FpOk X pins H' S ∧ FpOk X pins H' It ∧ H' f = none ∧ s.heap.get? f = some fo
section
variable {X : Cx} {pins : List (Addr × Obj)} {σ : L2.St} {Hf : Hp} {f : Addr} {fo : Obj} {S It : Addr} {s s' : Shared}
theorem KJ.keep (j : KJ X pins σ Hf f fo S It s) (hS : f ≠ S) (hI : f ≠ It) (m : Moved (S :: [It]) (fun a b => b = a) s s') : KJ X pins σ Hf f fo S It s' := by
  obtain ⟨H', I, e, n, fs, fi, hf, ho⟩ := j
  have J := I.turnedL (t' := s'.toks) (ch := [S, It]) (h' := s'.heap) (fun b o hb => m.heap b o hb) (fun b hb => by
    rcases List.mem_cons.mp hb with z | z
    · rw [z]; exact fs
    · rw [List.mem_singleton.mp z]; exact fi)
  have g1 := m.gens
  have g2 := m.drawn
  have g3 := m.os
  have hk := m.heap f fo (fun z => by
    rcases List.mem_cons.mp z with z | z
    · exact hS z
    · exact hI (List.mem_singleton.mp z)) ho
  obtain ⟨h', gg, dd, tt, oo⟩ := s'
  simp only at g1 g2 g3
  subst g1 g2 g3
  exact ⟨H', J, e, n, fs, fi, hf, hk⟩
theorem fp_frs {H' : Hp} {b : Addr} (I : Inv X pins σ H' s) (h : FpOk X pins H' b) : b ∉ frs X.stack := fun z => by
  rcases List.mem_cons.mp (I.stkSub b z) with e | e
  · exact h.2.1 e
  · exact h.2.2.1 e
theorem key_core {k : Nat} {c' : Addr} {pm ctv : Value} {params : Arguments} {body : Expr} {scope : Scope} {N fr : List Str} {js : List Nat} {kx : Str} {x : V} {v : Value} {tb : TE} {R : V → Hp → Hp → Prop} {oS oI : Obj} {Q E : Value → Shared → Prop}
    (j : KJ X pins σ Hf f (lamO X params body scope pm c' ctv) S It s) (hr : Room (k + 1) X.A.in1) (hc : Hf c' = some (CodeO c' (X.env.qual ++ "<lambda>"))) (NS : NScope N [kx] fr scope)
    (hbind : ∀ u : Value, bindArgs (PySem.W.kla_fn "<lambda>" (X.env.qual ++ "<lambda>") params body scope (cloFrom X.env.cells scope.names []) pm (.ref c') ctv) ⟨[u], []⟩ = pure [(kx, u)]) (cp : X.Ok → Caps X (cloFrom X.env.cells scope.names []) fr js) (hfr : f ∉ frs X.stack)
    (hbody : ∀ (s : Shared) (H : Hp), PE (ncx CX0 X.prog X.w X.K X.mg X.base N (lamF X params scope c') f X.A.in1 X.stack s H E0) body tb) (r : L2.RelV x v) (hS : s.heap.get? S = some oS) (hI : s.heap.get? It = some oI)
    (ht : ∀ H', Ex Hf H' → tb (startF N [x] (js.map (slotAt σ))) H' (fun y H2 => R y H' H2)) (hR : ∀ y H' H2, R y H' H2 → Ex H' H2)
    (kk : ∀ kv y s' H' H'', Inv X pins σ H' s → Ex Hf H' → (∀ b o, H' b = some o → Hf b = some o ∨ ∃ xs, o = .tup xs) → FpOk X pins H' S → FpOk X pins H' It → R y H' H'' → L2.RelV y kv → Un (frs X.stack) [] H' H'' s.heap s'.heap → HOk X.prog X.w H'' s'.heap →
      Inv X pins σ (hstar H' H'') s' → KJ X pins σ Hf f (lamO X params body scope pm c' ctv) S It s' → s'.heap.get? S = some oS → s'.heap.get? It = some oI → Q kv s') : wpAny (model X.prog X.w) X.A.in1 (call (.ref f) [v]) Q E s := by
  obtain ⟨H', I, e, n, fs, fi, hf, ho⟩ := j
  have rc := lam_call (k := k) I I.env0.in1 hr ho (e _ _ hc) NS (hbind v) (cells_of I (cp I.ok)) r (hbody s H') (ht H' e)
  refine wpAny_call (codeAny_mono rc fun r s' hq => ?_)
  cases r with
  | error e => exact (show False from hq).elim
  | ok fl =>
    cases fl with
    | next => exact False.elim hq
    | brk => exact False.elim hq
    | cont => exact False.elim hq
    | ret u =>
      obtain ⟨y, H'', os, bare, un, hok, rv, hRy⟩ := hq
      have ex2 := hR y H' H'' hRy
      have J : Inv X pins σ (hstar H' H'') s' := I.call' os (un_star un) (hok_star ex2 I.hok hok) bare fun b z => absurd z (by simp)
      have nS : hstar H' H'' S = none := hs_none (un.free S oS hS fs.1 (by simp)) fs.1
      have nI : hstar H' H'' It = none := hs_none (un.free It oI hI fi.1 (by simp)) fi.1
      have nf : hstar H' H'' f = none := hs_none (un.free f _ ho hf (by simp)) hf
      exact kk u y s' H' H'' I e n fs fi hRy rv un hok J ⟨_, J, e.trans hs_ex, fun b o h => (hs_new h).elim (fun z => n b o z) (fun z => .inr ⟨z.2.choose, z.2.choose_spec.1⟩), ⟨nS, fs.2⟩, ⟨nI, fi.2⟩, nf, un.keep f _ ho hf hfr (by simp)⟩
        (un.keep S oS hS fs.1 (fp_frs I fs) (by simp)) (un.keep It oI hI fi.1 (fp_frs I fi) (by simp))
end
/-! ### keys that are tuples of whole numbers; keys that are whole numbers -/
def KVt (X : Cx) (Hf : Hp) (S It : Addr) (ks : Nat → List Int) (i : Nat) (kv : Value) (s : Shared) : Prop := ∃ (a : Addr) (items : Array Value), kv = .ref a ∧ IsTup s.heap a items ∧ IntsAre items.toList (ks i) ∧ Hf a = none ∧ a ≠ S ∧ a ≠ It ∧ a ∉ frs X.stack
def KVi (ks : Nat → Int) (i : Nat) (kv : Value) (_ : Shared) : Prop := ∃ t, kv = .int (ks i) t
theorem ints_vals : ∀ {its : List Value} {ns : List Int} {xs : List V}, IntsAre its ns → Vals xs its → xs = ns.map V.int := fun h r => Vals.inj r (vals_of_ints h)
theorem tup_items {h : Heap} {a : Addr} {i1 i2 : Array Value} (h1 : IsTup h a i1) (h2 : IsTup h a i2) : i1 = i2 := by
  obtain ⟨o1, e1, _, n1, d1⟩ := h1
  obtain ⟨o2, e2, _, n2, d2⟩ := h2
  rw [e1] at e2
  cases e2
  rw [d1] at d2
  cases d2
  rfl
section
variable {X : Cx} {pins : List (Addr × Obj)} {σ : L2.St} {Hf : Hp} {f l It S c' : Addr} {pm ctv : Value} {od : Obj} {k : Nat} {params : Arguments} {body : Expr} {scope : Scope} {N fr : List Str} {js : List Nat} {kx : Str} {xs : List V} {its : List Value} {tb : TE}
theorem keyrunT {ks : Nat → List Int} (hl : Hf l = some (.frz od (.lst xs))) (rx : Vals xs its) (hfS : f ≠ S) (hfI : f ≠ It) (hr : Room (k + 1) X.A.in1) (hc : Hf c' = some (CodeO c' (X.env.qual ++ "<lambda>"))) (NS : NScope N [kx] fr scope)
    (hbind : ∀ u : Value, bindArgs (PySem.W.kla_fn "<lambda>" (X.env.qual ++ "<lambda>") params body scope (cloFrom X.env.cells scope.names []) pm (.ref c') ctv) ⟨[u], []⟩ = pure [(kx, u)]) (cp : X.Ok → Caps X (cloFrom X.env.cells scope.names []) fr js) (hfr : f ∉ frs X.stack)
    (hbody : ∀ (s : Shared) (H : Hp), PE (ncx CX0 X.prog X.w X.K X.mg X.base N (lamF X params scope c') f X.A.in1 X.stack s H E0) body tb)
    (ht : ∀ i x, xs[i]? = some x → EvU tb (startF N [x] (js.map (slotAt σ))) Hf ((ks i).map V.int)) :
    KeyRun X.prog X.w X.A.in1 (.ref f) .Lt S [It] (fun a b => b = a) its.toArray.size (fun i v => its.toArray[i]? = some v) (fun i s => s.heap.IsListIter It l i ∧ s.heap.IsList l its.toArray) (KJ X pins σ Hf f (lamO X params body scope pm c' ctv) S It) (KVt X Hf S It ks) (fun i j => HT.lexLt (ks i) (ks j)) where
  keep := fun s s' j m => j.keep hfS hfI m
  keepV := fun i kv s s' ⟨a, items, e, ht, hi, h0, h1, h2, h3⟩ m => ⟨a, items, e, by
    obtain ⟨o, ho, r⟩ := ht
    exact ⟨o, m.heap a o (fun z => by
      rcases List.mem_cons.mp z with z | z
      · exact h1 z
      · exact h2 (List.mem_singleton.mp z)) ho, r⟩, hi, h0, h1, h2, h3⟩
  turn := fun i v s o Q E hi hP hJ hst hS kq => by
    have hlen := rx.length
    have hi' : i < xs.length := by rw [hlen]; simpa using hi
    obtain ⟨u, hu, ru⟩ := rx.get (List.getElem?_eq_getElem hi')
    obtain rfl : u = v := by
      have : its[i]? = some v := by simpa using hP
      exact Option.some.inj (hu.symm.trans this)
    obtain ⟨⟨oI, hI, hI1, hI2⟩, ⟨oL, hL, hL1⟩⟩ := hst
    refine key_core (R := fun y H' H2 => ∃ p, y = .ref p ∧ H' p = none ∧ Ex H' H2 ∧ H2 p = some (.tup ((ks i).map V.int))) hJ hr hc NS hbind cp hfr hbody ru hS hI (fun H' e => ht i _ (List.getElem?_eq_getElem hi') H' e _ fun p H2 hp e2 h2 => ⟨p, rfl, hp, e2, h2⟩) (fun y H' H2 ⟨p, _, _, e, _⟩ => e) ?_
    rintro kv y s' H' H'' I e n fs fi ⟨p, rfl, hp, e2, h2⟩ rv un hok J KJ' hS' hI'
    obtain rfl : kv = Value.ref p := rv
    obtain ⟨_, it2, r2, t2⟩ := hok p _ h2
    have hstp : hstar H' H'' p = some (.tup ((ks i).map V.int)) := hs_tup e2 h2
    refine kq _ s' KJ' ⟨⟨oI, hI', hI1, hI2⟩, ⟨oL, ?_, hL1⟩⟩ hS' ⟨p, it2.toArray, rfl, t2, by simpa using ints_of_vals r2, ?_, fun z => ?_, fun z => ?_, fun z => ?_⟩ ?_
    · have q1 := (I.hok l _ (e _ _ hl)).1
      have q2 := (J.hok l _ (hs_old (e _ _ hl))).1
      rw [hL] at q1
      cases q1
      exact q2
    · cases hq : Hf p with
      | none => rfl
      | some o => rw [e p o hq] at hp; cases hp
    · rw [z, un.free S _ hS fs.1 (by simp)] at h2; cases h2
    · rw [z, un.free It _ hI fi.1 (by simp)] at h2; cases h2
    · rw [J.stkFree p z] at hstp; cases hstp
    · rintro j kj ⟨a, items, rfl, ta, ia, a0, a1, a2, a3⟩
      cases hq : H' a with
      | none =>
        obtain ⟨oa, ho, rest⟩ := ta
        exact ⟨a, items, rfl, ⟨oa, un.keep a oa ho hq a3 (by simp), rest⟩, ia, a0, a1, a2, a3⟩
      | some oo =>
        rcases n a oo hq with z | ⟨ys, rfl⟩
        · rw [a0] at z; cases z
        · obtain ⟨_, ja, ra, tja⟩ := I.hok a _ hq
          have ei := tup_items ta tja
          subst ei
          have ey := ints_vals (by simpa using ia) ra
          subst ey
          obtain ⟨_, jb, rb, tjb⟩ := hok a _ (un.tups a _ hq)
          exact ⟨a, jb.toArray, rfl, tjb, by simpa using ints_of_vals rb, a0, a1, a2, a3⟩
  cmp := fun i j ki kj s Q E hJ ⟨a, ia, ea, ta, na, _⟩ ⟨b, ib, eb, tb, nb, _⟩ q => by
    subst ea eb
    exact HT.lt_tupInts ta tb na nb hr.units0 q
end

section
variable {X : Cx} {pins : List (Addr × Obj)} {σ : L2.St} {Hf : Hp} {f l It S c' : Addr} {pm ctv : Value} {od : Obj} {k : Nat} {params : Arguments} {body : Expr} {scope : Scope} {N fr : List Str} {js : List Nat} {kx : Str} {xs : List V} {its : List Value} {tb : TE}
theorem keyrunI {ks : Nat → Int} (hl : Hf l = some (.frz od (.lst xs))) (rx : Vals xs its) (hfS : f ≠ S) (hfI : f ≠ It) (hr : Room (k + 1) X.A.in1) (hc : Hf c' = some (CodeO c' (X.env.qual ++ "<lambda>"))) (NS : NScope N [kx] fr scope)
    (hbind : ∀ u : Value, bindArgs (PySem.W.kla_fn "<lambda>" (X.env.qual ++ "<lambda>") params body scope (cloFrom X.env.cells scope.names []) pm (.ref c') ctv) ⟨[u], []⟩ = pure [(kx, u)]) (cp : X.Ok → Caps X (cloFrom X.env.cells scope.names []) fr js) (hfr : f ∉ frs X.stack)
    (hbody : ∀ (s : Shared) (H : Hp), PE (ncx CX0 X.prog X.w X.K X.mg X.base N (lamF X params scope c') f X.A.in1 X.stack s H E0) body tb)
    (ht : ∀ i x, xs[i]? = some x → Ev tb (startF N [x] (js.map (slotAt σ))) Hf (.int (ks i))) :
    KeyRun X.prog X.w X.A.in1 (.ref f) .Gt S [It] (fun a b => b = a) its.toArray.size (fun i v => its.toArray[i]? = some v) (fun i s => s.heap.IsListIter It l i ∧ s.heap.IsList l its.toArray) (KJ X pins σ Hf f (lamO X params body scope pm c' ctv) S It) (KVi ks) (fun i j => decide (ks j < ks i)) where
  keep := fun s s' j m => j.keep hfS hfI m
  keepV := fun i kv s s' h m => h
  turn := fun i v s o Q E hi hP hJ hst hS kq => by
    have hlen := rx.length
    have hi' : i < xs.length := by rw [hlen]; simpa using hi
    obtain ⟨u, hu, ru⟩ := rx.get (List.getElem?_eq_getElem hi')
    obtain rfl : u = v := by
      have : its[i]? = some v := by simpa using hP
      exact Option.some.inj (hu.symm.trans this)
    obtain ⟨⟨oI, hI, hI1, hI2⟩, ⟨oL, hL, hL1⟩⟩ := hst
    refine key_core (R := fun y H' H2 => y = .int (ks i) ∧ Ex H' H2) hJ hr hc NS hbind cp hfr hbody ru hS hI (fun H' e => ht i _ (List.getElem?_eq_getElem hi') H' e _ fun H2 e2 => ⟨rfl, e2⟩) (fun y H' H2 ⟨_, e⟩ => e) ?_
    rintro kv y s' H' H'' I e n fs fi ⟨rfl, e2⟩ rv un hok J KJ' hS' hI'
    refine kq _ s' KJ' ⟨⟨oI, hI', hI1, hI2⟩, ⟨oL, ?_, hL1⟩⟩ hS' rv fun j kj h => h
    have q1 := (I.hok l _ (e _ _ hl)).1
    have q2 := (J.hok l _ (hs_old (e _ _ hl))).1
    rw [hL] at q1
    cases q1
    exact q2
  cmp := fun i j ki kj s Q E hJ ⟨t1, e1⟩ ⟨t2, e2⟩ q => by
    subst e1 e2
    exact gt_int q
end

/-- min(e, key=lambda x: body) -/
def tMinT (T : List (Addr × Str)) (N : List Str) (js : List Nat) (te tb : TE) : TE := fun σ H Q => te σ H fun x H1 => ∃ (l : Addr) (xs : List V) (ks : Nat → List Int), x = .ref l ∧ H1 l = some (.lst xs) ∧ 0 < xs.length ∧ Tabs T H1 ∧ ∀ (od : Obj) (H2 : Hp), ExtN H1 H2 → Tabs T H2 →
  (∀ i x, xs[i]? = some x → EvU tb (startF N [x] (js.map (slotAt σ))) (upd H2 l (.frz od (.lst xs))) ((ks i).map V.int)) ∧ ∀ (H3 : Hp) (y : V), Ex H2 H3 → xs[argBest (fun i j => HT.lexLt (ks i) (ks j)) (xs.length - 1)]? = some y → Q y H3
theorem pe_minT {X : Cx} {T : List (Addr × Str)} {c P : Addr} {k : Nat} {kx nk : Str} {N fr : List Str} {js : List Nat} {te tb : TE} {e : Expr} {params : Arguments} {body : Expr} {scope : Scope} {p lpos kpos pos : Pos} (TB : TabB X.base X.mg c P) (hcode : X.env.code = .ref c) (hmT : (P, X.env.qual ++ "<lambda>") ∈ T) (hu : ∀ p ∈ T, p.1 = P → p.2 = X.env.qual ++ "<lambda>")
    (hg : Gl X "min") (hm : X.mg "min" = none) (hr : Room (k + 2) X.A) (ha : PA X [e] (tCons te tNil)) (NS : NScope N [kx] fr scope) (hnd : ndefB X.env.scope scope fr = true) (hjs : js.map (fun j => X.N[j]?) = fr.map some)
    (hbody : ∀ (f c' : Addr) (s : Shared) (H : Hp), Room k (X.A.in1.deeper (envF (lamF X params scope c') f s.heap.objs.size)) → PE (ncx CX0 X.prog X.w X.K X.mg X.base N (lamF X params scope c') f X.A.in1 X.stack s H E0) body tb)
    (hdef : defaultsOf params X.env = ([], []) := by rfl)
    (hbind : ∀ (q : Str) (cl : List (Str × Addr)) (pm cv ctv u : Value), bindArgs (PySem.W.kla_fn "<lambda>" q params body scope cl pm cv ctv) ⟨[u], []⟩ = pure [(kx, u)] := by exact fun _ _ _ _ _ _ => rfl)
    (he : backTo pos (starEach [e] X.env) = (false, eval e X.env) :: backTo pos (starEach [] X.env) := by rfl) (hpl : (backTo pos (starEach [e] X.env)).any (·.1) = false := by rfl) (hnk : nk = Str.ofString "key" := by rfl) :
    PE X (.Call (.Name "min" p) [e] [⟨some nk, .Lambda params body scope lpos, kpos⟩] pos) (tMinT T N js te tb) := by
  subst hnk
  refine ⟨fun pins s σ H Q I h => ?_⟩
  refine wpAny_Call_Name_kw (ld_blt I hg hm PyProof.Rows.boot_min ?_)
  refine PyProof.Rows.callWith_kw (thn (ha.run pos pins s σ H (fun vs H1 => match vs with
    | [x] => ∃ (l : Addr) (xs : List V) (ks : Nat → List Int), x = .ref l ∧ H1 l = some (.lst xs) ∧ 0 < xs.length ∧ Tabs T H1 ∧ ∀ (od : Obj) (H2 : Hp), ExtN H1 H2 → Tabs T H2 →
      (∀ i x, xs[i]? = some x → EvU tb (startF N [x] (js.map (slotAt σ))) (upd H2 l (.frz od (.lst xs))) ((ks i).map V.int)) ∧ ∀ (H3 : Hp) (y : V), Ex H2 H3 → xs[argBest (fun i j => HT.lexLt (ks i) (ks j)) (xs.length - 1)]? = some y → Q y H3
    | _ => False) I h) fun us s1 hh => ?_) he hpl (by rfl) (by rfl)
  obtain ⟨vs, H1, I1, r1, q1⟩ := hh
  cases r1 with
  | nil => exact q1.elim
  | cons ru rn =>
    cases rn with
    | cons _ _ => exact q1.elim
    | nil =>
      obtain ⟨l, xs, ks, rfl, hl, hpos, hT, hk⟩ := q1
      obtain rfl := ru
      show wpAny _ _ (evalAll ((do let v ← eval (.Lambda params body scope lpos) X.env; standAt pos; pure v) :: [])) _ _ s1
      refine wpAny_evalAll_cons (wpAny_bind (lam_make2 I1 TB hcode hmT hu hT hdef (fun y hy e => (ndef_free hnd y hy e).elim (fun z => I1.ok.has _ (.inl z)) fun z => I1.ok.has _ (.inr z)) fun f c' pm ctv H2 s2 I2 eN T2 hf hfn hfr hco => wpAny_bind (wpAny_standAt (wpAny_pure (wpAny_evalAll_nil ?_)))))
      show wpAny _ _ (call (.builtin "min") [.ref l] [(Str.ofString "key", .ref f)]) _ _ s2
      refine call_min_walkK ?_
      have hl2 : H2 l = some (.lst xs) := eN l _ hl (fun ps z => nomatch z)
      obtain ⟨od, I3⟩ := I2.lock hl2 trivial
      have hlf : (upd H2 l (.frz od (.lst xs))) l = some (.frz od (.lst xs)) := upd_same
      have hfl : f ≠ l := fun z => by rw [z, hl2] at hfn; cases hfn
      have hff : (upd H2 l (.frz od (.lst xs))) f = none := by rw [upd_ne hfl]; exact hfn
      have hcf : (upd H2 l (.frz od (.lst xs))) c' = some (CodeO c' (X.env.qual ++ "<lambda>")) := by
        rw [upd_ne (fun z => by
          rw [z, hl2] at hco
          unfold CodeO at hco
          cases hco)]
        exact hco
      obtain ⟨hk1, hk2⟩ := hk od H2 eN T2
      have back : ∀ H3, Ex (upd H2 l (.frz od (.lst xs))) H3 → Ex H2 (upd H3 l (.lst xs)) := fun H3 e b o hb => by
        by_cases z : b = l
        · rw [z, hl2] at hb
          rw [z, upd_same]
          exact hb
        · rw [upd_ne z]
          exact e b o (by rw [upd_ne z]; exact hb)
      generalize upd H2 l (.frz od (.lst xs)) = Hf at I3 hlf hff hcf hk1 back
      obtain ⟨its, rx, pl, hz⟩ := I3.list (show SqL X.K Hf l xs from .inl (.inr ⟨od, hlf⟩))
      refine wpAny_pyIter_list pl.isList ?_
      have I4 : Inv X pins σ Hf { s2 with heap := s2.heap.push { cls := .type "list_iterator", data := .fields #[.ref l, .int 0 0] }, toks := s2.toks } := I3.kept fun b o e => Heap.get?_push_of_some _ e
      have hsz : (s2.heap.push { cls := .type "list_iterator", data := .fields #[.ref l, .int 0 0] }).objs.size = s2.heap.objs.size + 1 := Heap.size_push ..
      have hflt : f < s2.heap.objs.size := Heap.lt_size hf
      have hll : l < s2.heap.objs.size := by obtain ⟨o, ho, _⟩ := pl.isList; exact Heap.lt_size ho
      have hlen := rx.length
      refine ⟨s2.heap.objs.size, [s2.heap.objs.size, l], [s2.heap.objs.size], _, its.toArray.size, _, _, KJ X pins σ Hf f (lamO X params body scope pm c' ctv) (s2.heap.push { cls := .type "list_iterator", data := .fields #[.ref l, .int 0 0] }).objs.size s2.heap.objs.size, KVt X Hf (s2.heap.push { cls := .type "list_iterator", data := .fields #[.ref l, .int 0 0] }).objs.size s2.heap.objs.size ks, (fun i j => HT.lexLt (ks i) (ks j)), rfl,
        (Walks.list (A := X.A.in1) hr.hd s2.heap.objs.size l (Nat.ne_of_lt hll) its.toArray).toS, ⟨⟨_, Heap.get?_push_size _ rfl, rfl, rfl⟩, pl.isList.push _⟩, fun b hb => ?_, ?_, keyrunT hlf rx ?_ (Nat.ne_of_lt hflt) hr.in1 hcf NS (fun u => hbind _ _ _ _ _ u) (fun ok => Caps.made ok (ndef_free hnd) (ndef_fr hnd) hjs) hfr (fun s H => hbody f c' s H (hr.in1.deeper _)) hk1,
        ⟨Hf, I4, Ex.refl Hf, fun b o h => .inl h, I4.fpOk (Nat.le_refl _) (I4.hok.fresh (Nat.le_refl _)), I3.fpOk (Nat.le_refl _) (I3.hok.fresh (Nat.le_refl _)), hff, Heap.get?_push_of_some _ hf⟩, fun v s' hP hJ => ?_⟩
      · rcases List.mem_cons.mp hb with z | z
        · rw [z, hsz]; exact Nat.lt_succ_self _
        · rw [List.mem_singleton.mp z, hsz]; exact Nat.lt_succ_of_lt hll
      · show 0 < its.toArray.size
        rw [List.size_toArray, ← hlen]
        exact hpos
      · rw [hsz]
        exact Nat.ne_of_lt (Nat.lt_succ_of_lt hflt)
      · obtain ⟨H', I', e, _⟩ := hJ
        have J2 := I'.unlock (e l _ hlf) (I2.nofrz hl2 trivial)
        have hP : its.toArray[argBest (fun i j => HT.lexLt (ks i) (ks j)) (its.toArray.size - 1)]? = some v := hP
        rw [List.size_toArray, ← hlen, List.getElem?_toArray] at hP
        obtain ⟨y, hy⟩ : ∃ y, xs[argBest (fun i j => HT.lexLt (ks i) (ks j)) (xs.length - 1)]? = some y := ⟨_, List.getElem?_eq_getElem (Nat.lt_of_lt_of_eq (List.getElem?_eq_some_iff.mp hP).1 hlen.symm)⟩
        obtain ⟨u, hu', ru⟩ := rx.get hy
        rw [hP] at hu'
        cases hu'
        exact ⟨y, _, J2, ru, hk2 _ y (back _ e) hy⟩

/-- max(e, key=lambda x: body) -/
def tMaxI (T : List (Addr × Str)) (N : List Str) (js : List Nat) (te tb : TE) : TE := fun σ H Q => te σ H fun x H1 => ∃ (l : Addr) (xs : List V) (ks : Nat → Int), x = .ref l ∧ H1 l = some (.lst xs) ∧ 0 < xs.length ∧ Tabs T H1 ∧ ∀ (od : Obj) (H2 : Hp), ExtN H1 H2 → Tabs T H2 →
  (∀ i x, xs[i]? = some x → Ev tb (startF N [x] (js.map (slotAt σ))) (upd H2 l (.frz od (.lst xs))) (.int (ks i))) ∧ ∀ (H3 : Hp) (y : V), Ex H2 H3 → xs[argBest (fun i j => decide (ks j < ks i)) (xs.length - 1)]? = some y → Q y H3
theorem pe_maxI {X : Cx} {T : List (Addr × Str)} {c P : Addr} {k : Nat} {kx nk : Str} {N fr : List Str} {js : List Nat} {te tb : TE} {e : Expr} {params : Arguments} {body : Expr} {scope : Scope} {p lpos kpos pos : Pos} (TB : TabB X.base X.mg c P) (hcode : X.env.code = .ref c) (hmT : (P, X.env.qual ++ "<lambda>") ∈ T) (hu : ∀ p ∈ T, p.1 = P → p.2 = X.env.qual ++ "<lambda>")
    (hg : Gl X "max") (hm : X.mg "max" = none) (hr : Room (k + 2) X.A) (ha : PA X [e] (tCons te tNil)) (NS : NScope N [kx] fr scope) (hnd : ndefB X.env.scope scope fr = true) (hjs : js.map (fun j => X.N[j]?) = fr.map some)
    (hbody : ∀ (f c' : Addr) (s : Shared) (H : Hp), Room k (X.A.in1.deeper (envF (lamF X params scope c') f s.heap.objs.size)) → PE (ncx CX0 X.prog X.w X.K X.mg X.base N (lamF X params scope c') f X.A.in1 X.stack s H E0) body tb)
    (hdef : defaultsOf params X.env = ([], []) := by rfl)
    (hbind : ∀ (q : Str) (cl : List (Str × Addr)) (pm cv ctv u : Value), bindArgs (PySem.W.kla_fn "<lambda>" q params body scope cl pm cv ctv) ⟨[u], []⟩ = pure [(kx, u)] := by exact fun _ _ _ _ _ _ => rfl)
    (he : backTo pos (starEach [e] X.env) = (false, eval e X.env) :: backTo pos (starEach [] X.env) := by rfl) (hpl : (backTo pos (starEach [e] X.env)).any (·.1) = false := by rfl) (hnk : nk = Str.ofString "key" := by rfl) :
    PE X (.Call (.Name "max" p) [e] [⟨some nk, .Lambda params body scope lpos, kpos⟩] pos) (tMaxI T N js te tb) := by
  subst hnk
  refine ⟨fun pins s σ H Q I h => ?_⟩
  refine wpAny_Call_Name_kw (ld_blt I hg hm PyProof.Rows.boot_max ?_)
  refine PyProof.Rows.callWith_kw (thn (ha.run pos pins s σ H (fun vs H1 => match vs with
    | [x] => ∃ (l : Addr) (xs : List V) (ks : Nat → Int), x = .ref l ∧ H1 l = some (.lst xs) ∧ 0 < xs.length ∧ Tabs T H1 ∧ ∀ (od : Obj) (H2 : Hp), ExtN H1 H2 → Tabs T H2 →
      (∀ i x, xs[i]? = some x → Ev tb (startF N [x] (js.map (slotAt σ))) (upd H2 l (.frz od (.lst xs))) (.int (ks i))) ∧ ∀ (H3 : Hp) (y : V), Ex H2 H3 → xs[argBest (fun i j => decide (ks j < ks i)) (xs.length - 1)]? = some y → Q y H3
    | _ => False) I h) fun us s1 hh => ?_) he hpl (by rfl) (by rfl)
  obtain ⟨vs, H1, I1, r1, q1⟩ := hh
  cases r1 with
  | nil => exact q1.elim
  | cons ru rn =>
    cases rn with
    | cons _ _ => exact q1.elim
    | nil =>
      obtain ⟨l, xs, ks, rfl, hl, hpos, hT, hk⟩ := q1
      obtain rfl := ru
      show wpAny _ _ (evalAll ((do let v ← eval (.Lambda params body scope lpos) X.env; standAt pos; pure v) :: [])) _ _ s1
      refine wpAny_evalAll_cons (wpAny_bind (lam_make2 I1 TB hcode hmT hu hT hdef (fun y hy e => (ndef_free hnd y hy e).elim (fun z => I1.ok.has _ (.inl z)) fun z => I1.ok.has _ (.inr z)) fun f c' pm ctv H2 s2 I2 eN T2 hf hfn hfr hco => wpAny_bind (wpAny_standAt (wpAny_pure (wpAny_evalAll_nil ?_)))))
      show wpAny _ _ (call (.builtin "max") [.ref l] [(Str.ofString "key", .ref f)]) _ _ s2
      refine call_max_walkK ?_
      have hl2 : H2 l = some (.lst xs) := eN l _ hl (fun ps z => nomatch z)
      obtain ⟨od, I3⟩ := I2.lock hl2 trivial
      have hlf : (upd H2 l (.frz od (.lst xs))) l = some (.frz od (.lst xs)) := upd_same
      have hfl : f ≠ l := fun z => by rw [z, hl2] at hfn; cases hfn
      have hff : (upd H2 l (.frz od (.lst xs))) f = none := by rw [upd_ne hfl]; exact hfn
      have hcf : (upd H2 l (.frz od (.lst xs))) c' = some (CodeO c' (X.env.qual ++ "<lambda>")) := by
        rw [upd_ne (fun z => by
          rw [z, hl2] at hco
          unfold CodeO at hco
          cases hco)]
        exact hco
      obtain ⟨hk1, hk2⟩ := hk od H2 eN T2
      have back : ∀ H3, Ex (upd H2 l (.frz od (.lst xs))) H3 → Ex H2 (upd H3 l (.lst xs)) := fun H3 e b o hb => by
        by_cases z : b = l
        · rw [z, hl2] at hb
          rw [z, upd_same]
          exact hb
        · rw [upd_ne z]
          exact e b o (by rw [upd_ne z]; exact hb)
      generalize upd H2 l (.frz od (.lst xs)) = Hf at I3 hlf hff hcf hk1 back
      obtain ⟨its, rx, pl, hz⟩ := I3.list (show SqL X.K Hf l xs from .inl (.inr ⟨od, hlf⟩))
      refine wpAny_pyIter_list pl.isList ?_
      have I4 : Inv X pins σ Hf { s2 with heap := s2.heap.push { cls := .type "list_iterator", data := .fields #[.ref l, .int 0 0] }, toks := s2.toks } := I3.kept fun b o e => Heap.get?_push_of_some _ e
      have hsz : (s2.heap.push { cls := .type "list_iterator", data := .fields #[.ref l, .int 0 0] }).objs.size = s2.heap.objs.size + 1 := Heap.size_push ..
      have hflt : f < s2.heap.objs.size := Heap.lt_size hf
      have hll : l < s2.heap.objs.size := by obtain ⟨o, ho, _⟩ := pl.isList; exact Heap.lt_size ho
      have hlen := rx.length
      refine ⟨s2.heap.objs.size, [s2.heap.objs.size, l], [s2.heap.objs.size], _, its.toArray.size, _, _, KJ X pins σ Hf f (lamO X params body scope pm c' ctv) (s2.heap.push { cls := .type "list_iterator", data := .fields #[.ref l, .int 0 0] }).objs.size s2.heap.objs.size, KVi ks, (fun i j => decide (ks j < ks i)), rfl,
        (Walks.list (A := X.A.in1) hr.hd s2.heap.objs.size l (Nat.ne_of_lt hll) its.toArray).toS, ⟨⟨_, Heap.get?_push_size _ rfl, rfl, rfl⟩, pl.isList.push _⟩, fun b hb => ?_, ?_, keyrunI hlf rx ?_ (Nat.ne_of_lt hflt) hr.in1 hcf NS (fun u => hbind _ _ _ _ _ u) (fun ok => Caps.made ok (ndef_free hnd) (ndef_fr hnd) hjs) hfr (fun s H => hbody f c' s H (hr.in1.deeper _)) hk1,
        ⟨Hf, I4, Ex.refl Hf, fun b o h => .inl h, I4.fpOk (Nat.le_refl _) (I4.hok.fresh (Nat.le_refl _)), I3.fpOk (Nat.le_refl _) (I3.hok.fresh (Nat.le_refl _)), hff, Heap.get?_push_of_some _ hf⟩, fun v s' hP hJ => ?_⟩
      · rcases List.mem_cons.mp hb with z | z
        · rw [z, hsz]; exact Nat.lt_succ_self _
        · rw [List.mem_singleton.mp z, hsz]; exact Nat.lt_succ_of_lt hll
      · show 0 < its.toArray.size
        rw [List.size_toArray, ← hlen]
        exact hpos
      · rw [hsz]
        exact Nat.ne_of_lt (Nat.lt_succ_of_lt hflt)
      · obtain ⟨H', I', e, _⟩ := hJ
        have J2 := I'.unlock (e l _ hlf) (I2.nofrz hl2 trivial)
        have hP : its.toArray[argBest (fun i j => decide (ks j < ks i)) (its.toArray.size - 1)]? = some v := hP
        rw [List.size_toArray, ← hlen, List.getElem?_toArray] at hP
        obtain ⟨y, hy⟩ : ∃ y, xs[argBest (fun i j => decide (ks j < ks i)) (xs.length - 1)]? = some y := ⟨_, List.getElem?_eq_getElem (Nat.lt_of_lt_of_eq (List.getElem?_eq_some_iff.mp hP).1 hlen.symm)⟩
        obtain ⟨u, hu', ru⟩ := rx.get hy
        rw [hP] at hu'
        cases hu'
        exact ⟨y, _, J2, ru, hk2 _ y (back _ e) hy⟩

end Su
namespace Su
/-! ### the told order, round by round -/
def foldB (f : Nat → Int) (x : Nat) (xs : List Nat) : Nat := xs.foldl (fun c y => if f y < f c then y else c) x
theorem foldB_mem (f : Nat → Int) : ∀ (xs : List Nat) (x : Nat), foldB f x xs ∈ x :: xs
  | [], x => List.mem_cons_self
  | y :: ys, x => by
    have h := foldB_mem f ys (if f y < f x then y else x)
    show foldB f (if f y < f x then y else x) ys ∈ _
    rcases List.mem_cons.mp h with h | h
    · rw [h]
      split
      · exact List.mem_cons_of_mem _ List.mem_cons_self
      · exact List.mem_cons_self
    · exact List.mem_cons_of_mem _ (List.mem_cons_of_mem _ h)
theorem foldB_le (f : Nat → Int) : ∀ (xs : List Nat) (x : Nat), f (foldB f x xs) ≤ f x ∧ ∀ y ∈ xs, f (foldB f x xs) ≤ f y
  | [], x => ⟨Int.le_refl _, fun _ h => absurd h List.not_mem_nil⟩
  | y :: ys, x => by
    obtain ⟨h1, h2⟩ := foldB_le f ys (if f y < f x then y else x)
    show f (foldB f (if f y < f x then y else x) ys) ≤ _ ∧ ∀ z ∈ y :: ys, f (foldB f (if f y < f x then y else x) ys) ≤ _
    refine ⟨?_, fun z hz => ?_⟩
    · split at h1 <;> rename_i c <;> simp only [c, if_true, if_false] <;> omega
    · rcases List.mem_cons.mp hz with rfl | hz
      · split at h1 <;> rename_i c <;> simp only [c, if_true, if_false] <;> omega
      · exact h2 z hz
theorem foldB_first (f : Nat → Int) : ∀ (xs : List Nat) (x : Nat), ((x :: xs).filter fun y => decide (f y = f (foldB f x xs))).head? = some (foldB f x xs)
  | [], x => by
    show ([x].filter fun y => decide (f y = f x)).head? = some x
    rw [List.filter_cons, if_pos (by simp)]
    rfl
  | y :: ys, x => by
    have h := foldB_first f ys (if f y < f x then y else x)
    have le := foldB_le f ys (if f y < f x then y else x)
    show ((x :: y :: ys).filter fun z => decide (f z = f (foldB f (if f y < f x then y else x) ys))).head? = some (foldB f (if f y < f x then y else x) ys)
    generalize foldB f (if f y < f x then y else x) ys = b at h le ⊢
    by_cases c : f y < f x
    · rw [if_pos c] at h le
      rw [List.filter_cons, if_neg (by simp; omega)]
      exact h
    · rw [if_neg c] at h le
      rw [List.filter_cons] at h ⊢
      by_cases e : f x = f b
      · rw [if_pos (by simpa using e)] at h ⊢
        exact h
      · rw [if_neg (by simpa using e)] at h ⊢
        rw [List.filter_cons, if_neg (by simp; omega)]
        exact h
theorem foldB_snoc (f : Nat → Int) (x : Nat) (xs : List Nat) (y : Nat) : foldB f x (xs ++ [y]) = if f y < f (foldB f x xs) then y else foldB f x xs := by
  unfold foldB
  rw [List.foldl_append]
  rfl
/-- the keys of min's lambda: the window's last round, then its number -/
def tk (f : Nat → Int) (xs : List Nat) (i : Nat) : List Int := [f (xs.getD i 0), (xs.getD i 0 : Nat)]
theorem tk_lt {f : Nat → Int} {xs : List Nat} {i j : Nat} {a b : Nat} (ha : xs[i]? = some a) (hb : xs[j]? = some b) (h : b < a) : HT.lexLt (tk f xs i) (tk f xs j) = decide (f a < f b) := by
  have e1 : xs.getD i 0 = a := by rw [List.getD_eq_getElem?_getD, ha]; rfl
  have e2 : xs.getD j 0 = b := by rw [List.getD_eq_getElem?_getD, hb]; rfl
  unfold tk
  rw [e1, e2, HT.lexLt_cons, HT.lexLt_cons]
  by_cases c : f a = f b
  · rw [if_pos c, if_neg (by omega), decide_eq_false (by omega), decide_eq_false (by omega)]
  · rw [if_neg c]
theorem arg_fold {f : Nat → Int} {x : Nat} {xs : List Nat} (hp : (x :: xs).Pairwise (· < ·)) : ∀ j ≤ xs.length, (x :: xs)[argBest (fun i j => HT.lexLt (tk f (x :: xs) i) (tk f (x :: xs) j)) j]? = some (foldB f x (xs.take j)) ∧ argBest (fun i j => HT.lexLt (tk f (x :: xs) i) (tk f (x :: xs) j)) j ≤ j
  | 0, _ => ⟨rfl, Nat.le_refl _⟩
  | j + 1, hj => by
    obtain ⟨ih, il⟩ := arg_fold (f := f) hp j (by omega)
    have gy : (x :: xs)[j + 1]? = some xs[j] := by rw [List.getElem?_cons_succ, List.getElem?_eq_getElem (by omega)]
    have et : xs.take (j + 1) = xs.take j ++ [xs[j]] := by rw [List.take_add_one, List.getElem?_eq_getElem (by omega)]; rfl
    have lt : foldB f x (xs.take j) < xs[j] := by
      have := List.pairwise_iff_getElem.mp hp (argBest (fun i j => HT.lexLt (tk f (x :: xs) i) (tk f (x :: xs) j)) j) (j + 1) (by rw [List.length_cons]; omega) (by rw [List.length_cons]; omega) (by omega)
      rw [List.getElem?_eq_getElem (by rw [List.length_cons]; omega)] at ih gy
      rw [Option.some.inj ih, Option.some.inj gy] at this
      exact this
    have ek := tk_lt (f := f) gy ih lt
    rw [et, foldB_snoc]
    show (x :: xs)[if HT.lexLt (tk f (x :: xs) (j + 1)) (tk f (x :: xs) (argBest (fun i j => HT.lexLt (tk f (x :: xs) i) (tk f (x :: xs) j)) j)) = true then j + 1 else argBest (fun i j => HT.lexLt (tk f (x :: xs) i) (tk f (x :: xs) j)) j]? = _ ∧ (if HT.lexLt (tk f (x :: xs) (j + 1)) (tk f (x :: xs) (argBest (fun i j => HT.lexLt (tk f (x :: xs) i) (tk f (x :: xs) j)) j)) = true then j + 1 else argBest (fun i j => HT.lexLt (tk f (x :: xs) i) (tk f (x :: xs) j)) j) ≤ _
    rw [ek]
    by_cases c : f xs[j] < f (foldB f x (xs.take j))
    · rw [if_pos (decide_eq_true c), if_pos c]
      exact ⟨gy, Nat.le_refl _⟩
    · rw [if_neg (by simpa using c), if_neg c]
      exact ⟨ih, by omega⟩
def bestI (f : Nat → Int) : List Nat → Nat
  | [] => 0
  | x :: xs => foldB f x xs
theorem arg_best {f : Nat → Int} {xs : List Nat} (h : xs ≠ []) (hp : xs.Pairwise (· < ·)) : xs[argBest (fun i j => HT.lexLt (tk f xs i) (tk f xs j)) (xs.length - 1)]? = some (bestI f xs) := by
  cases xs with
  | nil => exact absurd rfl h
  | cons x xs =>
    have := (arg_fold (f := f) hp xs.length (Nat.le_refl _)).1
    rw [List.take_length] at this
    exact this
theorem best_mem {f : Nat → Int} {xs : List Nat} (h : xs ≠ []) : bestI f xs ∈ xs := by
  cases xs with
  | nil => exact absurd rfl h
  | cons x xs => exact foldB_mem f xs x
theorem best_le {f : Nat → Int} {xs : List Nat} {y : Nat} (h : y ∈ xs) : f (bestI f xs) ≤ f y := by
  cases xs with
  | nil => exact absurd h List.not_mem_nil
  | cons x xs =>
    rcases List.mem_cons.mp h with rfl | h
    · exact (foldB_le f xs y).1
    · exact (foldB_le f xs x).2 y h
theorem best_first {f : Nat → Int} {xs : List Nat} (h : xs ≠ []) : (xs.filter fun y => decide (f y = f (bestI f xs))).head? = some (bestI f xs) := by
  cases xs with
  | nil => exact absurd rfl h
  | cons x xs => exact foldB_first f xs x
def firstI (ws : List (Int × Int)) (i : Nat) : Int := match ws[i]? with
  | some w => w.1
  | none => 0
def lastI (ws : List (Int × Int)) (i : Nat) : Int := match ws[i]? with
  | some w => w.2
  | none => 0
def freeI (n : Nat) (row : List Nat) : List Nat := (List.range n).filter fun i => !row.contains i
def rdyI (ws : List (Int × Int)) (row : List Nat) (t : Int) : List Nat := (freeI ws.length row).filter fun i => decide (firstI ws i ≤ t)
def greedy (ws : List (Int × Int)) : Nat → Option (List Nat)
  | 0 => some []
  | t + 1 => match greedy ws t with
    | none => none
    | some row => if rdyI ws row ((t : Int) + 1) = [] then none else if lastI ws (bestI (lastI ws) (rdyI ws row ((t : Int) + 1))) < (t : Int) + 1 then none else some (row ++ [bestI (lastI ws) (rdyI ws row ((t : Int) + 1))])
theorem greedy_none {ws : List (Int × Int)} {t : Nat} (h : greedy ws t = none) : ∀ k, greedy ws (t + k) = none
  | 0 => h
  | k + 1 => by
    show (match greedy ws (t + k) with
      | none => none
      | some row => _) = none
    rw [greedy_none h k]
theorem greedy_none' {ws : List (Int × Int)} {t n : Nat} (h : greedy ws t = none) (hn : t ≤ n) : greedy ws n = none := by
  obtain ⟨k, rfl⟩ := Nat.exists_eq_add_of_le hn
  exact greedy_none h k
theorem greedy_empty {ws : List (Int × Int)} {t : Nat} {row : List Nat} (h : greedy ws t = some row) (e : rdyI ws row ((t : Int) + 1) = []) : greedy ws (t + 1) = none := by
  show (match greedy ws t with
    | none => none
    | some row => _) = none
  rw [h]
  exact if_pos e
theorem greedy_late {ws : List (Int × Int)} {t : Nat} {row : List Nat} (h : greedy ws t = some row) (e : rdyI ws row ((t : Int) + 1) ≠ []) (l : lastI ws (bestI (lastI ws) (rdyI ws row ((t : Int) + 1))) < (t : Int) + 1) : greedy ws (t + 1) = none := by
  show (match greedy ws t with
    | none => none
    | some row => _) = none
  rw [h]
  exact (if_neg e).trans (if_pos l)
theorem greedy_step {ws : List (Int × Int)} {t : Nat} {row : List Nat} (h : greedy ws t = some row) (e : rdyI ws row ((t : Int) + 1) ≠ []) (l : ¬ lastI ws (bestI (lastI ws) (rdyI ws row ((t : Int) + 1))) < (t : Int) + 1) : greedy ws (t + 1) = some (row ++ [bestI (lastI ws) (rdyI ws row ((t : Int) + 1))]) := by
  show (match greedy ws t with
    | none => none
    | some row => _) = _
  rw [h]
  exact (if_neg e).trans (if_neg l)
theorem free_inc (n : Nat) (row : List Nat) : (freeI n row).Pairwise (· < ·) := List.Pairwise.filter _ List.pairwise_lt_range
theorem rdy_inc (ws : List (Int × Int)) (row : List Nat) (t : Int) : (rdyI ws row t).Pairwise (· < ·) := List.Pairwise.filter _ (free_inc _ _)
theorem free_lt {n : Nat} {row : List Nat} {i : Nat} (h : i ∈ freeI n row) : i < n := List.mem_range.mp (List.mem_filter.mp h).1
theorem free_len (n : Nat) (row : List Nat) : (freeI n row).length ≤ n := by
  have h := List.length_filter_le (fun i => !row.contains i) (List.range n)
  rw [List.length_range] at h
  exact h
theorem rdy_len (ws : List (Int × Int)) (row : List Nat) (t : Int) : (rdyI ws row t).length ≤ ws.length := Nat.le_trans (List.length_filter_le _ _) (free_len _ _)
theorem free_nil (n : Nat) : freeI n [] = List.range n := by
  unfold freeI
  exact List.filter_eq_self.mpr fun i _ => rfl
theorem free_add (n : Nat) (row : List Nat) (c : Nat) : freeI n (row ++ [c]) = (freeI n row).filter fun i => decide (i ≠ c) := by
  unfold freeI
  rw [List.filter_filter]
  refine List.filter_congr fun i _ => ?_
  by_cases h1 : i ∈ row <;> by_cases h2 : i = c <;> simp [h1, h2]
theorem erase_ne : ∀ {xs : List Nat} {j c : Nat}, xs.Pairwise (· < ·) → xs[j]? = some c → xs.eraseIdx j = xs.filter fun i => decide (i ≠ c)
  | x :: xs, 0, c, h, e => by
    obtain rfl : x = c := by simpa using e
    rw [List.eraseIdx_cons_zero, List.filter_cons, if_neg (by simp)]
    refine (List.filter_eq_self.mpr fun i hi => ?_).symm
    have := (List.pairwise_cons.mp h).1 i hi
    exact decide_eq_true (by omega)
  | x :: xs, j + 1, c, h, e => by
    have e' : xs[j]? = some c := by simpa using e
    have := (List.pairwise_cons.mp h).1 c (List.mem_of_getElem? e')
    rw [List.eraseIdx_cons_succ, List.filter_cons, if_pos (by simp; omega), erase_ne (List.pairwise_cons.mp h).2 e']
  | [], j, c, h, e => by simp at e
theorem inc_first {xs : List Nat} {j c m : Nat} (h : xs.Pairwise (· < ·)) (e : xs[j]? = some c) (hm : m < j) : xs[m]? ≠ some c := fun z => by
  have hj := (List.getElem?_eq_some_iff.mp e).1
  have hmm := (List.getElem?_eq_some_iff.mp z).1
  have := List.pairwise_iff_getElem.mp h m j hmm hj hm
  rw [List.getElem?_eq_getElem hj] at e
  rw [List.getElem?_eq_getElem hmm] at z
  rw [Option.some.inj e, Option.some.inj z] at this
  omega
theorem natI_erase (xs : List Nat) (j : Nat) : (natI xs).eraseIdx j = natI (xs.eraseIdx j) := by
  unfold natI
  induction xs generalizing j with
  | nil => rfl
  | cons x xs ih =>
    cases j with
    | zero => rfl
    | succ j => rw [List.map_cons, List.eraseIdx_cons_succ, List.eraseIdx_cons_succ, List.map_cons, ih]
theorem natI_some {xs : List Nat} {j c : Nat} (h : xs[j]? = some c) : (natI xs)[j]? = some (c : Int) := by unfold natI; rw [List.getElem?_map, h]; rfl
theorem natI_not {xs : List Nat} {j c : Nat} (h : xs[j]? ≠ some c) : (natI xs)[j]? ≠ some (c : Int) := fun z => by
  unfold natI at z
  rw [List.getElem?_map] at z
  cases hc : xs[j]? with
  | none => rw [hc] at z; cases z
  | some d =>
    rw [hc] at z
    have : (d : Int) = (c : Int) := Option.some.inj z
    exact h (by rw [hc, show d = c by omega])

end Su
namespace Su
/-! ### along the making of a lambda: all but the tables stay -/
theorem TW.exN {H H' : Hp} {qs : List Win} (h : TW H qs) (e : LamX.ExtN H H') : TW H' qs := fun q hq => e _ _ (h q hq) fun _ z => nomatch z
theorem exN_l {H H' : Hp} {p : Addr} {xs : List V} (e : LamX.ExtN H H') (h : H p = some (.lst xs)) : H' p = some (.lst xs) := e _ _ h fun _ z => nomatch z
theorem exN_of {H H' : Hp} (e : Ex H H') : LamX.ExtN H H' := LamX.ExtN.of e
theorem exN_up {H0 H : Hp} {p : Addr} {o : HO} (e : LamX.ExtN H0 H) (hp : ∀ o, H0 p = some o → ∃ ps, o = .tbl ps) : LamX.ExtN H0 (upd H p o) := fun b o' h n => by
  by_cases z : b = p
  · rw [z] at h
    obtain ⟨ps, rfl⟩ := hp _ h
    exact absurd rfl (n ps)
  · rw [upd_ne z]
    exact e b o' h n
theorem tabs_upd {T : List (Addr × Str)} {H : Hp} {p : Addr} {xs ys : List V} (t : LamX.Tabs T H) (hp : H p = some (.lst xs)) : LamX.Tabs T (upd H p (.lst ys)) := fun q hq => by
  obtain ⟨ps, h1, h2, h3⟩ := t q hq
  have n1 : q.1 ≠ p := fun z => by rw [z, hp] at h1; cases h1
  refine ⟨ps, by rw [upd_ne n1]; exact h1, h2, fun pos cv hc => ?_⟩
  obtain ⟨c, e1, e2⟩ := h3 pos cv hc
  refine ⟨c, e1, ?_⟩
  rw [upd_ne (fun z => by rw [z, hp] at e2; unfold LamX.CodeO at e2; cases e2)]
  exact e2
theorem q_minT {T : List (Addr × Str)} {N : List Str} {js : List Nat} {te tb : TE} {σ : L2.St} {H : Hp} {i : Nat} {D : Ends} {tz : TS} {l : Addr} {xs : List V} (ks : Nat → List Int) (h : Ev te σ H (.ref l)) (hl : H l = some (.lst xs)) (hpos : 0 < xs.length) (hT : LamX.Tabs T H)
    (hk : ∀ Hf, (∀ b o, H b = some o → (∀ ps, o ≠ .tbl ps) → b ≠ l → Hf b = some o) → ∀ i x, xs[i]? = some x → EvU tb (NdefX.startF N [x] (js.map (NdefX.slotAt σ))) Hf ((ks i).map V.int))
    (k : ∀ H3 y, LamX.ExtN H H3 → LamX.Tabs T H3 → xs[argBest (fun i j => HT.lexLt (ks i) (ks j)) (xs.length - 1)]? = some y → tz D (σ.set i (some y)) H3) : tSeq (tAsg (tMinT T N js te tb) (gName i)) tz D σ H :=
  h H (Ex.refl H) _ fun H1 e1 => ⟨l, xs, ks, rfl, e1 _ _ hl, hpos, hT.ext e1, fun od H2 eN T2 => ⟨fun j x hx => hk (upd H2 l (.frz od (.lst xs))) (fun b o hb hn hne => by
    rw [upd_ne hne]
    exact eN b o (e1 b o hb) hn) j x hx, fun H3 y e3 hy => k H3 y (((exN_of e1).trans eN).trans (exN_of e3)) (T2.ext e3) hy⟩⟩
theorem s_retMaxI {T : List (Addr × Str)} {N : List Str} {js : List Nat} {te tb : TE} {σ : L2.St} {H : Hp} {D : Ends} {l : Addr} {xs : List V} (ks : Nat → Int) (h : Ev te σ H (.ref l)) (hl : H l = some (.lst xs)) (hpos : 0 < xs.length) (hT : LamX.Tabs T H)
    (hk : ∀ Hf, (∀ b o, H b = some o → (∀ ps, o ≠ .tbl ps) → b ≠ l → Hf b = some o) → ∀ i x, xs[i]? = some x → Ev tb (NdefX.startF N [x] (js.map (NdefX.slotAt σ))) Hf (.int (ks i)))
    (k : ∀ H3 y, LamX.ExtN H H3 → LamX.Tabs T H3 → xs[argBest (fun i j => decide (ks j < ks i)) (xs.length - 1)]? = some y → D.rt y H3) : tRet (tMaxI T N js te tb) D σ H :=
  h H (Ex.refl H) _ fun H1 e1 => ⟨l, xs, ks, rfl, e1 _ _ hl, hpos, hT.ext e1, fun od H2 eN T2 => ⟨fun j x hx => hk (upd H2 l (.frz od (.lst xs))) (fun b o hb hn hne => by
    rw [upd_ne hne]
    exact eN b o (e1 b o hb) hn) j x hx, fun H3 y e3 hy => k H3 y (((exN_of e1).trans eN).trans (exN_of e3)) (T2.ext e3) hy⟩⟩
theorem s_remove {ta tb : TE} {K : PySem.W.Frag} {σ : L2.St} {H : Hp} {l : Addr} {xs : List Nat} {c j : Nat} {D : Ends} (hl : H l = some (.lst ((natI xs).map V.int))) (ha : Ev ta σ H (.ref l)) (hb : Ev tb σ H (.int (c : Int))) (hp : xs.Pairwise (· < ·)) (hj : xs[j]? = some c)
    (k : ∀ H1, Ex H H1 → D.nx σ (upd H1 l (.lst ((natI (xs.filter fun i => decide (i ≠ c))).map V.int)))) : tDrop (tBM K "list" rRemI ta (tCons tb tNil)) D σ H := ha H (Ex.refl H) _ fun H1 e1 =>
  ⟨Or.inl ⟨rfl, _, sq_of (e1 l _ hl)⟩, hb H1 e1 _ fun H2 e2 => ⟨l, natI xs, (c : Int), j, rfl, rfl, e2 _ _ (e1 _ _ hl), natI_some hj, fun m hm => natI_not (inc_first hp hj hm), by
    rw [natI_erase, erase_ne hp hj]
    exact k H2 (e1.trans e2)⟩⟩
theorem tru_l {K : PySem.W.Frag} {H : Hp} {te : TE} {σ : L2.St} {p : Addr} {xs : List V} (h : Ev te σ H (.ref p)) (hl : H p = some (.lst xs)) : EvT (fun σ H Q => te σ H fun x H' => ∃ k, TruV K x H' k ∧ Q k H') σ H (!xs.isEmpty) := fun H1 e1 Q q =>
  h H1 e1 _ fun H2 e2 => ⟨_, .inl ⟨xs, sq_of ((e1.trans e2) _ _ hl), rfl⟩, q H2 e2⟩

end Su
namespace Su
/-! ### told_order -/
open LamX in
section
variable {P : Program} {w : World} {K : PySem.W.Frag} {mg : Str → Option Value} {base : Heap}
def spTold (T : List (Addr × Str)) : Sp := fun vs H Q _ => ∃ (l : Addr) (qs : List Win), vs = [.ref l] ∧ H l = some (.lst (refs qs)) ∧ TW H qs ∧ qs.length ≤ 1000 ∧ LamX.Tabs T H ∧
  (∀ H', greedy (wsOf qs) qs.length = none → LamX.ExtN H H' → LamX.Tabs T H' → Q .non H') ∧
  ∀ row H' p, greedy (wsOf qs) qs.length = some row → H p = none → LamX.ExtN H H' → LamX.Tabs T H' → H' p = some (.lst ((natI row).map V.int)) → Q (.ref p) H'
theorem win_first {qs : List Win} {i : Nat} {q : Win} (h : qs[i]? = some q) : firstI (wsOf qs) i = q.2.1 := by unfold firstI; rw [ws_at h]
theorem win_last {qs : List Win} {i : Nat} {q : Win} (h : qs[i]? = some q) : lastI (wsOf qs) i = q.2.2 := by unfold lastI; rw [ws_at h]
theorem ok_told_order {f : Addr} {fd : FuncData} (T : Top K mg) (F : FunC K "told_order" "told_order" s_told_order f fd T.c_told_order) (TB_told_order : LamX.TabB base mg T.c_told_order T.P_told_order) : FnOk P w K mg base CX0 3 f fd ["windows"] (spTold T.tabs) := by
  have nd := sc_told_order.nd
  refine F.ok sc_told_order (fun vs H Q E h => ?_) (fun A outer s H vs Q E hr h => ?_)
  · obtain ⟨l, qs, rfl, _⟩ := h
    rfl
  · obtain ⟨l, qs, rfl, hl, ht, hn, hT, qN, qS⟩ := h
    refine ⟨_, (pss_cons (ps_set (i := 1) nd rfl (.inl rfl) (pe_listRg rfl (by rfl) T.m_list (prg_1 (by rfl) T.m_range (pe_callB call_len_seq (by rfl) T.m_len PySem.boot_len (pa_cons (pv 0) pa_nil)))))
      (pss_cons (ps_set (i := 2) nd rfl (.inl rfl) (pe_lst pa_nil))
      (pss_cons (ps_for PassesOwn.never rfl (pi_range2 rfl T.m_range (pa_cons pe_int (pa_cons (pe_op op_add (pe_callB call_len_seq (by rfl) T.m_len PySem.boot_len (pa_cons (pv 0) pa_nil)) pe_int) pa_nil))) (pg_name (i := 3) nd rfl (.inr rfl))
        (pss_cons (ps_setLc (i := 4) (own := [("at", 6)]) (g := gName 6) (tt := _) rfl nd rfl rfl (sw_true rfl rfl rfl (by decide +kernel)) (pi_list (pv 1)) (blkOk_by (own := [("at", 6)]) (N := Su.N_told_order) (sc := defScope s_told_order) (by decide +kernel)) (fun _ _ _ _ _ => (pg_name (i := 6) nd rfl (.inl rfl))) (fun _ _ _ _ _ => (pts_one (pt_cmpR op_le (pe_ix (ix_tupK (K := K) rfl) (pe_ix (ix_listK (K := K) rfl) (pv 0) (pv 6) (fun _ _ => rfl)) pe_int (fun _ _ => rfl)) (pv 3) (nomark _)))) (fun _ _ _ _ _ => (pv 6)))
          (pss_cons (ps_if (pt_not (pt_truth (pv 4) (fun _ => rfl)))
            (pss_one (ps_ret pe_non))
            pss_nil)
          (pss_cons (ps_set (i := 5) nd rfl (.inl rfl) (pe_minT (T := T.tabs) (c := T.c_told_order) (P := T.P_told_order) (k := 0) (kx := "k") (N := ["k", "windows"]) (fr := ["windows"]) (js := [0]) TB_told_order rfl T.hm_told_order T.hu_told_order (by rfl) T.m_min (hr.mono (by decide)) (pa_cons (pv 4) pa_nil) (NdefX.nscope_by (by decide +kernel)) (by rfl) (by rfl) (fun f c' s H hr2 => (pe_tup (pa_cons (pe_ix (ix_tupK (K := K) rfl) (pe_ix (ix_listK (K := K) rfl) (pv 1) (pv 0) (fun _ _ => rfl)) pe_int (fun _ _ => rfl)) (pa_cons (pv 0) pa_nil))))))
          (pss_cons (ps_if (pt_cmpR op_lt (pe_ix ix_tup (pe_ix ix_list (pv 0) (pv 5) (fun _ _ => rfl)) pe_int (fun _ _ => rfl)) (pv 3) (nomark _))
            (pss_one (ps_ret pe_non))
            pss_nil)
          (pss_cons (ps_expr (pe_bm PySem.F.plainAttrs_list PySem.F.slot_list_remove PySem.F.type_list_remove mt_remove (pv 1) (pa_cons (pv 5) pa_nil)))
          (pss_one (ps_expr (pe_bm PySem.F.plainAttrs_list PySem.F.slot_list_append PySem.F.type_list_append mt_append (pv 2) (pa_cons (pv 5) pa_nil))))))))))
      (pss_one (ps_ret (pv 2)))))), ?_⟩
    refine q_asgL (el_rgI (n := qs.length) (ev_is (ev_len (ev_var rfl) (sq_of hl)) (by rw [refs_len])) (by omega)) fun pf H1 hpf e1 h1 => ?_
    refine q_asgL (el_lst ea_nil (by decide)) fun pr H2 hpr e2 h2 => ?_
    have ex2 := e1.trans e2
    refine q_forR2 (lo := 1) (n := (qs.length : Int) + 1) (ea_cons ev_c (ea_cons (ev_op (ev_is (ev_len (ev_var rfl) (sq_of (ex2 _ _ hl))) (by rw [refs_len])) ev_c rv_I0) ea_nil)) ⟨by omega, by omega, by omega, by omega⟩
      (fun i σ' H' => ∃ (row : List Nat) (y3 y4 y5 y6 : Option V), σ' = [some (.ref l), some (.ref pf), some (.ref pr), y3, y4, y5, y6] ∧ greedy (wsOf qs) i = some row ∧ LamX.ExtN H H' ∧ LamX.Tabs T.tabs H' ∧ H' pf = some (.lst ((natI (freeI qs.length row)).map V.int)) ∧ H' pr = some (.lst ((natI row).map V.int)) ∧ row.length = i) ?_ ?_ ?_
    · intro H3 e3
      refine ⟨[], none, none, none, none, rfl, rfl, exN_of (ex2.trans e3), hT.ext (ex2.trans e3), ?_, e3 _ _ h2, rfl⟩
      rw [free_nil]
      exact e3 _ _ (e2 _ _ h1)
    · rintro i σ' H3 hi ⟨row, y3, y4, y5, y6, rfl, hg, eN, hT3, hf3, hr3, hri⟩
      have hl3 := exN_l eN hl
      have ht3 := ht.exN eN
      have hp0 : ∀ o, H pf = some o → ∃ ps, o = .tbl ps := fun o z => by rw [hpf] at z; cases z
      have hp1 : ∀ o, H pr = some o → ∃ ps, o = .tbl ps := fun o z => by rw [fresh_back e1 hpr] at z; cases z
      have npr : pr ≠ pf := fun z => by rw [z, h1] at hpr; cases hpr
      have hfl := free_len qs.length row
      have ti : (1 : Int) + (i : Int) = (i : Int) + 1 := by omega
      rw [ti]
      refine q_asgL (xs := (natI (rdyI (wsOf qs) row ((i : Int) + 1))).map V.int) ?_ fun py H4 hpy e4 h4 => ?_
      · rw [natI_int, show rdyI (wsOf qs) row ((i : Int) + 1) = (freeI qs.length row).filter (fun k => decide (firstI (wsOf qs) k ≤ (i : Int) + 1)) from by unfold rdyI; rw [ws_len], ← nat_given, show (freeI qs.length row).length = ((natI (freeI qs.length row)).map V.int).length by rw [List.length_map, natI_len]]
        refine el_lcL _ _ (ev_var rfl) (sq_of hf3) (by rw [List.length_map, natI_len]; omega) (fun x => rfl) (fun j x Hb eb gx => ?_) (fun j x Hb eb gx _ => ?_)
        · obtain ⟨k, rfl, gk, ek⟩ := nat_at gx
          have hk := free_lt (List.mem_of_getElem? gk)
          obtain ⟨w, gw⟩ : ∃ w, qs[k]? = some w := ⟨_, List.getElem?_eq_getElem hk⟩
          have hw := ht3.ex eb w (List.mem_of_getElem? gw)
          rw [ek, win_first gw]
          exact et_test (ev_op (ev_w0 (ev_win (ev_var rfl) (ev_var rfl) (sq_of (eb _ _ hl3)) gw) hw) (ev_var rfl) rv_I0)
        · obtain ⟨k, rfl, gk, ek⟩ := nat_at gx
          rw [ek]
          exact ev_var rfl
      refine q_when (et_not (tru_l (ev_var rfl) h4)) (fun hb H5 e5 => ?_) (fun hb H5 e5 => ?_)
      · have em : rdyI (wsOf qs) row ((i : Int) + 1) = [] := by
          cases hc : rdyI (wsOf qs) row ((i : Int) + 1) with
          | nil => rfl
          | cons x xs => rw [hc] at hb; cases hb
        have ng := greedy_none' (greedy_empty hg em) (n := qs.length) (by omega)
        refine s_ret ev_c fun H6 e6 => ?_
        have e36 := (e4.trans e5).trans e6
        exact qN H6 ng (eN.trans (exN_of e36)) (hT3.ext e36)
      · have ne : rdyI (wsOf qs) row ((i : Int) + 1) ≠ [] := fun z => by rw [z] at hb; cases hb
        have hT5 := hT3.ext (e4.trans e5)
        have h45 := e5 _ _ h4
        have hl5 := (e4.trans e5) _ _ hl3
        have ht5 := ht3.ex (e4.trans e5)
        have hly : l ≠ py := fun z => by rw [z] at hl3; rw [hpy] at hl3; cases hl3
        have hlen : ((natI (rdyI (wsOf qs) row ((i : Int) + 1))).map V.int).length = (rdyI (wsOf qs) row ((i : Int) + 1)).length := by rw [List.length_map, natI_len]
        have hpos : 0 < (rdyI (wsOf qs) row ((i : Int) + 1)).length := List.length_pos_iff.mpr ne
        refine q_minT (tk (lastI (wsOf qs)) (rdyI (wsOf qs) row ((i : Int) + 1))) (ev_var rfl) h45 (by rw [hlen]; exact hpos) hT5 (fun Hf hHf j x gx => ?_) fun H6 y e6 T6 hy => ?_
        · obtain ⟨k, rfl, gk, ek⟩ := nat_at gx
          have hk := free_lt (List.mem_filter.mp (List.mem_of_getElem? gk)).1
          rw [ws_len] at hk
          obtain ⟨w, gw⟩ : ∃ w, qs[k]? = some w := ⟨_, List.getElem?_eq_getElem hk⟩
          have hw := hHf _ _ (ht5 w (List.mem_of_getElem? gw)) (fun _ z => nomatch z) (fun z => by have := ht5 w (List.mem_of_getElem? gw); rw [z, h45] at this; cases this)
          have hlf := hHf _ _ hl5 (fun _ z => nomatch z) hly
          have hkk : (tk (lastI (wsOf qs)) (rdyI (wsOf qs) row ((i : Int) + 1)) j).map V.int = [V.int w.2.2, .int (k : Int)] := by
            unfold tk
            rw [ek, win_last gw]
            rfl
          rw [hkk]
          exact eu_tup (ea_cons (ev_w1 (ev_win (ev_var rfl) (ev_var rfl) (sq_of hlf) gw) hw) (ea_cons (ev_var rfl) ea_nil)) (by show 2 ≤ 100000; decide)
        · rw [hlen] at hy
          have hb6 := arg_best (f := lastI (wsOf qs)) ne (rdy_inc (wsOf qs) row ((i : Int) + 1))
          obtain ⟨c', rfl, gc, _⟩ := nat_at hy
          obtain rfl : c' = bestI (lastI (wsOf qs)) (rdyI (wsOf qs) row ((i : Int) + 1)) := Option.some.inj (gc.symm.trans hb6)
          have hbm := best_mem (f := lastI (wsOf qs)) ne
          have hfre := (List.mem_filter.mp hbm).1
          have hk := free_lt hfre
          rw [ws_len] at hk hfre
          have hg0 := fun z => greedy_none' (greedy_late hg ne z) (n := qs.length) (by omega)
          have hg1 := greedy_step hg ne
          generalize bestI (lastI (wsOf qs)) (rdyI (wsOf qs) row ((i : Int) + 1)) = c at hk hfre hg0 hg1 ⊢
          obtain ⟨w, gw⟩ : ∃ w, qs[c]? = some w := ⟨_, List.getElem?_eq_getElem hk⟩
          have eN6 := (exN_of (e4.trans e5)).trans e6
          have hl6 := exN_l eN6 hl3
          have ht6 := ht3.exN eN6
          have hf6 := exN_l eN6 hf3
          have hr6 := exN_l eN6 hr3
          have hw := ht6 w (List.mem_of_getElem? gw)
          rw [win_last gw] at hg0 hg1
          refine q_when (et_test (ev_op (ev_w1 (ev_win (ev_var rfl) (ev_var rfl) (sq_of hl6) gw) hw) (ev_var rfl) rv_I0)) (fun hb H7 e7 => ?_) (fun hb H7 e7 => ?_)
          · refine s_ret ev_c fun H8 e8 => ?_
            exact qN H8 (hg0 (of_decide_eq_true hb)) ((eN.trans eN6).trans (exN_of (e7.trans e8))) (T6.ext (e7.trans e8))
          · obtain ⟨j, gj⟩ := List.getElem?_of_mem hfre
            refine s_remove (e7 _ _ hf6) (ev_var rfl) (ev_var rfl) (free_inc _ _) gj fun H8 e8 => ?_
            have e68 := e7.trans e8
            refine s_app (l := pr) (xs := (natI row).map V.int) (by rw [upd_ne npr]; exact e68 _ _ hr6) (ev_var rfl) (ev_var rfl) (by rw [List.length_map, natI_len]; omega) fun H9 e9 => ?_
            refine ⟨row ++ [c], _, _, _, _, rfl, hg1 (of_decide_eq_false hb), ?_, ?_, ?_, ?_, by rw [List.length_append, hri]; rfl⟩
            · refine exN_up ?_ hp1
              exact (exN_up ((eN.trans eN6).trans (exN_of e68)) hp0).trans (exN_of e9)
            · refine tabs_upd ?_ (e9 _ _ (by rw [upd_ne npr]; exact e68 _ _ hr6))
              exact (tabs_upd (T6.ext e68) (e68 _ _ hf6)).ext e9
            · rw [upd_ne npr.symm, free_add]
              exact e9 _ _ upd_same
            · rw [upd_same]
              unfold natI
              rw [List.map_append, List.map_append]
              rfl
    · rintro σ' H3 ⟨row, y3, y4, y5, y6, rfl, hg, eN, hT3, hf3, hr3, hri⟩
      rw [show ((qs.length : Int) + 1 - 1).toNat = qs.length by omega] at hg
      refine s_ret (ev_var rfl) fun H4 e4 => ?_
      exact qS row H4 pr hg (fresh_back e1 hpr) (eN.trans (exN_of e4)) (hT3.ext e4) (e4 _ _ hr3)
end

end Su
namespace Su
/-! ### surplus, fullest_span -/
def surp (ws : List (Int × Int)) (a b : Int) : Int := ((inside ws a b).length : Int) - roundsB a b
def turnsI (n : Nat) : List Int := (List.range n).map fun i : Nat => (1 : Int) + (i : Int)
theorem el_turns {σ : L2.St} {H : Hp} {ta tb : TE} {n : Nat} (ha : Ev ta σ H (.int 1)) (hb : Ev tb σ H (.int ((n : Int) + 1))) (hn : n ≤ 16000000) : EvL (tLstRg (tRg2 ta tb)) σ H ((turnsI n).map V.int) := fun H0 e Q q =>
  ha H0 e _ fun H1 e1 => hb H1 (e.trans e1) _ fun H2 e2 => ⟨1, (n : Int) + 1, rfl, rfl, RgOk.of_le (by omega) (by omega) (by omega) (by omega), fun p hp => q p _ (fresh_back (e1.trans e2) hp) ((e1.trans e2).trans (Ex.new hp)) (by
    rw [upd_same]
    unfold rgV turnsI
    rw [List.map_map, show ((n : Int) + 1 - 1).toNat = n by omega]
    rfl)⟩
theorem turns_at {n i : Nat} {x : V} (h : ((turnsI n).map V.int)[i]? = some x) : x = .int ((1 : Int) + (i : Int)) ∧ i < n := by
  unfold turnsI at h
  rw [List.map_map, List.getElem?_map] at h
  by_cases hi : i < n
  · rw [List.getElem?_range hi] at h
    exact ⟨(Option.some.inj h).symm, hi⟩
  · rw [List.getElem?_eq_none (by rw [List.length_range]; omega)] at h
    cases h
theorem turns_len (n : Nat) : ((turnsI n).map V.int).length = n := by
  unfold turnsI
  rw [List.length_map, List.length_map, List.length_range]
theorem arg_max (ks : Nat → Int) : ∀ m, (∀ i ≤ m, ks i ≤ ks (argBest (fun i j => decide (ks j < ks i)) m)) ∧ argBest (fun i j => decide (ks j < ks i)) m ≤ m
  | 0 => ⟨fun i hi => by rw [show i = 0 by omega]; exact Int.le_refl _, Nat.le_refl _⟩
  | m + 1 => by
    obtain ⟨h1, h2⟩ := arg_max ks m
    show (∀ i ≤ m + 1, ks i ≤ ks (if decide (ks (argBest (fun i j => decide (ks j < ks i)) m) < ks (m + 1)) = true then m + 1 else argBest (fun i j => decide (ks j < ks i)) m)) ∧ (if decide (ks (argBest (fun i j => decide (ks j < ks i)) m) < ks (m + 1)) = true then m + 1 else argBest (fun i j => decide (ks j < ks i)) m) ≤ m + 1
    generalize argBest (fun i j => decide (ks j < ks i)) m = g at h1 h2 ⊢
    by_cases c : ks g < ks (m + 1)
    · rw [if_pos (decide_eq_true c)]
      refine ⟨fun i hi => ?_, Nat.le_refl _⟩
      by_cases z : i = m + 1
      · rw [z]; exact Int.le_refl _
      · have := h1 i (by omega)
        omega
    · rw [if_neg (by simpa using c)]
      refine ⟨fun i hi => ?_, by omega⟩
      by_cases z : i = m + 1
      · rw [z]; omega
      · exact h1 i (by omega)
/-- the list [.. for x in xs for y in ys] without a test -/
theorem lc2_list {K : PySem.W.Frag} {σ : L2.St} {H : Hp} {tl tl1 te : TE} {i1 i2 : Nat} {vs vs1 : List Nat} {a b : Addr} {xs ys : List V} {Q : VK} (h : Ev tl σ H (.ref a)) (hx : SqL K H a xs) (Pv : Addr → Nat → Nat → Hp → Prop)
    (hw : ∀ x, wipe ((wipe σ vs).set i1 (some x)) vs = wipe σ vs) (hw1 : ∀ x y, wipe ((wipe ((wipe σ vs).set i1 (some x)) vs1).set i2 (some y)) vs1 = wipe ((wipe σ vs).set i1 (some x)) vs1)
    (h0 : ∀ D H1, H1 D = none → Ex H H1 → Pv D 0 0 (upd H1 D (.lst []))) (hl : ∀ D i j H', Pv D i j H' → SqL K H' a xs ∧ SqL K H' b ys) (hi : ∀ D i x H', Pv D i 0 H' → Ev tl1 ((wipe σ vs).set i1 (some x)) H' (.ref b)) (hE : ∀ D i H' H'', Pv D i 0 H' → Ex H' H'' → Pv D i 0 H'')
    (hs : ∀ D i j x y H', xs[i]? = some x → ys[j]? = some y → Pv D i j H' → te ((wipe ((wipe σ vs).set i1 (some x)) vs1).set i2 (some y)) H' fun v H2 => ∃ acc, H2 D = some (.lst acc) ∧ acc.length < sizeLine ∧ Pv D i (j + 1) (upd H2 D (.lst (acc ++ [v]))))
    (ht : ∀ D i H', i < xs.length → Pv D i ys.length H' → Pv D (i + 1) 0 H') (hd : ∀ D H', Pv D xs.length 0 H' → Q (.ref D) H') :
    tLc2 (iList K tl) (gName i1) tYes (iList K tl1) (gName i2) tYes te vs vs1 σ H Q :=
  h H (Ex.refl H) _ fun H1 e1 => ⟨a, rfl, ⟨xs, ex_l e1 hx⟩, fun D hD => by
    refine ⟨fun i m H' => m = xs.length - i ∧ i ≤ xs.length ∧ Pv D i 0 H', ⟨xs.length, by simp, Nat.zero_le _, h0 D H1 hD e1⟩, ?_⟩
    rintro i m H' ⟨rfl, hi', p⟩
    obtain ⟨hX, _⟩ := hl D i 0 H' p
    by_cases hlt : i < xs.length
    · refine .inr ⟨⟨xs, xs[i], hX, List.getElem?_eq_getElem hlt⟩, Pv D (i + 1) 0, fun H2 p' => ⟨xs.length - (i + 1), by omega, rfl, hlt, p'⟩, fun x H2 hx2 => ?_⟩
      obtain ⟨rfl, hxx⟩ := hx2
      have gx := hxx xs hX
      refine ⟨hw x, ?_⟩
      unfold tYes
      dsimp only
      rw [if_pos rfl]
      refine hi D i x _ p _ (Ex.refl _) _ fun H3 e3 => ?_
      have p3 := hE D i _ H3 p e3
      refine ⟨b, rfl, ⟨ys, (hl D i 0 H3 p3).2⟩, fun j k H4 => k = ys.length - j ∧ j ≤ ys.length ∧ Pv D i j H4, ⟨ys.length, by simp, Nat.zero_le _, p3⟩, ?_⟩
      rintro j k H4 ⟨rfl, hj, p4⟩
      obtain ⟨_, hY⟩ := hl D i j H4 p4
      by_cases hjt : j < ys.length
      · refine .inr ⟨⟨ys, ys[j], hY, List.getElem?_eq_getElem hjt⟩, Pv D i (j + 1), fun H5 p' => ⟨ys.length - (j + 1), by omega, rfl, hjt, p'⟩, fun y H5 hy => ?_⟩
        obtain ⟨rfl, hyy⟩ := hy
        have gy := hyy ys hY
        refine ⟨hw1 x y, ?_⟩
        rw [if_pos rfl]
        exact hs D i j x y _ gx gy p4
      · have ej : j = ys.length := by omega
        subst ej
        exact .inl ⟨⟨ys, hY, Nat.le_refl _⟩, ht D i H4 hlt p4⟩
    · have ei : i = xs.length := by omega
      subst ei
      exact .inl ⟨⟨xs, hX, Nat.le_refl _⟩, hd D H' p⟩⟩
theorem q_lc2 {K : PySem.W.Frag} {σ : L2.St} {H : Hp} {tl tl1 te : TE} {i1 i2 : Nat} {vs vs1 : List Nat} {a b : Addr} {xs ys : List V} {Dn : Ends} {tz : TS} {i3 : Nat} (h : Ev tl σ H (.ref a)) (hx : SqL K H a xs) (Pv : Addr → Nat → Nat → Hp → Prop)
    (hw : ∀ x, wipe ((wipe σ vs).set i1 (some x)) vs = wipe σ vs) (hw1 : ∀ x y, wipe ((wipe ((wipe σ vs).set i1 (some x)) vs1).set i2 (some y)) vs1 = wipe ((wipe σ vs).set i1 (some x)) vs1)
    (h0 : ∀ D H1, H1 D = none → Ex H H1 → Pv D 0 0 (upd H1 D (.lst []))) (hl : ∀ D i j H', Pv D i j H' → SqL K H' a xs ∧ SqL K H' b ys) (hi : ∀ D i x H', Pv D i 0 H' → Ev tl1 ((wipe σ vs).set i1 (some x)) H' (.ref b)) (hE : ∀ D i H' H'', Pv D i 0 H' → Ex H' H'' → Pv D i 0 H'')
    (hs : ∀ D i j x y H', xs[i]? = some x → ys[j]? = some y → Pv D i j H' → te ((wipe ((wipe σ vs).set i1 (some x)) vs1).set i2 (some y)) H' fun v H2 => ∃ acc, H2 D = some (.lst acc) ∧ acc.length < sizeLine ∧ Pv D i (j + 1) (upd H2 D (.lst (acc ++ [v]))))
    (ht : ∀ D i H', i < xs.length → Pv D i ys.length H' → Pv D (i + 1) 0 H') (hd : ∀ D H', Pv D xs.length 0 H' → tz Dn (σ.set i3 (some (.ref D))) H') :
    tSeq (tAsg (tLc2 (iList K tl) (gName i1) tYes (iList K tl1) (gName i2) tYes te vs vs1) (gName i3)) tz Dn σ H := lc2_list (Q := fun v H' => tz Dn (σ.set i3 (some v)) H') h hx Pv hw hw1 h0 hl hi hE hs ht hd
theorem pi_listK {X : Cx} {K : PySem.W.Frag} {tg l : Expr} {tl : TE} (hl : PE X l tl) (h : X.K = K := by rfl) : PI X tg l (iList K tl) := h ▸ pi_list hl
section
variable {P : Program} {w : World} {K : PySem.W.Frag} {mg : Str → Option Value} {base : Heap}
def spSurp (K : PySem.W.Frag) : Sp := fun vs H Q _ => ∃ (l : Addr) (qs : List Win) (a b : Int), vs = [.ref l, .int a, .int b] ∧ SqL K H l (refs qs) ∧ TW H qs ∧ qs.length ≤ 1000 ∧ ∀ H', Ex H H' → Q (.int (surp (wsOf qs) a b)) H'
theorem spV_surp {l : Addr} {qs : List Win} {a b : Int} {H : Hp} (hl : SqL K H l (refs qs)) (ht : TW H qs) (hn : qs.length ≤ 1000) : SpV (spSurp K) [.ref l, .int a, .int b] H (.int (surp (wsOf qs) a b)) := fun H1 e Q q _ => ⟨l, qs, a, b, rfl, ex_l e hl, ht.ex e, hn, q⟩
theorem ok_surplus {f : Addr} {fd : FuncData} (F : Fun K "surplus" "surplus" s_surplus f fd) (T : Top K mg) : FnOk P w K mg base CX0 2 f fd ["windows", "a", "b"] (spSurp K) := by
  have nd := sc_surplus.nd
  have G_within : FnOk P w K mg base CX0 1 T.f_within T.fd_within ["windows", "a", "b"] (spWithin K) := ok_within T.F_within T
  have G_rounds_between : FnOk P w K mg base CX0 1 T.f_rounds_between T.fd_rounds_between ["a", "b"] spRounds := ok_rounds_between T.F_rounds_between T
  refine F.ok sc_surplus (fun vs H Q E h => ?_) (fun cdv A outer s H vs Q E hr h => ?_)
  · obtain ⟨l, qs, a, b, rfl, _⟩ := h
    rfl
  · obtain ⟨l, qs, a, b, rfl, hl, ht, hn, q⟩ := h
    refine ⟨_, (pss_one (ps_ret (pe_op op_sub (pe_callB call_len_seq (by rfl) T.m_len PySem.boot_len (pa_cons (pe_call G_within (hr.mono (by omega)) (by rfl) T.m_within T.F_within.kp T.b_within .nil pass0 (pa_cons (pv 0) (pa_cons (pv 1) (pa_cons (pv 2) pa_nil)))) pa_nil)) (pe_call G_rounds_between (hr.mono (by omega)) (by rfl) T.m_rounds_between T.F_rounds_between.kp T.b_rounds_between .nil pass0 (pa_cons (pv 1) (pa_cons (pv 2) pa_nil)))))), ?_⟩
    refine s_ret (ev_op (ev_is (ev_lenN (el_call (by walk_at "ea") (spL_within hl ht hn))) (by rw [List.length_map])) (ev_call (by walk_at "ea") spV_rounds) rv_I0) fun H1 e1 => q H1 e1
open LamX in
def spSpan (T : List (Addr × Str)) : Sp := fun vs H Q _ => ∃ (l : Addr) (qs : List Win), vs = [.ref l] ∧ H l = some (.lst (refs qs)) ∧ TW H qs ∧ qs.length ≤ 100 ∧ 1 ≤ qs.length ∧ LamX.Tabs T H ∧
  ∀ (a b : Int) H' t, 1 ≤ a → a ≤ qs.length → 1 ≤ b → b ≤ qs.length → (∀ c d : Int, 1 ≤ c → c ≤ qs.length → 1 ≤ d → d ≤ qs.length → surp (wsOf qs) c d ≤ surp (wsOf qs) a b) → LamX.ExtN H H' → LamX.Tabs T H' → H' t = some (.tup [.int a, .int b]) → Q (.ref t) H'
def surpOf (ws : List (Int × Int)) (sp : List Win) (i : Nat) : Int := match sp[i]? with
  | some q => surp ws q.2.1 q.2.2
  | none => 0
theorem ok_fullest_span {f : Addr} {fd : FuncData} (T : Top K mg) (F : FunC K "fullest_span" "fullest_span" s_fullest_span f fd T.c_fullest_span) (TB_fullest_span : LamX.TabB base mg T.c_fullest_span T.P_fullest_span) : FnOk P w K mg base CX0 5 f fd ["windows"] (spSpan T.tabs) := by
  have nd := sc_fullest_span.nd
  have G_surplus : FnOk P w K mg base CX0 2 T.f_surplus T.fd_surplus ["windows", "a", "b"] (spSurp K) := ok_surplus T.F_surplus T
  refine F.ok sc_fullest_span (fun vs H Q E h => ?_) (fun A outer s H vs Q E hr h => ?_)
  · obtain ⟨l, qs, rfl, _⟩ := h
    rfl
  · obtain ⟨l, qs, rfl, hl, ht, hn, hn1, hT, q⟩ := h
    refine ⟨_, (pss_cons (ps_set (i := 1) nd rfl (.inr rfl) (pe_listRg rfl (by rfl) T.m_list (prg_2 (by rfl) T.m_range pe_int (pe_op op_add (pe_callB call_len_seq (by rfl) T.m_len PySem.boot_len (pa_cons (pv 0) pa_nil)) pe_int))))
      (pss_cons (ps_setLc2 (i := 2) (own := [("a", 3), ("b", 4)]) (vs1 := [4]) (g := gName 3) (tt := tYes) (g1 := gName 4) (tt1 := tYes) rfl nd rfl rfl (sw_true rfl rfl rfl (by decide +kernel)) (pi_list (pv 1)) (blkOk_by (own := [("a", 3), ("b", 4)]) (N := Su.N_fullest_span) (sc := defScope s_fullest_span) (by decide +kernel)) (by decide) (fun _ _ _ _ _ => (pg_name (i := 3) nd rfl (.inl rfl))) (fun _ _ _ _ _ => pts_nil) (fun _ _ _ _ _ => (pi_listK (K := K) (pv 1))) (fun _ _ _ _ _ => (pg_name (i := 4) nd rfl (.inl rfl))) (fun _ _ _ _ _ => pts_nil) (fun _ _ _ _ _ => (pe_tup (pa_cons (pv 3) (pa_cons (pv 4) pa_nil)))))
      (pss_one (ps_ret (pe_maxI (T := T.tabs) (c := T.c_fullest_span) (P := T.P_fullest_span) (k := 2) (kx := "span") (N := ["span", "windows"]) (fr := ["windows"]) (js := [0]) TB_fullest_span rfl T.hm_fullest_span T.hu_fullest_span (by rfl) T.m_max (hr.mono (by decide)) (pa_cons (pv 2) pa_nil) (NdefX.nscope_by (by decide +kernel)) (by rfl) (by rfl) (fun f c' s H hr2 => (pe_call G_surplus (hr2.mono (by decide)) (by rfl) T.m_surplus T.F_surplus.kp T.b_surplus .nil pass0 (pa_cons (pv 1) (pa_cons (pe_ix (ix_tupK (K := K) rfl) (pv 0) pe_int (fun _ _ => rfl)) (pa_cons (pe_ix (ix_tupK (K := K) rfl) (pv 0) pe_int (fun _ _ => rfl)) pa_nil)))))))))), ?_⟩
    refine q_asgL (el_turns (n := qs.length) ev_c (ev_op (ev_is (ev_len (ev_var rfl) (sq_of hl)) (by rw [refs_len])) ev_c rv_I0) (by omega)) fun pt H1 hpt e1 h1 => ?_
    have hl1 := e1 _ _ hl
    refine q_lc2 (K := K) (a := pt) (b := pt) (xs := (turnsI qs.length).map V.int) (ys := (turnsI qs.length).map V.int) ?_ (sq_of h1)
      (fun D i j H' => ∃ sp : List Win, H1 D = none ∧ Ex H1 H' ∧ H' D = some (.lst (refs sp)) ∧ TW H' sp ∧ sp.length = i * qs.length + j ∧ i ≤ qs.length ∧ j ≤ qs.length ∧ (∀ q ∈ sp, (1 ≤ q.2.1 ∧ q.2.1 ≤ qs.length) ∧ 1 ≤ q.2.2 ∧ q.2.2 ≤ qs.length) ∧ ∀ c d : Int, 1 ≤ c → c ≤ qs.length → 1 ≤ d → d ≤ qs.length → (c ≤ i ∨ (c = i + 1 ∧ d ≤ j)) → ∃ q ∈ sp, q.2 = (c, d))
      ?_ ?_ ?_ ?_ ?_ ?_ ?_ ?_ ?_
    · exact ev_var rfl
    · exact fun x => rfl
    · exact fun x y => rfl
    · intro D H2 hD e2
      exact ⟨[], fresh_back e2 hD, Ex.mut e2 (fresh_back e2 hD), upd_same, TW.nil, by simp, by omega, by omega, fun q hq => absurd hq List.not_mem_nil, fun c d _ _ _ _ h => by omega⟩
    · rintro D i j H' ⟨sp, hD, ex, _⟩
      exact ⟨sq_of (ex _ _ h1), sq_of (ex _ _ h1)⟩
    · rintro D i x H' ⟨sp, hD, ex, _⟩
      exact ev_var rfl
    · rintro D i H' H'' ⟨sp, hD, ex, h2, h3, h4⟩ e
      exact ⟨sp, hD, ex.trans e, e _ _ h2, h3.ex e, h4⟩
    · rintro D i j x y H' gx gy ⟨sp, hD, ex, h2, h3, h4, hi, hj, h5, h6⟩
      obtain ⟨rfl, hi'⟩ := turns_at gx
      obtain ⟨rfl, hj'⟩ := turns_at gy
      refine (show EvU (tTup (tCons (tVar 3) (tCons (tVar 4) tNil))) [some (.ref l), some (.ref pt), none, some (.int (1 + (i : Int))), some (.int (1 + (j : Int)))] H' [V.int (1 + (i : Int)), V.int (1 + (j : Int))] from eu_tup (ea_cons (ev_var rfl) (ea_cons (ev_var rfl) ea_nil)) (by show 2 ≤ 100000; decide)) H' (Ex.refl H') _ fun t H2 ht2 e2 h2t => ?_
      have hb : i * qs.length + j ≤ 100 * 100 + 100 := by
        have := Nat.mul_le_mul (show i ≤ 100 by omega) hn
        omega
      refine ⟨refs sp, e2 _ _ h2, sz_lt (by rw [refs_len]; omega), sp ++ [(t, 1 + (i : Int), 1 + (j : Int))], hD, Ex.mut (ex.trans e2) hD, ?_, ?_, by rw [List.length_append, h4]; rfl, hi, by omega, ?_, ?_⟩
      · rw [upd_same]
        unfold refs
        rw [List.map_append]
        rfl
      · refine TW.add ((h3.ex e2).upd (e2 _ _ h2)) ?_
        rw [upd_ne (ne_of h2t (e2 _ _ h2) (fun z => nomatch z))]
        exact h2t
      · intro q hq
        rcases List.mem_append.mp hq with hq | hq
        · exact h5 q hq
        · obtain rfl := List.mem_singleton.mp hq
          exact ⟨⟨by show (1 : Int) ≤ 1 + i; omega, by show 1 + (i : Int) ≤ _; omega⟩, by show (1 : Int) ≤ 1 + j; omega, by show 1 + (j : Int) ≤ _; omega⟩
      · intro c d c1 c2 d1 d2 hcd
        by_cases z : c ≤ i ∨ (c = i + 1 ∧ d ≤ j)
        · obtain ⟨q, hq, e⟩ := h6 c d c1 c2 d1 d2 z
          exact ⟨q, List.mem_append_left _ hq, e⟩
        · refine ⟨_, List.mem_append_right _ (List.mem_singleton.mpr rfl), ?_⟩
          show ((1 : Int) + i, (1 : Int) + j) = (c, d)
          rw [show c = 1 + (i : Int) by omega, show d = 1 + (j : Int) by omega]
    · rintro D i H' hi ⟨sp, hD, ex, h2, h3, h4, hi', hj, h5, h6⟩
      rw [turns_len] at hi h4 h6
      refine ⟨sp, hD, ex, h2, h3, by rw [h4, Nat.succ_mul]; omega, by omega, by omega, h5, fun c d c1 c2 d1 d2 hcd => h6 c d c1 c2 d1 d2 ?_⟩
      omega
    · rintro D H' ⟨sp, hD, ex, h2, h3, h4, hi', hj, h5, h6⟩
      rw [turns_len] at h4 h6
      have hlD : l ≠ D := fun z => by rw [z] at hl1; rw [hD] at hl1; cases hl1
      have hpos : 0 < sp.length := by
        rw [h4]
        have := Nat.mul_le_mul hn1 hn1
        omega
      refine s_retMaxI (surpOf (wsOf qs) sp) (ev_var rfl) h2 (by rw [refs_len]; exact hpos) (hT.ext (e1.trans ex)) (fun Hf hHf i x gx => ?_) fun H3 y e3 T3 hy => ?_
      · obtain ⟨r, gr, rfl⟩ := refs_at gx
        have hr' := hHf _ _ (h3 r (List.mem_of_getElem? gr)) (fun _ z => nomatch z) (fun z => by have := h3 r (List.mem_of_getElem? gr); rw [z, h2] at this; cases this)
        have hlf := hHf _ _ (ex _ _ hl1) (fun _ z => nomatch z) hlD
        have htf : TW Hf qs := fun q hq => by
          have hq' := ex _ _ (e1 _ _ (ht q hq))
          exact hHf _ _ hq' (fun _ z => nomatch z) (fun z => by rw [z, h2] at hq'; cases hq')
        unfold surpOf
        rw [gr]
        exact ev_call (ea_cons (ev_var rfl) (ea_cons (ev_w0 (ev_var rfl) hr') (ea_cons (ev_w1 (ev_var rfl) hr') ea_nil))) (spV_surp (sq_of hlf) htf (by omega))
      · rw [refs_len] at hy
        obtain ⟨m1, m2⟩ := arg_max (surpOf (wsOf qs) sp) (sp.length - 1)
        generalize argBest (fun i j => decide (surpOf (wsOf qs) sp j < surpOf (wsOf qs) sp i)) (sp.length - 1) = g at hy m1 m2
        obtain ⟨r, gr, rfl⟩ := refs_at hy
        have hm := List.mem_of_getElem? gr
        obtain ⟨⟨a1, a2⟩, b1, b2⟩ := h5 r hm
        refine q r.2.1 r.2.2 H3 r.1 a1 a2 b1 b2 (fun c d c1 c2 d1 d2 => ?_) ((exN_of (e1.trans ex)).trans e3) T3 (e3 _ _ (h3 r hm) fun _ z => nomatch z)
        obtain ⟨q', hq', eq'⟩ := h6 c d c1 c2 d1 d2 (.inl (by omega))
        obtain ⟨k, gk⟩ := List.getElem?_of_mem hq'
        have := m1 k (by have := (List.getElem?_eq_some_iff.mp gk).1; omega)
        unfold surpOf at this
        rw [gk, gr] at this
        have this : surp (wsOf qs) q'.2.1 q'.2.2 ≤ surp (wsOf qs) r.2.1 r.2.2 := this
        rw [eq'] at this
        exact this
end

end Su
namespace Su
/-! ### more ways of calls -/
theorem s_forE1 {K : PySem.W.Frag} {te : TE} {g : TG} {tb : TS} {D : Ends} {σ : L2.St} {H : Hp} {Pc : Addr → Hp → Prop} (hcall : ∀ Q : VK, (∀ p H1, Pc p H1 → Q (.ref p) H1) → te σ H Q) (k : ∀ p H1, Pc p H1 → tFor (iEnum K (tCons (tC (.ref p)) tNil)) g tb D σ H1) :
    tFor (iEnum K (tCons te tNil)) g tb D σ H := hcall _ fun p H1 h => k p H1 h
theorem s_tryw1 {sp : Sp} {W : WX} {te : TE} {xs : List V} {σ : L2.St} {H : Hp} {i : Nat} {D : Ends} (h : EvL te σ H xs) (hs : ∀ p H1, H p = none → Ex H H1 → H1 p = some (.lst xs) → sp [.ref p] H1 (fun v H2 => D.nx (σ.set i (some v)) H2) (WE W σ)) : tAsg (tCallS sp (WE W) (tCons te tNil)) (gName i) D σ H :=
  h H (Ex.refl H) _ fun p H1 hp e1 h1 => hs p H1 hp e1 h1
theorem rc_isi_lst {K : PySem.W.Frag} {H : Hp} {p : Addr} {xs : List V} {n : String} {b : Bool} (h : H p = some (.lst xs)) (hk : kitB "list" n = some b) : RC (rIsi K) [.ref p, .ty n] H (.bl b) :=
  fun H1 e _ q => ⟨.ref p, .ty n, .type "list", .type n, b, rfl, .ty n, .base (.lst (e _ _ h)), kit_ty hk, q H1 (Ex.refl H1)⟩
theorem int_eq {i j : Int} : decide (V.int i = V.int j) = decide (i = j) := by
  by_cases h : i = j
  · rw [h, decide_eq_true rfl, decide_eq_true rfl]
  · rw [decide_eq_false h, decide_eq_false (fun z => h (V.int.inj z))]
theorem q_callQ {sp : Sp} {dvs vs : List V} {E : XK} {ta : TA} {σ : L2.St} {H : Hp} {i : Nat} {D : Ends} {tz : TS} (h : EvA ta σ H vs) (k : ∀ H1, Ex H H1 → sp (vs ++ dvs) H1 (fun v H2 => tz D (σ.set i (some v)) H2) E) : tSeq (tAsg (tCall sp dvs E ta) (gName i)) tz D σ H :=
  h H (Ex.refl H) _ fun H1 e1 => k H1 e1

end Su
namespace Su
/-! ### a tuple whose last part is a new list -/
def EvAL (ta : TA) (σ : L2.St) (H : Hp) (vs xs : List V) : Prop := ∀ H1, Ex H H1 → ∀ Q : List V → Hp → Prop, (∀ l H2, H1 l = none → Ex H1 H2 → H2 l = some (.lst xs) → Q (vs ++ [.ref l]) H2) → ta σ H1 Q
theorem eal_one {te : TE} {σ : L2.St} {H : Hp} {xs : List V} (h : EvL te σ H xs) : EvAL (tCons te tNil) σ H [] xs := fun H1 e Q q => h H1 e _ fun p H2 hp e2 h2 => q p H2 hp e2 h2
theorem eal_cons {te : TE} {tr : TA} {σ : L2.St} {H : Hp} {x : V} {vs xs : List V} (h : Ev te σ H x) (hr : EvAL tr σ H vs xs) : EvAL (tCons te tr) σ H (x :: vs) xs := fun H1 e Q q =>
  h H1 e _ fun H2 e2 => hr H2 (e.trans e2) _ fun p H3 hp e3 h3 => q p H3 (fresh_back e2 hp) (e2.trans e3) h3
theorem q_asgUL {ta : TA} {σ : L2.St} {H : Hp} {vs xs : List V} {i : Nat} {D : Ends} {tz : TS} (h : EvAL ta σ H vs xs) (hz : vs.length ≤ 1000)
    (k : ∀ l p H1, H l = none → H p = none → Ex H H1 → H1 l = some (.lst xs) → H1 p = some (.tup (vs ++ [.ref l])) → tz D (σ.set i (some (.ref p))) H1) : tSeq (tAsg (tTup ta) (gName i)) tz D σ H :=
  h H (Ex.refl H) _ fun l H1 hl e1 h1 => ⟨sz_of (by rw [List.length_append]; show vs.length + 1 ≤ _; omega), fun p hp => k l p _ hl (fresh_back e1 hp) (e1.trans (Ex.new hp)) (by rw [upd_ne (ne_of_none h1 hp)]; exact h1) upd_same⟩
theorem s_retUL {ta : TA} {σ : L2.St} {H : Hp} {vs xs : List V} {D : Ends} (h : EvAL ta σ H vs xs) (hz : vs.length ≤ 1000)
    (k : ∀ l p H1, H l = none → H p = none → Ex H H1 → H1 l = some (.lst xs) → H1 p = some (.tup (vs ++ [.ref l])) → D.rt (.ref p) H1) : tRet (tTup ta) D σ H :=
  h H (Ex.refl H) _ fun l H1 hl e1 h1 => ⟨sz_of (by rw [List.length_append]; show vs.length + 1 ≤ _; omega), fun p hp => k l p _ hl (fresh_back e1 hp) (e1.trans (Ex.new hp)) (by rw [upd_ne (ne_of_none h1 hp)]; exact h1) upd_same⟩
theorem rv_notN {x : V} {H : Hp} : RV (fun x y H Q => y = .non ∧ Q (.bl (!decide (x = .non))) H) x .non H (.bl (!decide (x = .non))) := fun H1 _ Q q => ⟨rfl, q H1 (Ex.refl H1)⟩
theorem rv_isN {x : V} {H : Hp} : RV (fun x y H Q => y = .non ∧ Q (.bl (decide (x = .non))) H) x .non H (.bl (decide (x = .non))) := fun H1 _ Q q => ⟨rfl, q H1 (Ex.refl H1)⟩
theorem ref_non {p : Addr} : decide (V.ref p = .non) = false := decide_eq_false fun z => nomatch z
theorem non_non : decide (V.non = .non) = true := decide_eq_true rfl
theorem q_callG {sp : Sp} {dvs vs : List V} {E : XK} {ta : TA} {g : TG} {σ : L2.St} {H : Hp} {D : Ends} {tz : TS} (h : EvA ta σ H vs) (k : ∀ H1, Ex H H1 → sp (vs ++ dvs) H1 (fun v H2 => g v σ H2 (tz D)) E) : tSeq (tAsg (tCall sp dvs E ta) g) tz D σ H :=
  h H (Ex.refl H) _ fun H1 e1 => k H1 e1
theorem s_retCall1 {sp sp1 : Sp} {dvs dvs1 vs : List V} {E E1 : XK} {ta tr : TA} {σ : L2.St} {H : Hp} {D : Ends} (h : EvA ta σ H vs) (k : ∀ H1, Ex H H1 → sp1 (vs ++ dvs1) H1 (fun x H2 => tr σ H2 fun xs H3 => sp (x :: xs ++ dvs) H3 (fun v H4 => D.rt v H4) E) E1) : tRet (tCall sp dvs E (tCons (tCall sp1 dvs1 E1 ta) tr)) D σ H :=
  h H (Ex.refl H) _ fun H1 e1 => k H1 e1
theorem ta_oneU {te : TE} {σ : L2.St} {H : Hp} {xs : List V} {Q : List V → Hp → Prop} (h : EvU te σ H xs) (k : ∀ t H1, H t = none → Ex H H1 → H1 t = some (.tup xs) → Q [.ref t] H1) : tCons te tNil σ H Q := h H (Ex.refl H) _ k

end Su
namespace Su
/-! ### order_or_bar -/
section
variable {P : Program} {w : World} {K : PySem.W.Frag} {mg : Str → Option Value} {base : Heap}
/-- the span a, b is a fullest one -/
def Full (ws : List (Int × Int)) (a b : Int) : Prop := (1 ≤ a ∧ a ≤ ws.length ∧ 1 ≤ b ∧ b ≤ ws.length) ∧ ∀ c d : Int, 1 ≤ c → c ≤ ws.length → 1 ≤ d → d ≤ ws.length → surp ws c d ≤ surp ws a b
/-- the paper at t: the order's row at p, or the bar's crowd at p -/
def PaperAt (H : Hp) (ws : List (Int × Int)) (t p : Addr) : Prop :=
  (∃ row, greedy ws ws.length = some row ∧ H t = some (.tup [.str "order", .ref p]) ∧ H p = some (.lst ((natI row).map V.int))) ∨
  (∃ a b : Int, greedy ws ws.length = none ∧ Full ws a b ∧ H t = some (.tup [.str "bar", .int a, .int b, .ref p]) ∧ H p = some (.lst ((inside ws a b).map V.int)))
theorem PaperAt.ex {H H' : Hp} {ws : List (Int × Int)} {t p : Addr} (h : PaperAt H ws t p) (e : Ex H H') : PaperAt H' ws t p := by
  rcases h with ⟨row, h1, h2, h3⟩ | ⟨a, b, h1, h2, h3, h4⟩
  · exact .inl ⟨row, h1, e _ _ h2, e _ _ h3⟩
  · exact .inr ⟨a, b, h1, h2, e _ _ h3, e _ _ h4⟩
def spPaper (T : List (Addr × Str)) : Sp := fun vs H Q _ => ∃ (l : Addr) (qs : List Win), vs = [.ref l] ∧ H l = some (.lst (refs qs)) ∧ TW H qs ∧ qs.length ≤ 100 ∧ LamX.Tabs T H ∧
  ∀ H' t p, (∀ o, H p = some o → ∃ ps, o = .tbl ps) → LamX.ExtN H H' → LamX.Tabs T H' → PaperAt H' (wsOf qs) t p → Q (.ref t) H'
theorem new_or {H H' : Hp} {p : Addr} (e : LamX.ExtN H H') (h : H' p = none) : ∀ o, H p = some o → ∃ ps, o = .tbl ps := fun o z => by
  cases o with
  | tbl ps => exact ⟨ps, rfl⟩
  | _ => rw [e _ _ z (fun _ q => nomatch q)] at h; cases h
theorem ok_order_or_bar (T : Top K mg) (TB1 : LamX.TabB base mg T.c_told_order T.P_told_order) (TB2 : LamX.TabB base mg T.c_fullest_span T.P_fullest_span) : FnOk P w K mg base CX0 6 T.f_order_or_bar T.fd_order_or_bar ["windows"] (spPaper T.tabs) := by
  have nd := sc_order_or_bar.nd
  have G_told_order : FnOk P w K mg base CX0 3 T.f_told_order T.fd_told_order ["windows"] (spTold T.tabs) := ok_told_order T T.C_told_order TB1
  have G_fullest_span : FnOk P w K mg base CX0 5 T.f_fullest_span T.fd_fullest_span ["windows"] (spSpan T.tabs) := ok_fullest_span T T.C_fullest_span TB2
  have G_within : FnOk P w K mg base CX0 1 T.f_within T.fd_within ["windows", "a", "b"] (spWithin K) := ok_within T.F_within T
  refine T.F_order_or_bar.ok sc_order_or_bar (fun vs H Q E h => ?_) (fun cdv A outer s H vs Q E hr h => ?_)
  · obtain ⟨l, qs, rfl, _⟩ := h
    rfl
  · obtain ⟨l, qs, rfl, hl, ht, hn, hT, q⟩ := h
    refine ⟨_, (pss_cons (ps_set (i := 1) nd rfl (.inl rfl) (pe_call G_told_order (hr.mono (by omega)) (by rfl) T.m_told_order T.F_told_order.kp T.b_told_order .nil pass0 (pa_cons (pv 0) pa_nil)))
      (pss_cons (ps_if (pt_cmpR op_notN (pv 1) pe_non (nomark _))
        (pss_one (ps_ret (pe_tup (pa_cons pe_str (pa_cons (pv 1) pa_nil)))))
        pss_nil)
      (pss_cons (ps_asg (pe_call G_fullest_span (hr.mono (by omega)) (by rfl) T.m_fullest_span T.F_fullest_span.kp T.b_fullest_span .nil pass0 (pa_cons (pv 0) pa_nil)) (pg_tup rfl (pgs_cons (pg_name (i := 2) nd rfl (.inl rfl)) (pgs_cons (pg_name (i := 3) nd rfl (.inl rfl)) pgs_nil))))
      (pss_one (ps_ret (pe_tup (pa_cons pe_str (pa_cons (pv 2) (pa_cons (pv 3) (pa_cons (pe_call G_within (hr.mono (by omega)) (by rfl) T.m_within T.F_within.kp T.b_within .nil pass0 (pa_cons (pv 0) (pa_cons (pv 2) (pa_cons (pv 3) pa_nil)))) pa_nil)))))))))), ?_⟩
    refine q_callQ (by walk_at "ea") fun H1 e1 => ?_
    refine ⟨l, qs, rfl, e1 _ _ hl, ht.ex e1, by omega, hT.ext e1, fun H2 hg e2 T2 => ?_, fun row H2 p hg hp e2 T2 h2 => ?_⟩
    · -- a bar
      have e02 := (exN_of e1).trans e2
      have hl2 := exN_l e02 hl
      have ht2 := ht.exN e02
      refine q_when (b := false) (et_is (et_test (ev_op (ev_var rfl) ev_c rv_notN)) (by rw [non_non]; rfl)) (fun h => by cases h) fun _ H3 e3 => ?_
      have hpos : 1 ≤ qs.length := by
        cases qs with
        | nil => cases hg
        | cons q qs => rw [List.length_cons]; omega
      refine q_callG (by walk_at "ea") fun H4 e4 => ?_
      have e34 := e3.trans e4
      refine ⟨l, qs, rfl, e34 _ _ hl2, ht2.ex e34, hn, hpos, T2.ext e34, fun a b H5 t a1 a2 b1 b2 hmx e5 T5 h5 => ?_⟩
      have e05 := (e02.trans (exN_of e34)).trans e5
      have hl5 := exN_l e05 hl
      have ht5 := ht.exN e05
      refine tg_two (K := K) (st_of h5) tg_name tg_name H5 (Ex.refl _) _ ?_
      refine s_retUL (eal_cons ev_c (eal_cons (ev_var rfl) (eal_cons (ev_var rfl) (eal_one (el_call (by walk_at "ea") (spL_within (sq_of hl5) ht5 (by omega))))))) (by show 3 ≤ 1000; decide) fun p t' H6 hp ht6 e6 h6 h6t => ?_
      refine q H6 t' p (new_or e05 hp) (e05.trans (exN_of e6)) (T5.ext e6) (.inr ⟨a, b, by rw [ws_len]; exact hg, ⟨by rw [ws_len]; exact ⟨a1, a2, b1, b2⟩, by rw [ws_len]; exact hmx⟩, h6t, h6⟩)
    · have e02 := (exN_of e1).trans e2
      refine q_when (b := true) (et_is (et_test (ev_op (ev_var rfl) ev_c rv_notN)) (by rw [ref_non]; rfl)) (fun _ H3 e3 => ?_) fun h => by cases h
      refine s_retU (eu_tup (by walk_at "ea") (by show 2 ≤ 100000; decide)) fun t H4 ht4 e4 h4 => ?_
      refine q H4 t p (fun o z => by rw [fresh_back e1 hp] at z; cases z) (e02.trans (exN_of (e3.trans e4))) (T2.ext (e3.trans e4)) (.inl ⟨row, by rw [ws_len]; exact hg, h4, (e3.trans e4) _ _ h2⟩)
end

end Su
namespace Su
/-! ### the drawn order -/
theorem s_ins {K : PySem.W.Frag} {σ : L2.St} {H : Hp} {ta tb te : TE} {D : Ends} {l : Addr} {xs : List V} {i : Int} {v : V} (hl : H l = some (.lst xs)) (ha : Ev ta σ H (.ref l)) (hi : Ev tb σ H (.int i)) (h : Ev te σ H v) (hz : xs.length < 100000) (h0 : 0 ≤ i) (h1 : i < 2 ^ 63)
    (k : ∀ H1, Ex H H1 → D.nx σ (upd H1 l (.lst (xs.take i.toNat ++ [v] ++ xs.drop i.toNat)))) :
    tDrop (tBM K "list" (fun x vs H Q => ∃ (l : Addr) (xs : List V) (i : Int) (y : V), x = .ref l ∧ vs = [.int i, y] ∧ H l = some (.lst xs) ∧ xs.length < sizeLine ∧ 0 ≤ i ∧ i < 2 ^ 63 ∧ Q .non (upd H l (.lst (xs.take i.toNat ++ [y] ++ xs.drop i.toNat)))) ta (tCons tb (tCons te tNil))) D σ H := ha H (Ex.refl H) _ fun H1 e1 =>
  ⟨Or.inl ⟨rfl, xs, sq_of (e1 l _ hl)⟩, hi H1 e1 _ fun H2 e2 => h H2 (e1.trans e2) _ fun H3 e3 => ⟨l, xs, i, v, rfl, rfl, e3 l _ (e2 l _ (e1 l _ hl)), sz_lt hz, h0, h1, k H3 ((e1.trans e2).trans e3)⟩⟩
theorem rgI_succ (n : Nat) : rgI (n + 1) = rgI n ++ [(n : Int)] := by
  unfold rgI
  rw [List.range_succ, List.map_append]
  rfl
theorem perm_ins {ns : List Int} {n j : Nat} (h : ns.Perm (rgI n)) : (ns.take j ++ [(n : Int)] ++ ns.drop j).Perm (rgI (n + 1)) := by
  rw [rgI_succ, List.append_assoc, List.singleton_append]
  refine (List.perm_middle).trans ?_
  rw [List.take_append_drop]
  exact (List.Perm.cons _ h).trans (List.perm_append_singleton _ _).symm

end Su
namespace Su
section
variable {P : Program} {w : World} {K : PySem.W.Frag} {mg : Str → Option Value} {base : Heap}
def spPerm (K : PySem.W.Frag) : Sp := fun vs H Q _ => ∃ (a : Addr) (rows : List Int) (n : Nat), vs = [.ref a, .int (n : Int)] ∧ SqL K H a (rows.map V.int) ∧ n ≤ rows.length ∧ n ≤ 1000 ∧
  ∀ (ns : List Int) H' p, H p = none → Ex H H' → H' p = some (.lst (ns.map V.int)) → ns.Perm (rgI n) → Q (.ref p) H'
theorem spN_perm {a : Addr} {rows : List Int} {n : Nat} {H : Hp} (hS : SqL K H a (rows.map V.int)) (hl : n ≤ rows.length) (hn : n ≤ 1000) : SpN (spPerm K) [.ref a, .int (n : Int)] H (fun xs => ∃ ns : List Int, ns.Perm (rgI n) ∧ xs = ns.map V.int) :=
  fun H1 e Q q E => ⟨a, rows, n, rfl, ex_l e hS, hl, hn, fun ns H' p hp e' h' hr => q _ p H' ⟨ns, hr, rfl⟩ hp e' h'⟩
theorem ok__law_perm {f : Addr} {fd : FuncData} {k : Nat} (F : Fun K "_law_perm" "_law_perm" s__law_perm f fd) (T : Top K mg) : FnOk P w K mg base CX0 (k + 1) f fd ["_law_some", "_law_size"] (spPerm K) := by
  have nd := sc__law_perm.nd
  refine F.ok sc__law_perm (fun vs H Q E h => ?_) (fun cdv A outer s H vs Q E hr h => ?_)
  · obtain ⟨a, rows, n, rfl, _⟩ := h
    rfl
  · obtain ⟨a, rows, n, rfl, hS, hl, hn, q⟩ := h
    refine ⟨_, (pss_cons (ps_set (i := 2) nd rfl (.inl rfl) (pe_lst pa_nil))
      (pss_cons (ps_for PassesOwn.never rfl (pi_range1 rfl T.m_range (pa_cons (pv 1) pa_nil)) (pg_name (i := 3) nd rfl (.inl rfl))
        (pss_one (ps_expr (pe_bm PySem.F.plainAttrs_list PySem.F.slot_list_insert PySem.F.type_list_insert mt_insert (pv 2) (pa_cons (pe_op op_mod (pe_ix ix_list (pv 0) (pv 3) (fun _ _ => rfl)) (pe_op op_add (pv 3) pe_int)) (pa_cons (pv 3) pa_nil))))))
      (pss_one (ps_ret (pv 2))))), ?_⟩
    refine q_asgL (el_lst ea_nil (by decide)) fun p H1 hp e1 h1 => ?_
    refine q_forR1 (by walk_at "ea") (by omega) (fun i σ' H' => ∃ (ns : List Int) (y : Option V), σ' = [some (.ref a), some (.int (n : Int)), some (.ref p), y] ∧ Ex H H' ∧ H' p = some (.lst (ns.map V.int)) ∧ ns.Perm (rgI i)) ?_ ?_ ?_
    · intro H2 e2
      exact ⟨[], none, rfl, e1.trans e2, e2 p _ h1, List.Perm.refl _⟩
    · rintro i σ' H' hi ⟨ns, y, rfl, ex, hp', hpm⟩
      have hs := ex_l ex hS
      have hlen := hpm.length_eq
      unfold rgI at hlen
      rw [List.length_map, List.length_range] at hlen
      have m0 := Int.emod_nonneg (rows.getD ((i : Int)).toNat 0) (show (i : Int) + 1 ≠ 0 by omega)
      have m1 := Int.emod_lt_of_pos (rows.getD ((i : Int)).toNat 0) (show 0 < (i : Int) + 1 by omega)
      refine s_ins hp' (by walk_at "ev") (by walk_at "ev") (by walk_at "ev") (by rw [List.length_map]; omega) m0 (by omega) fun H2 e2 => ?_
      generalize (rows.getD ((i : Int)).toNat 0 % ((i : Int) + 1)).toNat = j
      refine ⟨ns.take j ++ [(i : Int)] ++ ns.drop j, _, rfl, ex_up (ex.trans e2) hp, ?_, perm_ins hpm⟩
      rw [upd_same, List.map_append, List.map_append, List.map_take, List.map_drop]
      rfl
    · rintro σ' H' ⟨ns, y, rfl, ex, hp', hpm⟩
      rw [Int.toNat_natCast] at hpm
      refine s_ret (by walk_at "ev") fun H2 e2 => ?_
      exact q ns H2 p hp (ex.trans e2) (ex_g e2 hp') hpm
end

end Su
namespace Su
/-! ### windows around the drawn order -/
theorem s_viaU {te : TE} {g : TG} {D : Ends} {σ : L2.St} {H : Hp} {xs : List V} (h : EvU te σ H xs) (k : ∀ t H1, H t = none → Ex H H1 → H1 t = some (.tup xs) → tAsg (tC (.ref t)) g D σ H1) : tAsg te g D σ H := h H (Ex.refl H) _ fun t H1 ht e1 h1 => k t H1 ht e1 h1
def tRefs (p : Addr) : TA := fun _ H Q => Q [.ref p] H
theorem ea_refs {p : Addr} {σ : L2.St} {H : Hp} : EvA (tRefs p) σ H [.ref p] := fun H1 _ _ q => q H1 (Ex.refl H1)
/-- for .. in enumerate(f(..)), where f hands back a new list -/
theorem s_forEc {K : PySem.W.Frag} {g : TG} {tb : TS} {D : Ends} {σ : L2.St} {H : Hp} {ta : TA} {sp : Sp} {vs : List V} {E : XK} {P : List V → Prop} (h : EvA ta σ H vs) (hs : SpN sp (vs ++ []) H P)
    (k : ∀ xs p H1, P xs → H p = none → Ex H H1 → H1 p = some (.lst xs) → tFor (iEnum K (tRefs p)) g tb D σ H1) : tFor (iEnum K (tCons (tCall sp [] E ta) tNil)) g tb D σ H :=
  h H (Ex.refl H) _ fun H1 e1 => hs H1 e1 _ (fun xs p H2 hP hp e2 h2 => k xs p H2 hP (fresh_back e1 hp) (e1.trans e2) h2) E
/-- x = [e] * n, e a new tuple -/
theorem q_repU {te tb : TE} {D : Ends} {σ : L2.St} {H : Hp} {tz : TS} {i : Nat} {xs : List V} {n : Int} (h : EvU te σ H xs) (hb : ∀ H1, Ex H H1 → Ev tb σ H1 (.int n)) (h0 : 0 ≤ n) (h1 : n ≤ 100000)
    (k : ∀ t p H1, H t = none → H p = none → Ex H H1 → H1 t = some (.tup xs) → H1 p = some (.lst (List.replicate n.toNat (.ref t))) → tz D (σ.set i (some (.ref p))) H1) : tSeq (tAsg (tOp rRep (tLst (tCons te tNil)) tb) (gName i)) tz D σ H :=
  h H (Ex.refl H) _ fun t H1 ht e1 h2 => ⟨by show 1 ≤ sizeLine; decide, fun p0 hp0 => hb _ (e1.trans (Ex.new hp0)) _ (Ex.refl _) _ fun H3 e3 => ⟨p0, n, [.ref t], rfl, rfl, e3 p0 _ upd_same, by omega, by omega, sz_of (by show 1 * n.toNat ≤ _; omega), fun r hr => by
    rw [flat1]
    have ex := (e1.trans (Ex.new hp0)).trans e3
    exact k t r _ ht (fresh_back ex hr) (ex.trans (Ex.new hr)) (by rw [upd_ne (ne_of_none (((Ex.new hp0).trans e3) t _ h2) hr)]; exact ((Ex.new hp0).trans e3) t _ h2) upd_same⟩⟩
theorem refs_set {qs : List Win} {j : Nat} {q : Win} : refs (qs.set j q) = (refs qs).set j (.ref q.1) := by
  unfold refs
  rw [List.map_set]
theorem TW.set {H : Hp} {qs : List Win} {j : Nat} {q : Win} (h : TW H qs) (hq : H q.1 = some (.tup [.int q.2.1, .int q.2.2])) : TW H (qs.set j q) := fun r hr => by
  rcases List.mem_or_eq_of_mem_set hr with h' | h'
  · exact h r h'
  · rw [h']; exact hq
theorem int_at {ns : List Int} {i : Nat} {x : V} (h : (ns.map V.int)[i]? = some x) : ∃ n, x = .int n ∧ ns[i]? = some n := by
  rw [List.getElem?_map] at h
  cases hc : ns[i]? with
  | none => rw [hc] at h; cases h
  | some c => rw [hc] at h; exact ⟨c, (Option.some.inj h).symm, rfl⟩
theorem in_rg {z : Int} {n : Nat} (h : z ∈ rgI n) : ∃ j : Nat, z = (j : Int) ∧ j < n := by
  obtain ⟨j, hj, rfl⟩ := List.mem_map.mp h
  exact ⟨j, rfl, List.mem_range.mp hj⟩
theorem perm_len {ns : List Int} {n : Nat} (h : ns.Perm (rgI n)) : ns.length = n := by
  have := h.length_eq
  unfold rgI at this
  rw [List.length_map, List.length_range] at this
  exact this

end Su
namespace Su
/-! ### the greedy order is an order; where there is none, a span is too full -/
theorem len_sub : ∀ {S T : List Nat}, S.Nodup → (∀ x ∈ S, x ∈ T) → S.length ≤ T.length
  | [], T, _, _ => Nat.zero_le _
  | x :: S, T, hn, h => by
    have hx := h x List.mem_cons_self
    obtain ⟨h1, h2⟩ := List.nodup_cons.mp hn
    have := len_sub (S := S) (T := T.erase x) h2 fun y hy => (List.mem_erase_of_ne (fun z => h1 (by rw [← z]; exact hy))).mpr (h y (List.mem_cons_of_mem _ hy))
    rw [List.length_erase_of_mem hx] at this
    have hp := List.length_pos_of_mem hx
    rw [List.length_cons]
    omega
theorem perm_sub : ∀ {S T : List Nat}, S.Nodup → (∀ x ∈ S, x ∈ T) → S.length = T.length → S.Perm T
  | [], T, _, _, hl => by
    have : T = [] := List.length_eq_zero_iff.mp hl.symm
    rw [this]
  | x :: S, T, hn, h, hl => by
    have hx := h x List.mem_cons_self
    obtain ⟨h1, h2⟩ := List.nodup_cons.mp hn
    have hp := List.length_pos_of_mem hx
    refine (List.Perm.cons x ?_).trans (List.perm_cons_erase hx).symm
    refine perm_sub h2 (fun y hy => (List.mem_erase_of_ne (fun z => h1 (by rw [← z]; exact hy))).mpr (h y (List.mem_cons_of_mem _ hy))) ?_
    rw [List.length_erase_of_mem hx]
    rw [List.length_cons] at hl
    omega
-- CUT
theorem mem_free {n : Nat} {row : List Nat} {i : Nat} : i ∈ freeI n row ↔ i < n ∧ i ∉ row := by
  unfold freeI
  rw [List.mem_filter, List.mem_range]
  simp
theorem mem_rdy {ws : List (Int × Int)} {row : List Nat} {t : Int} {i : Nat} : i ∈ rdyI ws row t ↔ (i < ws.length ∧ i ∉ row) ∧ firstI ws i ≤ t := by
  unfold rdyI
  rw [List.mem_filter, mem_free]
  simp
/-- what is known of a row made round by round -/
structure Made (ws : List (Int × Int)) (row : List Nat) : Prop where
  nd : row.Nodup
  at_ : ∀ (i k : Nat), row[i]? = some k → k < ws.length ∧ firstI ws k ≤ (i : Int) + 1 ∧ (i : Int) + 1 ≤ lastI ws k ∧ ∀ y, y < ws.length → y ∉ row.take i → firstI ws y ≤ (i : Int) + 1 → lastI ws k ≤ lastI ws y
theorem Made.nil (ws : List (Int × Int)) : Made ws [] := ⟨List.nodup_nil, fun i k h => by simp at h⟩
theorem Made.snoc {ws : List (Int × Int)} {row : List Nat} (h : Made ws row) (e : rdyI ws row ((row.length : Int) + 1) ≠ []) (l : ¬ lastI ws (bestI (lastI ws) (rdyI ws row ((row.length : Int) + 1))) < (row.length : Int) + 1) : Made ws (row ++ [bestI (lastI ws) (rdyI ws row ((row.length : Int) + 1))]) := by
  have hm := mem_rdy.mp (best_mem (f := lastI ws) e)
  have hb : ∀ y, y < ws.length → y ∉ row → firstI ws y ≤ (row.length : Int) + 1 → lastI ws (bestI (lastI ws) (rdyI ws row ((row.length : Int) + 1))) ≤ lastI ws y := fun y h1 h2 h3 => best_le (mem_rdy.mpr ⟨⟨h1, h2⟩, h3⟩)
  generalize bestI (lastI ws) (rdyI ws row ((row.length : Int) + 1)) = c at hm hb l ⊢
  refine ⟨?_, fun i k hk => ?_⟩
  · rw [List.nodup_append]
    exact ⟨h.nd, by simp, fun a ha b hb z => hm.1.2 (by rw [← List.mem_singleton.mp hb, ← z]; exact ha)⟩
  · by_cases hi : i < row.length
    · rw [List.getElem?_append_left hi] at hk
      rw [List.take_append_of_le_length (Nat.le_of_lt hi)]
      exact h.at_ i k hk
    · have hi2 := (List.getElem?_eq_some_iff.mp hk).1
      rw [List.length_append, List.length_singleton] at hi2
      have ei : i = row.length := by omega
      subst ei
      rw [List.getElem?_append_right (Nat.le_refl _), Nat.sub_self] at hk
      obtain rfl : c = k := Option.some.inj hk
      rw [List.take_append_of_le_length (Nat.le_refl _), List.take_length]
      exact ⟨hm.1.1, hm.2, by omega, hb⟩
theorem greedy_made {ws : List (Int × Int)} : ∀ {t : Nat} {row : List Nat}, greedy ws t = some row → row.length = t ∧ Made ws row
  | 0, row, h => by cases h; exact ⟨rfl, Made.nil ws⟩
  | t + 1, row, h => by
    cases hg : greedy ws t with
    | none =>
      rw [greedy_none hg 1] at h
      cases h
    | some r =>
      obtain ⟨hl, hm⟩ := greedy_made hg
      subst hl
      by_cases e : rdyI ws r ((r.length : Int) + 1) = []
      · rw [greedy_empty hg e] at h
        cases h
      · by_cases l : lastI ws (bestI (lastI ws) (rdyI ws r ((r.length : Int) + 1))) < (r.length : Int) + 1
        · rw [greedy_late hg e l] at h
          cases h
        · rw [greedy_step hg e l] at h
          cases h
          exact ⟨by rw [List.length_append]; rfl, hm.snoc e l⟩
theorem greedy_fail {ws : List (Int × Int)} : ∀ {n : Nat}, greedy ws n = none → ∃ row : List Nat, row.length < n ∧ Made ws row ∧ (rdyI ws row ((row.length : Int) + 1) = [] ∨ (rdyI ws row ((row.length : Int) + 1) ≠ [] ∧ lastI ws (bestI (lastI ws) (rdyI ws row ((row.length : Int) + 1))) < (row.length : Int) + 1))
  | 0, h => by cases h
  | n + 1, h => by
    cases hg : greedy ws n with
    | none =>
      obtain ⟨row, h1, h2⟩ := greedy_fail hg
      exact ⟨row, by omega, h2⟩
    | some r =>
      obtain ⟨hl, hm⟩ := greedy_made hg
      subst hl
      refine ⟨r, by omega, hm, ?_⟩
      by_cases e : rdyI ws r ((r.length : Int) + 1) = []
      · exact .inl e
      · by_cases l : lastI ws (bestI (lastI ws) (rdyI ws r ((r.length : Int) + 1))) < (r.length : Int) + 1
        · exact .inr ⟨e, l⟩
        · rw [greedy_step hg e l] at h
          cases h
/-- an order of the windows -/
def IsOrd (ws : List (Int × Int)) (row : List Nat) : Prop := row.Perm (List.range ws.length) ∧ ∀ (i k : Nat), row[i]? = some k → firstI ws k ≤ (i : Int) + 1 ∧ (i : Int) + 1 ≤ lastI ws k
theorem greedy_ord {ws : List (Int × Int)} {row : List Nat} (h : greedy ws ws.length = some row) : IsOrd ws row := by
  obtain ⟨hl, hm⟩ := greedy_made h
  refine ⟨perm_sub hm.nd (fun x hx => ?_) (by rw [hl, List.length_range]), fun i k hk => ⟨(hm.at_ i k hk).2.1, (hm.at_ i k hk).2.2.1⟩⟩
  obtain ⟨i, hi⟩ := List.getElem?_of_mem hx
  exact List.mem_range.mpr (hm.at_ i x hi).1
theorem mem_ins {ws : List (Int × Int)} {a b : Int} {i : Nat} : i ∈ (List.range ws.length).filter (insB ws a b) ↔ i < ws.length ∧ a ≤ firstI ws i ∧ lastI ws i ≤ b := by
  rw [List.mem_filter, List.mem_range]
  constructor
  · rintro ⟨h1, h2⟩
    refine ⟨h1, ?_⟩
    unfold insB at h2
    unfold firstI lastI
    rw [List.getElem?_eq_getElem h1] at h2 ⊢
    simpa using h2
  · rintro ⟨h1, h2⟩
    refine ⟨h1, ?_⟩
    unfold insB
    unfold firstI lastI at h2
    rw [List.getElem?_eq_getElem h1] at h2 ⊢
    simpa using h2
theorem ins_len (ws : List (Int × Int)) (a b : Int) : (inside ws a b).length = ((List.range ws.length).filter (insB ws a b)).length := by
  unfold inside
  exact List.length_map _
theorem nodup_range_filter (n : Nat) (p : Nat → Bool) : ((List.range n).filter p).Nodup := (List.Pairwise.filter _ List.pairwise_lt_range).imp fun h => Nat.ne_of_lt h
/-- an order leaves no span too full -/
theorem ord_surp {ws : List (Int × Int)} {row : List Nat} (h : IsOrd ws row) (a b : Int) (ha : 1 ≤ a) : surp ws a b ≤ 0 := by
  have hr : ∀ k, k < ws.length → ∃ i, row[i]? = some k := fun k hk => List.getElem?_of_mem (h.1.mem_iff.mpr (List.mem_range.mpr hk))
  have key : ((List.range ws.length).filter (insB ws a b)).length ≤ (b - a + 1).toNat := by
    have hd : ∀ k, k ∈ (List.range ws.length).filter (insB ws a b) → row[row.idxOf k]? = some k ∧ a ≤ (row.idxOf k : Int) + 1 ∧ (row.idxOf k : Int) + 1 ≤ b := fun k hk => by
      obtain ⟨h1, h2, h3⟩ := mem_ins.mp hk
      have hm : k ∈ row := h.1.mem_iff.mpr (List.mem_range.mpr h1)
      have e : row[row.idxOf k]? = some k := by
        rw [List.getElem?_eq_getElem (List.idxOf_lt_length_of_mem hm), List.getElem_idxOf]
      obtain ⟨g1, g2⟩ := h.2 _ _ e
      exact ⟨e, by omega, by omega⟩
    have := len_sub (S := ((List.range ws.length).filter (insB ws a b)).map fun k => row.idxOf k + 1 - a.toNat) (T := List.range (b - a + 1).toNat) ?_ ?_
    · rw [List.length_map, List.length_range] at this
      exact this
    · rw [List.Nodup, List.pairwise_map]
      refine List.Pairwise.imp_of_mem ?_ (nodup_range_filter ws.length (insB ws a b))
      intro x y hx hy hne z
      obtain ⟨e1, a1, _⟩ := hd x hx
      obtain ⟨e2, a2, _⟩ := hd y hy
      have : row.idxOf x = row.idxOf y := by omega
      rw [this, e2] at e1
      exact hne (Option.some.inj e1).symm
    · intro x hx
      obtain ⟨k, hk, rfl⟩ := List.mem_map.mp hx
      obtain ⟨_, a1, b1⟩ := hd k hk
      exact List.mem_range.mpr (by omega)
  unfold surp roundsB
  rw [ins_len]
  split <;> omega
/-- where the greedy finds no order, some span is too full -/
theorem hall {ws : List (Int × Int)} (hb : ∀ k, k < ws.length → (1 ≤ firstI ws k ∧ firstI ws k ≤ ws.length) ∧ 1 ≤ lastI ws k ∧ lastI ws k ≤ ws.length) (h : greedy ws ws.length = none) :
    ∃ a b : Int, 1 ≤ a ∧ a ≤ ws.length ∧ 1 ≤ b ∧ b ≤ ws.length ∧ 0 < surp ws a b := by
  obtain ⟨row, hl, hm, hc⟩ := greedy_fail h
  have fin : ∀ (S : List Nat) (a b : Int), S.Nodup → (∀ x ∈ S, x < ws.length ∧ a ≤ firstI ws x ∧ lastI ws x ≤ b) → (if b - a + 1 > 0 then b - a + 1 else 0) < (S.length : Int) → 0 < surp ws a b := fun S a b hn hS hlt => by
    have := len_sub hn fun x hx => mem_ins.mpr (hS x hx)
    unfold surp roundsB
    rw [ins_len]
    omega
  rcases hc with e | ⟨e, l⟩
  · -- nobody is ready: all that are free come later
    have hf : ∀ x, x < ws.length → x ∉ row → (row.length : Int) + 2 ≤ firstI ws x := fun x h1 h2 => by
      by_cases z : firstI ws x ≤ (row.length : Int) + 1
      · have := mem_rdy.mpr ⟨⟨h1, h2⟩, z⟩
        rw [e] at this
        exact absurd this List.not_mem_nil
      · omega
    have hlen : ws.length ≤ row.length + (freeI ws.length row).length := by
      have := len_sub (S := List.range ws.length) (T := row ++ freeI ws.length row) List.nodup_range fun x hx => by
        by_cases z : x ∈ row
        · exact List.mem_append_left _ z
        · exact List.mem_append_right _ (mem_free.mpr ⟨List.mem_range.mp hx, z⟩)
      rw [List.length_range, List.length_append] at this
      exact this
    obtain ⟨x, hx⟩ : ∃ x, x ∈ freeI ws.length row := List.exists_mem_of_length_pos (by omega)
    obtain ⟨x1, x2⟩ := mem_free.mp hx
    have hx3 := hf x x1 x2
    have hx4 := (hb x x1).1.2
    refine ⟨(row.length : Int) + 2, ws.length, by omega, by omega, by omega, by omega, fin (freeI ws.length row) _ _ (nodup_range_filter _ _) (fun y hy => ?_) ?_⟩
    · obtain ⟨y1, y2⟩ := mem_free.mp hy
      exact ⟨y1, hf y y1 y2, (hb y y1).2.2⟩
    · split <;> omega
  · -- the first to end is too late
    obtain ⟨⟨c1, c2⟩, c3⟩ := mem_rdy.mp (best_mem (f := lastI ws) e)
    generalize bestI (lastI ws) (rdyI ws row ((row.length : Int) + 1)) = c at c1 c2 c3 l
    obtain ⟨⟨b1, b2⟩, b3, b4⟩ := hb c c1
    obtain ⟨L, hL⟩ : ∃ L : Nat, lastI ws c = (L : Int) := ⟨(lastI ws c).toNat, by omega⟩
    have hu : ∀ m : Nat, m ≤ L → ∃ u : Nat, u ≤ m ∧ (u = 0 ∨ ∃ k, row[u - 1]? = some k ∧ (L : Int) < lastI ws k) ∧ ∀ v, u ≤ v → v < m → ∀ k, row[v]? = some k → lastI ws k ≤ L := by
      intro m
      induction m with
      | zero => intro _; exact ⟨0, by omega, .inl rfl, fun v _ hv => by omega⟩
      | succ m ih =>
        intro hm1
        obtain ⟨u, u1, u2, u3⟩ := ih (by omega)
        by_cases z : ∃ k, row[m]? = some k ∧ (L : Int) < lastI ws k
        · exact ⟨m + 1, by omega, .inr (by rw [Nat.add_sub_cancel]; exact z), fun v h1 h2 => by omega⟩
        · refine ⟨u, by omega, u2, fun v h1 h2 k hk => ?_⟩
          by_cases y : v = m
          · subst y
            by_cases w : lastI ws k ≤ L
            · exact w
            · exact absurd ⟨k, hk, by omega⟩ z
          · exact u3 v h1 (by omega) k hk
    obtain ⟨u, u1, u2, u3⟩ := hu L (Nat.le_refl _)
    -- the crowd: those of the rounds u + 1 .. L, and c
    have hlate : ∀ x, x < ws.length → lastI ws x ≤ L → (∀ i : Nat, i + 1 < u + 1 → row[i]? ≠ some x) → (u : Int) + 1 ≤ firstI ws x := fun x x1 x2 x3 => by
      rcases u2 with rfl | ⟨k, hk, hk2⟩
      · have := (hb x x1).1.1
        omega
      · by_cases z : firstI ws x ≤ (u : Int)
        · have hu0 : u - 1 < row.length := (List.getElem?_eq_some_iff.mp hk).1
          by_cases u0 : u = 0
          · subst u0
            have := (hb x x1).1.1
            omega
          · have := (hm.at_ (u - 1) k hk).2.2.2 x x1 (fun hx => by
              obtain ⟨i, hi⟩ := List.getElem?_of_mem hx
              have hi2 := (List.getElem?_eq_some_iff.mp hi).1
              rw [List.length_take] at hi2
              rw [List.getElem?_take_of_lt (by omega)] at hi
              exact x3 i (by omega) hi) (by omega)
            omega
        · omega
    have hS : ∀ x ∈ (row.take L).drop u, ∃ v, u ≤ v ∧ v < L ∧ row[v]? = some x := fun x hx => by
      obtain ⟨i, hi⟩ := List.getElem?_of_mem hx
      rw [List.getElem?_drop] at hi
      have hi2 := (List.getElem?_eq_some_iff.mp hi).1
      rw [List.length_take] at hi2
      rw [List.getElem?_take_of_lt (by omega)] at hi
      exact ⟨u + i, by omega, by omega, hi⟩
    refine ⟨(u : Int) + 1, L, by omega, by omega, by omega, by omega, fin ((row.take L).drop u ++ [c]) _ _ ?_ (fun x hx => ?_) ?_⟩
    · rw [List.nodup_append]
      refine ⟨(hm.nd.sublist (List.take_sublist _ _)).sublist (List.drop_sublist _ _), by simp, fun x hx y hy z => ?_⟩
      obtain ⟨v, _, _, hv⟩ := hS x hx
      rw [List.mem_singleton.mp hy] at z
      exact c2 (by rw [← z]; exact List.mem_of_getElem? hv)
    · rcases List.mem_append.mp hx with hx | hx
      · obtain ⟨v, v1, v2, hv⟩ := hS x hx
        have hv3 := (hm.at_ v x hv).1
        have hv4 := u3 v v1 v2 x hv
        refine ⟨hv3, hlate x hv3 hv4 fun i hi z => ?_, hv4⟩
        have := (List.getElem?_inj (List.getElem?_eq_some_iff.mp z).1 hm.nd).mp (z.trans hv.symm)
        omega
      · rw [List.mem_singleton.mp hx]
        exact ⟨c1, hlate c c1 (by omega) fun i hi z => c2 (List.mem_of_getElem? z), by omega⟩
    · rw [List.length_append, List.length_drop, List.length_take, List.length_singleton]
      split <;> omega
/-- a fullest span is a bar where there is no order -/
theorem full_bar {ws : List (Int × Int)} {a b : Int} (hb : ∀ k, k < ws.length → (1 ≤ firstI ws k ∧ firstI ws k ≤ ws.length) ∧ 1 ≤ lastI ws k ∧ lastI ws k ≤ ws.length) (h : greedy ws ws.length = none) (hf : Full ws a b) : 0 < surp ws a b := by
  obtain ⟨c, d, c1, c2, d1, d2, e⟩ := hall hb h
  have := hf.2 c d c1 c2 d1 d2
  omega

end Su
namespace Su
/-! ### a row spoilt -/
theorem cut_to (xs : List V) (k : Nat) : cutV xs none (some (k : Int)) = xs.take k := by
  unfold cutV
  rw [HT.sIx_nat, HT.sIx_none, List.drop_zero, Nat.sub_zero]
  by_cases h : k ≤ xs.length
  · rw [Nat.min_eq_left h]
  · rw [Nat.min_eq_right (by omega), List.take_of_length_le (Nat.le_refl _), List.take_of_length_le (by omega)]
theorem el_cat {ta tb : TE} {σ : L2.St} {H : Hp} {xs ys : List V} (ha : EvL ta σ H xs) (hb : EvL tb σ H ys) (hz : xs.length + ys.length ≤ 100000) : EvL (tOp rCat ta tb) σ H (xs ++ ys) := fun H1 e Q q =>
  ha H1 e _ fun p H2 hp e2 h2 => hb H2 (e.trans e2) _ fun p2 H3 hp3 e3 h3 => ⟨p, p2, xs, ys, rfl, rfl, e3 p _ h2, h3, sz_of hz, fun r hr => q r _ (fresh_back (e2.trans e3) hr) ((e2.trans e3).trans (Ex.new hr)) upd_same⟩
theorem q_asgSub {l : Addr} {xs : List V} {z : Int} {j : Nat} {te ta tb : TE} {σ : L2.St} {H : Hp} {v : V} {D : Ends} {tz : TS} (hl : H l = some (.lst xs)) (h : Ev te σ H v) (ho : Ev ta σ H (.ref l)) (hi : Ev tb σ H (.int z)) (hz : z = (j : Int)) (hj : j < xs.length)
    (k : ∀ H1, Ex H H1 → tz D σ (upd H1 l (.lst (xs.set j v)))) : tSeq (tAsg te (gSub ta tb rSetL)) tz D σ H := s_asgSub (D := { D with nx := tz D }) hl h ho hi hz hj k
theorem ints_set (ms : List Int) (j : Nat) (v : Int) : (ms.map V.int).set j (.int v) = (ms.set j v).map V.int := (List.map_set).symm
theorem at5 {a b c d e z : Int} (h0 : 0 ≤ z) (h : z < 5) : ∃ v : Int, atI [V.int a, .int b, .int c, .int d, .int e] z = some (.int v) := by
  have h4 : z = 0 ∨ z = 1 ∨ z = 2 ∨ z = 3 ∨ z = 4 := by omega
  rcases h4 with rfl | rfl | rfl | rfl | rfl
  · exact ⟨a, rfl⟩
  · exact ⟨b, rfl⟩
  · exact ⟨c, rfl⟩
  · exact ⟨d, rfl⟩
  · exact ⟨e, rfl⟩
theorem int_eqd {i j : Int} : decide (V.int i = V.int j) = decide (i = j) := by
  by_cases h : i = j
  · rw [h, decide_eq_true rfl, decide_eq_true rfl]
  · rw [decide_eq_false h, decide_eq_false (fun z => h (V.int.inj z))]

end Su
namespace Su
/-! ### orders -/
theorem isOrd_no {ws : List (Int × Int)} {ns : List Int} {i : Nat} (hi : i < ns.length) (h : inRound ws ns i = false) : isOrd ws ns = false := by
  unfold isOrd
  rw [Bool.and_eq_false_iff]
  right
  rw [List.all_eq_false]
  exact ⟨inRound ws ns i, List.mem_map.mpr ⟨i, List.mem_range.mpr hi, rfl⟩, by rw [h]; decide⟩
theorem isOrd_yes {ws : List (Int × Int)} {ns : List Int} (hs : sortI ns = rgI ws.length) (h : ∀ j, j < ns.length → inRound ws ns j = true) : isOrd ws ns = true := by
  unfold isOrd
  rw [decide_eq_true hs, Bool.true_and, List.all_eq_true]
  intro b hb
  obtain ⟨j, hj, rfl⟩ := List.mem_map.mp hb
  exact h j (List.mem_range.mp hj)

end Su
namespace Su
/-! ### orders, bars and the greedy one -/
theorem isOrd_of {ws : List (Int × Int)} {row : List Nat} (h : IsOrd ws row) : isOrd ws (natI row) = true :=
  isOrd_yes ((sortI_eq _ _).mpr (nat_perm.mpr h.1)) fun j hj => by
    rw [natI_len] at hj
    obtain ⟨k, hk⟩ : ∃ k, row[j]? = some k := ⟨_, List.getElem?_eq_getElem hj⟩
    have hkl : k < ws.length := List.mem_range.mp (h.1.mem_iff.mp (List.mem_of_getElem? hk))
    obtain ⟨h1, h2⟩ := h.2 j k hk
    unfold inRound
    rw [natI_some hk]
    show (match ws[((k : Nat) : Int).toNat]? with | some w => _ | none => _) = true
    unfold firstI at h1
    unfold lastI at h2
    rw [List.getElem?_eq_getElem hkl] at h1 h2
    have h1 : ws[k].1 ≤ (j : Int) + 1 := h1
    have h2 : (j : Int) + 1 ≤ ws[k].2 := h2
    rw [Int.toNat_natCast, List.getElem?_eq_getElem hkl]
    show (decide _ && decide _) = true
    rw [decide_eq_true (by omega), decide_eq_true (by omega)]
    rfl
def Bnd (ws : List (Int × Int)) : Prop := ∀ k, k < ws.length → (1 ≤ firstI ws k ∧ firstI ws k ≤ ws.length) ∧ 1 ≤ lastI ws k ∧ lastI ws k ≤ ws.length
theorem bnd_of {qs : List Win} {n : Nat} (h : qs.length = n) (hb : ∀ q ∈ qs, 1 ≤ q.2.1 ∧ q.2.1 ≤ n ∧ 1 ≤ q.2.2 ∧ q.2.2 ≤ n) : Bnd (wsOf qs) := fun k hk => by
  rw [ws_len] at hk ⊢
  obtain ⟨q, gq⟩ : ∃ q, qs[k]? = some q := ⟨_, List.getElem?_eq_getElem hk⟩
  rw [win_first gq, win_last gq, h]
  obtain ⟨a, b, c, d⟩ := hb q (List.mem_of_getElem? gq)
  exact ⟨⟨a, b⟩, c, d⟩
/-- where there is an order, the greedy finds one -/
theorem ord_greedy {ws : List (Int × Int)} {r : List Nat} (hb : Bnd ws) (h : IsOrd ws r) : ∃ row, greedy ws ws.length = some row ∧ IsOrd ws row := by
  cases hg : greedy ws ws.length with
  | none =>
    obtain ⟨a, b, a1, _, _, _, hs⟩ := hall hb hg
    have := ord_surp h a b a1
    omega
  | some row => exact ⟨row, rfl, greedy_ord hg⟩

end Su
namespace Su
/-! ### a planted order -/
theorem natI_inj : ∀ {a b : List Nat}, natI a = natI b → a = b
  | [], [], _ => rfl
  | [], y :: s, h => by cases h
  | x :: r, [], h => by cases h
  | x :: r, y :: s, h => by
    unfold natI at h
    rw [List.map_cons, List.map_cons] at h
    obtain ⟨h1, h2⟩ := List.cons.inj h
    rw [natI_inj (a := r) (b := s) h2, show x = y by omega]
theorem perm_nat {ns : List Int} {n : Nat} (hp : ns.Perm (rgI n)) : ∃ r : List Nat, ns = natI r ∧ r.Perm (List.range n) := by
  have hn : ns = natI (ns.map Int.toNat) := by
    unfold natI
    rw [List.map_map]
    conv => lhs; rw [← List.map_id ns]
    apply List.map_congr_left
    intro z hz
    obtain ⟨j, rfl, _⟩ := in_rg (hp.mem_iff.mp hz)
    show ((j : Nat) : Int) = ((((j : Nat) : Int).toNat : Nat) : Int)
    rw [Int.toNat_natCast]
  refine ⟨ns.map Int.toNat, hn, ?_⟩
  rw [hn] at hp
  exact nat_perm.mp hp
/-- the first i places of r lie within their windows -/
def Planted (qs : List Win) (r : List Nat) (i : Nat) : Prop := ∀ j k : Nat, j < i → r[j]? = some k → ∃ q, qs[k]? = some q ∧ q.2.1 ≤ (j : Int) + 1 ∧ (j : Int) + 1 ≤ q.2.2
theorem Planted.step {qs : List Win} {r : List Nat} {i k : Nat} {q : Win} (h : Planted qs r i) (hr : r.Nodup) (hk : r[i]? = some k) (hl : k < qs.length) (h1 : q.2.1 ≤ (i : Int) + 1) (h2 : (i : Int) + 1 ≤ q.2.2) : Planted (qs.set k q) r (i + 1) := fun j m hj hm => by
  by_cases e : j = i
  · subst e
    rw [hk] at hm
    cases hm
    exact ⟨q, by rw [List.getElem?_set, if_pos rfl, if_pos hl], h1, h2⟩
  · have hne : k ≠ m := fun z => by
      subst z
      exact e ((List.getElem?_inj (List.getElem?_eq_some_iff.mp hm).1 hr).mp (hm.trans hk.symm))
    obtain ⟨q', g, g1, g2⟩ := h j m (by omega) hm
    exact ⟨q', by rw [List.getElem?_set, if_neg hne]; exact g, g1, g2⟩

end Su
namespace Su
/-! ### instances: their attributes by place -/
theorem zip_lookup : ∀ {ns : List Str} {vs : List V} {i : Nat} {f : Str} {v : V}, ns.Nodup → ns[i]? = some f → vs[i]? = some v → (ns.zip vs).lookup f = some v
  | [], _, i, f, v, _, h, _ => by simp at h
  | _ :: _, [], i, f, v, _, _, h => by simp at h
  | n :: ns, w :: vs, 0, f, v, _, h1, h2 => by
    obtain rfl : n = f := Option.some.inj h1
    obtain rfl : w = v := Option.some.inj h2
    show List.lookup n ((n, w) :: ns.zip vs) = _
    simp [List.lookup]
  | n :: ns, w :: vs, i + 1, f, v, hn, h1, h2 => by
    obtain ⟨n1, n2⟩ := List.nodup_cons.mp hn
    have hne : (f == n) = false := beq_eq_false_iff_ne.mpr fun z => n1 (by rw [← z]; exact List.mem_of_getElem? h1)
    show List.lookup f ((n, w) :: ns.zip vs) = _
    simp only [List.lookup, hne]
    exact zip_lookup n2 h1 h2
theorem zip_none : ∀ {ns : List Str} {vs : List V} {f : Str}, f ∉ ns → (ns.zip vs).lookup f = none
  | [], _, f, _ => rfl
  | _ :: _, [], f, _ => rfl
  | n :: ns, w :: vs, f, h => by
    have hne : (f == n) = false := beq_eq_false_iff_ne.mpr fun z => h (by rw [z]; exact List.mem_cons_self)
    show List.lookup f ((n, w) :: ns.zip vs) = _
    simp only [List.lookup, hne]
    exact zip_none fun z => h (List.mem_cons_of_mem _ z)
theorem zip_put : ∀ {ns : List Str} {vs : List V} {i : Nat} {f : Str} {v : V}, ns.Nodup → ns[i]? = some f → i < vs.length → putF f v (ns.zip vs) = ns.zip (vs.set i v)
  | [], _, i, f, v, _, h, _ => by simp at h
  | _ :: _, [], i, f, v, _, _, h => by simp at h
  | n :: ns, w :: vs, 0, f, v, _, h1, h2 => by
    obtain rfl : n = f := Option.some.inj h1
    show (if n = n then (n, v) :: ns.zip vs else _) = _
    rw [if_pos rfl]
    rfl
  | n :: ns, w :: vs, i + 1, f, v, hn, h1, h2 => by
    obtain ⟨n1, n2⟩ := List.nodup_cons.mp hn
    show (if n = f then (n, v) :: ns.zip vs else (n, w) :: putF f v (ns.zip vs)) = _
    rw [if_neg fun z => n1 (by rw [z]; exact List.mem_of_getElem? h1), zip_put n2 h1 (by rw [List.length_cons] at h2; omega)]
    rfl
theorem zip_snoc : ∀ {ns : List Str} {vs : List V} {f : Str} {v : V}, f ∉ ns → ns.length = vs.length → putF f v (ns.zip vs) = (ns ++ [f]).zip (vs ++ [v])
  | [], [], f, v, _, _ => rfl
  | [], _ :: _, _, _, _, h => by cases h
  | _ :: _, [], _, _, _, h => by cases h
  | n :: ns, w :: vs, f, v, h1, h2 => by
    show (if n = f then (n, v) :: ns.zip vs else (n, w) :: putF f v (ns.zip vs)) = _
    rw [if_neg fun z => h1 (by rw [z]; exact List.mem_cons_self), zip_snoc (fun z => h1 (List.mem_cons_of_mem _ z)) (by rw [List.length_cons, List.length_cons] at h2; omega)]
    rfl
section
variable {X : Cx} {K : PySem.W.Frag}
theorem pe_fldK {e : Expr} {f : Str} {pos : Pos} {ta : TE} (h : X.K = K) (he : PE X e ta) (hb : attributeBase e f X.env (eval e X.env) = eval e X.env) : PE X (.Attribute e f pos) (tFld K ta f) := h ▸ pe_fld he hb
theorem ps_fldK {o value : Expr} {f : Str} {pos pos' : Pos} {ta tv : TE} (h : X.K = K) (ha : PE X o ta) (hv : PE X value tv) (hs : swapsWith value (some (.Attribute o f pos')) pos.line X.env = pure false) : PS X (.Assign [.Attribute o f pos'] value pos) (sFld K ta tv f) := h ▸ ps_fld ha hv hs
theorem ps_fldaugK {o value : Expr} {f : Str} {pos tpos : Pos} {ta tv : TE} {op : Operator} {rd : V → V → Hp → VK → Prop} (h : X.K = K) (ha : PE X o ta) (hv : PE X value tv) (hop : InOp X op rd) : PS X (.AugAssign (.Attribute o f tpos) op value pos) (sFldAug K ta tv rd f) := h ▸ ps_fldaug ha hv hop
end
section
variable {K : PySem.W.Frag} {σ : L2.St} {H : Hp} {a C dx : Addr} {fs : List (Str × V)} {ta tv : TE} {t : TA} {f m : Str} {sp : Sp} {dvs vs xs : List V} {E : XK} {v z : V} {D : Ends} {tz : TS}
theorem ev_fld (h : Ev ta σ H (.ref a)) (ha : H a = some (.ins C dx fs)) (c : Cls K C) (n : NoAttr K C f) (hv : fs.lookup f = some v) : Ev (tFld K ta f) σ H v := fun H1 e Q q =>
  h H1 e _ fun H2 e2 => ⟨a, C, dx, fs, v, rfl, (e.trans e2) _ _ ha, c, n, hv, q H2 e2⟩
theorem s_fld (hv : Ev tv σ H v) (h : Ev ta σ H (.ref a)) (ha : H a = some (.ins C dx fs)) (c : Cls K C) (n : NoAttr K C f) (hl : fs.length < 1000) (k : ∀ H1, Ex H H1 → D.nx σ (upd H1 a (.ins C dx (putF f v fs)))) : sFld K ta tv f D σ H :=
  hv H (Ex.refl H) _ fun H1 e1 => h H1 e1 _ fun H2 e2 => ⟨a, C, dx, fs, rfl, (e1.trans e2) _ _ ha, c, n, hl, k H2 (e1.trans e2)⟩
theorem q_fld (hv : Ev tv σ H v) (h : Ev ta σ H (.ref a)) (ha : H a = some (.ins C dx fs)) (c : Cls K C) (n : NoAttr K C f) (hl : fs.length < 1000) (k : ∀ H1, Ex H H1 → tz D σ (upd H1 a (.ins C dx (putF f v fs)))) : tSeq (sFld K ta tv f) tz D σ H := s_fld (D := { D with nx := tz D }) hv h ha c n hl k
theorem s_fldL (hv : EvL tv σ H xs) (h : Ev ta σ H (.ref a)) (ha : H a = some (.ins C dx fs)) (c : Cls K C) (n : NoAttr K C f) (hl : fs.length < 1000) (k : ∀ p H1, H p = none → Ex H H1 → H1 p = some (.lst xs) → D.nx σ (upd H1 a (.ins C dx (putF f (.ref p) fs)))) : sFld K ta tv f D σ H :=
  hv H (Ex.refl H) _ fun p H1 hp e1 h1 => h H1 e1 _ fun H2 e2 => ⟨a, C, dx, fs, rfl, (e1.trans e2) _ _ ha, c, n, hl, k p H2 hp (e1.trans e2) (e2 _ _ h1)⟩
theorem q_fldL (hv : EvL tv σ H xs) (h : Ev ta σ H (.ref a)) (ha : H a = some (.ins C dx fs)) (c : Cls K C) (n : NoAttr K C f) (hl : fs.length < 1000) (k : ∀ p H1, H p = none → Ex H H1 → H1 p = some (.lst xs) → tz D σ (upd H1 a (.ins C dx (putF f (.ref p) fs)))) : tSeq (sFld K ta tv f) tz D σ H := s_fldL (D := { D with nx := tz D }) hv h ha c n hl k
/-- e.f op= value, of whole numbers -/
theorem s_fldaug {rd : V → V → Hp → VK → Prop} {w : V} (h : Ev ta σ H (.ref a)) (ha : H a = some (.ins C dx fs)) (c : Cls K C) (n : NoAttr K C f) (hf : fs.lookup f = some w) (hv : Ev tv σ H v) (hr : ∀ H1 (Q : VK), Ex H H1 → Q z H1 → rd w v H1 Q) (hl : fs.length < 1000)
    (k : ∀ H1, Ex H H1 → D.nx σ (upd H1 a (.ins C dx (putF f z fs)))) : sFldAug K ta tv rd f D σ H :=
  h H (Ex.refl H) _ fun H1 e1 => ⟨a, C, dx, fs, w, rfl, e1 _ _ ha, c, n, hf, hv H1 e1 _ fun H2 e2 => hr H2 _ (e1.trans e2) ⟨dx, fs, (e1.trans e2) _ _ ha, hl, k H2 (e1.trans e2)⟩⟩
theorem ev_meth (h : Ev ta σ H (.ref a)) (ha : H a = some (.ins C dx fs)) (hm : fs.lookup m = none) (hA : EvA t σ H vs) (hs : SpV sp (.ref a :: (vs ++ dvs)) H z) : Ev (tMeth C m sp dvs E ta t) σ H z := fun H1 e Q q =>
  h H1 e _ fun H2 e2 => ⟨a, dx, fs, rfl, (e.trans e2) _ _ ha, hm, hA H2 (e.trans e2) _ fun H3 e3 => hs H3 ((e.trans e2).trans e3) Q (fun H4 e4 => q H4 ((e2.trans e3).trans e4)) E⟩
theorem el_meth (h : Ev ta σ H (.ref a)) (ha : H a = some (.ins C dx fs)) (hm : fs.lookup m = none) (hA : EvA t σ H vs) (hs : SpL sp (.ref a :: (vs ++ dvs)) H xs) : EvL (tMeth C m sp dvs E ta t) σ H xs := fun H1 e Q q =>
  h H1 e _ fun H2 e2 => ⟨a, dx, fs, rfl, (e.trans e2) _ _ ha, hm, hA H2 (e.trans e2) _ fun H3 e3 => hs H3 ((e.trans e2).trans e3) Q (fun p H4 hp e4 h4 => q p H4 (fresh_back (e2.trans e3) hp) ((e2.trans e3).trans e4) h4) E⟩
/-- a call that hands back a new tuple -/
def SpU (sp : Sp) (vs : List V) (H : Hp) (xs : List V) : Prop := ∀ H1, Ex H H1 → ∀ Q : VK, (∀ p H2, H1 p = none → Ex H1 H2 → H2 p = some (.tup xs) → Q (.ref p) H2) → ∀ E : XK, sp vs H1 Q E
theorem eu_meth (h : Ev ta σ H (.ref a)) (ha : H a = some (.ins C dx fs)) (hm : fs.lookup m = none) (hA : EvA t σ H vs) (hs : SpU sp (.ref a :: (vs ++ dvs)) H xs) : EvU (tMeth C m sp dvs E ta t) σ H xs := fun H1 e Q q =>
  h H1 e _ fun H2 e2 => ⟨a, dx, fs, rfl, (e.trans e2) _ _ ha, hm, hA H2 (e.trans e2) _ fun H3 e3 => hs H3 ((e.trans e2).trans e3) Q (fun p H4 hp e4 h4 => q p H4 (fresh_back (e2.trans e3) hp) ((e2.trans e3).trans e4) h4) E⟩
theorem eu_call {ta : TA} (h : EvA ta σ H vs) (hs : SpU sp (vs ++ dvs) H xs) : EvU (tCall sp dvs E ta) σ H xs := fun H1 e Q q =>
  h H1 e _ fun H2 e2 => hs H2 (e.trans e2) Q (fun p H3 hp e3 h3 => q p H3 (fresh_back e2 hp) (e2.trans e3) h3) E
/-- any method's call, raw -/
theorem te_meth {Q : VK} (h : Ev ta σ H (.ref a)) (ha : H a = some (.ins C dx fs)) (hm : fs.lookup m = none) (hA : EvA t σ H vs) (k : ∀ H1, Ex H H1 → sp (.ref a :: (vs ++ dvs)) H1 Q E) : tMeth C m sp dvs E ta t σ H Q :=
  h H (Ex.refl H) _ fun H2 e2 => ⟨a, dx, fs, rfl, e2 _ _ ha, hm, hA H2 e2 _ fun H3 e3 => k H3 (e2.trans e3)⟩
theorem te_methX {Q : VK} (h : Ev ta σ H (.ref a)) (ha : H a = some (.ins C dx fs)) (hm : fs.lookup m = none) (k : ∀ H1, Ex H H1 → t σ H1 fun vs H2 => sp (.ref a :: (vs ++ dvs)) H2 Q E) : tMeth C m sp dvs E ta t σ H Q :=
  h H (Ex.refl H) _ fun H2 e2 => ⟨a, dx, fs, rfl, e2 _ _ ha, hm, k H2 e2⟩
theorem te_makeX {Q : VK} (k : t σ H fun vs H1 => ∀ x y, H1 x = none → H1 y = none → y ≠ x → sp (.ref x :: (vs ++ dvs)) (upd (upd H1 y (.own x)) x (.ins C y [])) (fun v H2 => v = .non ∧ Q (.ref x) H2) E) : tMake C sp dvs E t σ H Q := k
theorem te_make {Q : VK} (hA : EvA t σ H vs) (k : ∀ x y H1, Ex H H1 → H1 x = none → H1 y = none → y ≠ x → sp (.ref x :: (vs ++ dvs)) (upd (upd H1 y (.own x)) x (.ins C y [])) (fun v H2 => v = .non ∧ Q (.ref x) H2) E) : tMake C sp dvs E t σ H Q :=
  hA H (Ex.refl H) _ fun H1 e1 x y hx hy hne => k x y H1 e1 hx hy hne
end
/-! ### all but some places (and the tables) stays -/
def Fr (F : List Addr) (H H' : Hp) : Prop := ∀ a o, H a = some o → (∀ ps, o ≠ .tbl ps) → a ∉ F → H' a = some o
def Nw (H : Hp) (p : Addr) : Prop := ∀ o, H p = some o → ∃ ps, o = .tbl ps
theorem Nw.of {H : Hp} {p : Addr} (h : H p = none) : Nw H p := fun o z => by rw [h] at z; cases z
theorem Nw.back {H H' : Hp} {p : Addr} (e : LamX.ExtN H H') (h : Nw H' p) : Nw H p := fun o z => by
  cases o with
  | tbl ps => exact ⟨ps, rfl⟩
  | _ => exact h _ (e _ _ z fun _ q => nomatch q)
theorem Fr.refl (F : List Addr) (H : Hp) : Fr F H H := fun _ _ h _ _ => h
theorem Fr.trans {F : List Addr} {H H1 H2 : Hp} (a : Fr F H H1) (b : Fr F H1 H2) : Fr F H H2 := fun x o h n hx => b x o (a x o h n hx) n hx
theorem Fr.ex {F : List Addr} {H H' : Hp} (e : Ex H H') : Fr F H H' := fun x o h _ _ => e x o h
theorem Fr.exN {F : List Addr} {H H' : Hp} (e : LamX.ExtN H H') : Fr F H H' := fun x o h n _ => e x o h n
theorem Fr.mono {F G : List Addr} {H H' : Hp} (a : Fr F H H') (h : ∀ x ∈ F, x ∈ G) : Fr G H H' := fun x o hx n hg => a x o hx n fun z => hg (h x z)
theorem Fr.upd {F : List Addr} {H H' : Hp} {p : Addr} {o : HO} (a : Fr F H H') (h : p ∈ F) : Fr F H (upd H' p o) := fun x u hx n hf => by
  rw [upd_ne fun z => hf (by rw [z]; exact h)]
  exact a x u hx n hf
theorem Fr.new {F : List Addr} {H H' : Hp} {p : Addr} {o : HO} (a : Fr F H H') (h : Nw H p) : Fr F H (L2.upd H' p o) := fun x u hx n hf => by
  rw [upd_ne fun z => by rw [z] at hx; obtain ⟨ps, e⟩ := h u hx; exact n ps e]
  exact a x u hx n hf
/-- what is new to H0 may change: all of H0 stays -/
theorem ext_of {F : List Addr} {H0 H H' : Hp} (e : LamX.ExtN H0 H) (f : Fr F H H') (h : ∀ a ∈ F, Nw H0 a) : LamX.ExtN H0 H' := fun x o hx n => f x o (e x o hx n) n fun z => by
  obtain ⟨ps, q⟩ := h x z o hx
  exact n ps q
theorem Fr.l {F : List Addr} {H H' : Hp} {a : Addr} {xs : List V} (f : Fr F H H') (h : H a = some (.lst xs)) (n : a ∉ F) : H' a = some (.lst xs) := f a _ h (fun _ z => nomatch z) n
theorem Fr.t {F : List Addr} {H H' : Hp} {a : Addr} {xs : List V} (f : Fr F H H') (h : H a = some (.tup xs)) (n : a ∉ F) : H' a = some (.tup xs) := f a _ h (fun _ z => nomatch z) n
theorem Fr.i {F : List Addr} {H H' : Hp} {a C dx : Addr} {fs : List (Str × V)} (f : Fr F H H') (h : H a = some (.ins C dx fs)) (n : a ∉ F) : H' a = some (.ins C dx fs) := f a _ h (fun _ z => nomatch z) n
/-! ### comprehensions whose element makes something -/
section
variable {K : PySem.W.Frag} {σ : L2.St} {H : Hp} {tt : TT} {te : TE} {g : TG} {vs : List Nat} {a b : Addr} {xs ys : List V} {ta : TA} {Q : VK}
theorem rz_lc (h : EvA ta σ H [.ref a, .ref b]) (hx : SqL K H a xs) (hy : SqL K H b ys) (hl : xs.length = ys.length) (Pv : Addr → Nat → Hp → Prop) (h0 : ∀ D H1, Ex H H1 → H1 D = none → Pv D 0 (upd H1 D (.lst []))) (hq : ∀ D i H', Pv D i H' → SqL K H' a xs ∧ SqL K H' b ys)
    (hs : ∀ D i x y T H', xs[i]? = some x → ys[i]? = some y → Pv D i H' → H' T = none → g (.ref T) (wipe σ vs) (upd H' T (.tup [x, y])) fun σ2 H2 => wipe σ2 vs = wipe σ vs ∧ tt σ2 H2 fun b H3 =>
      if b = true then te σ2 H3 fun y H4 => ∃ acc, H4 D = some (.lst acc) ∧ acc.length < sizeLine ∧ Pv D (i + 1) (upd H4 D (.lst (acc ++ [y]))) else Pv D (i + 1) H3)
    (hd : ∀ D H', Pv D xs.length H' → Q (.ref D) H') : tLc (RZ.iZipA K ta) g tt te vs σ H Q := h H (Ex.refl H) _ fun H1 e1 => ⟨a, b, xs, ys, rfl, .inl ⟨ex_l e1 hx, ex_l e1 hy, fun Dl hD => by
  refine ⟨fun i m H' => m = xs.length - i ∧ i ≤ xs.length ∧ Pv Dl i H', ⟨xs.length, by simp, Nat.zero_le _, h0 Dl H1 e1 hD⟩, ?_⟩
  rintro i m H' ⟨rfl, hi, p⟩
  obtain ⟨hX, hY⟩ := hq Dl i H' p
  by_cases hlt : i < xs.length
  · have hlt2 : i < ys.length := by omega
    refine .inr ⟨⟨xs, ys, xs[i], ys[i], hX, hY, List.getElem?_eq_getElem hlt, List.getElem?_eq_getElem hlt2⟩, Pv Dl (i + 1), fun H2 p' => ⟨xs.length - (i + 1), by omega, rfl, hlt, p'⟩, fun z H2 hzz => ?_⟩
    obtain ⟨T, x, y, rfl, nT, rfl, hxx, hyy⟩ := hzz
    exact hs Dl i x y T H' (hxx xs hX) (hyy ys hY) p nT
  · have ei : i = xs.length := by omega
    subst ei
    exact .inl ⟨⟨xs, ys, hX, hY, .inl (Nat.le_refl _)⟩, hd Dl H' p⟩⟩⟩
theorem rl_lc {tl : TE} (h : Ev tl σ H (.ref a)) (hx : SqL K H a xs) (Pv : Addr → Nat → Hp → Prop) (h0 : ∀ D H1, Ex H H1 → H1 D = none → Pv D 0 (upd H1 D (.lst []))) (hq : ∀ D i H', Pv D i H' → SqL K H' a xs)
    (hs : ∀ D i x H', xs[i]? = some x → Pv D i H' → g x (wipe σ vs) H' fun σ2 H2 => wipe σ2 vs = wipe σ vs ∧ tt σ2 H2 fun b H3 =>
      if b = true then te σ2 H3 fun y H4 => ∃ acc, H4 D = some (.lst acc) ∧ acc.length < sizeLine ∧ Pv D (i + 1) (upd H4 D (.lst (acc ++ [y]))) else Pv D (i + 1) H3)
    (hd : ∀ D H', Pv D xs.length H' → Q (.ref D) H') : tLc (iList K tl) g tt te vs σ H Q := h H (Ex.refl H) _ fun H1 e1 => ⟨a, rfl, ⟨xs, ex_l e1 hx⟩, fun Dl hD => lc_list (xs := xs) (Pv Dl) (h0 Dl H1 e1 hD) (fun i H' _ p => hq Dl i H' p) (fun i x H' hi p => hs Dl i x H' hi p) (fun H' p => hd Dl H' p)⟩
end
/-! ### all but some places stays, the tables too -/
def ExF (F : List Addr) (H H' : Hp) : Prop := ∀ a o, H a = some o → a ∉ F → H' a = some o
theorem ExF.refl (F : List Addr) (H : Hp) : ExF F H H := fun _ _ h _ => h
theorem ExF.trans {F : List Addr} {H H1 H2 : Hp} (a : ExF F H H1) (b : ExF F H1 H2) : ExF F H H2 := fun x o h hx => b x o (a x o h hx) hx
theorem ExF.ex {F : List Addr} {H H' : Hp} (e : Ex H H') : ExF F H H' := fun x o h _ => e x o h
theorem ExF.upd {F : List Addr} {H H' : Hp} {p : Addr} {o : HO} (a : ExF F H H') (h : p ∈ F) : ExF F H (L2.upd H' p o) := fun x u hx hf => by
  rw [upd_ne fun z => hf (by rw [z]; exact h)]
  exact a x u hx hf
theorem ExF.new {F : List Addr} {H H' : Hp} {p : Addr} {o : HO} (a : ExF F H H') (h : H p = none) : ExF F H (L2.upd H' p o) := fun x u hx hf => by
  rw [upd_ne fun z => by rw [z, h] at hx; cases hx]
  exact a x u hx hf
theorem ExF.mono {F G : List Addr} {H H' : Hp} (a : ExF F H H') (h : ∀ x ∈ F, x ∈ G) : ExF G H H' := fun x o hx hg => a x o hx fun z => hg (h x z)
theorem ExF.fr {F : List Addr} {H H' : Hp} (a : ExF F H H') : Fr F H H' := fun x o h _ hx => a x o h hx
theorem ExF.l {F : List Addr} {H H' : Hp} {a : Addr} {xs : List V} (f : ExF F H H') (h : H a = some (.lst xs)) (n : a ∉ F) : H' a = some (.lst xs) := f a _ h n
/-- lists and instances, or nothing -/
def Soft (F : List Addr) (H : Hp) : Prop := ∀ a ∈ F, H a = none ∨ (∃ xs, H a = some (.lst xs)) ∨ ∃ C dx fs, H a = some (.ins C dx fs)
theorem tabs_exF {T : List (Addr × Str)} {F : List Addr} {H H' : Hp} (t : LamX.Tabs T H) (e : ExF F H H') (s : Soft F H) : LamX.Tabs T H' := fun q hq => by
  obtain ⟨ps, h1, h2, h3⟩ := t q hq
  refine ⟨ps, e _ _ h1 fun z => ?_, h2, fun pos cv hc => ?_⟩
  · rcases s _ z with h | ⟨xs, h⟩ | ⟨C, dx, fs, h⟩ <;> rw [h1] at h <;> cases h
  · obtain ⟨c, e1, e2⟩ := h3 pos cv hc
    refine ⟨c, e1, e _ _ e2 fun z => ?_⟩
    rcases s _ z with h | ⟨xs, h⟩ | ⟨C, dx, fs, h⟩ <;> rw [e2] at h <;> first | cases h | (unfold LamX.CodeO at h; cases h)
theorem q_asgX {te : TE} {σ : L2.St} {H : Hp} {i : Nat} {D : Ends} {tz : TS} (k : te σ H fun v H1 => tz D (σ.set i (some v)) H1) : tSeq (tAsg te (gName i)) tz D σ H := k
theorem q_fldX {K : PySem.W.Frag} {tv : TE} {σ : L2.St} {H : Hp} {i : Nat} {f : Str} {D : Ends} {tz : TS} (k : tv σ H fun v H1 => tVar i σ H1 fun x H2 => ∃ a C dx fs, x = .ref a ∧ H2 a = some (.ins C dx fs) ∧ Cls K C ∧ NoAttr K C f ∧ fs.length < 1000 ∧ tz D σ (L2.upd H2 a (.ins C dx (putF f v fs)))) : tSeq (sFld K (tVar i) tv f) tz D σ H := k
theorem fld_end {K : PySem.W.Frag} {σ : L2.St} {H : Hp} {i : Nat} {a C dx : Addr} {fs : List (Str × V)} {f : Str} {D : Ends} {tz : TS} {v : V} (hi : σ[i]? = some (some (.ref a))) (ha : H a = some (.ins C dx fs)) (c : Cls K C) (n : NoAttr K C f) (hl : fs.length < 1000) (k : tz D σ (L2.upd H a (.ins C dx (putF f v fs)))) :
    tVar i σ H fun x H2 => ∃ a C dx fs, x = .ref a ∧ H2 a = some (.ins C dx fs) ∧ Cls K C ∧ NoAttr K C f ∧ fs.length < 1000 ∧ tz D σ (L2.upd H2 a (.ins C dx (putF f v fs))) := ⟨_, hi, a, C, dx, fs, rfl, ha, c, n, hl, k⟩
theorem q_dropX {te : TE} {σ : L2.St} {H : Hp} {D : Ends} {tz : TS} (k : te σ H fun _ H1 => tz D σ H1) : tSeq (tDrop te) tz D σ H := k
theorem q_asgXg {te : TE} {g : TG} {σ : L2.St} {H : Hp} {D : Ends} {tz : TS} (k : te σ H fun v H1 => g v σ H1 (tz D)) : tSeq (tAsg te g) tz D σ H := k
theorem s_appX {K : PySem.W.Frag} {σ : L2.St} {H : Hp} {ta te : TE} {D : Ends} {l : Addr} {xs : List V} (hl : H l = some (.lst xs)) (ha : Ev ta σ H (.ref l)) (k : ∀ H1, Ex H H1 → te σ H1 fun v H2 => rAppend (.ref l) [v] H2 fun _ H3 => D.nx σ H3) : tDrop (tBM K "list" rAppend ta (tCons te tNil)) D σ H :=
  ha H (Ex.refl H) _ fun H1 e1 => ⟨Or.inl ⟨rfl, xs, sq_of (e1 l _ hl)⟩, k H1 e1⟩
theorem q_appX {K : PySem.W.Frag} {σ : L2.St} {H : Hp} {ta te : TE} {D : Ends} {tz : TS} {l : Addr} {xs : List V} (hl : H l = some (.lst xs)) (ha : Ev ta σ H (.ref l)) (k : ∀ H1, Ex H H1 → te σ H1 fun v H2 => rAppend (.ref l) [v] H2 fun _ H3 => tz D σ H3) : tSeq (tDrop (tBM K "list" rAppend ta (tCons te tNil))) tz D σ H := s_appX (D := { D with nx := tz D }) hl ha k
theorem te_if {t : TT} {ta tb : TE} {σ : L2.St} {H : Hp} {Q : VK} {b : Bool} (h : EvT t σ H b) (h1 : b = true → ∀ H1, Ex H H1 → ta σ H1 Q) (h2 : b = false → ∀ H1, Ex H H1 → tb σ H1 Q) : tIf t ta tb σ H Q := h H (Ex.refl H) _ fun H1 e1 => by
  cases b with
  | true => rw [if_pos rfl]; exact h1 rfl H1 e1
  | false => rw [if_neg Bool.false_ne_true]; exact h2 rfl H1 e1
theorem ea_star {K : PySem.W.Frag} {te : TE} {tr : TA} {σ : L2.St} {H : Hp} {p : Addr} {xs vs : List V} (h : Ev te σ H (.ref p)) (hp : SqT K H p xs) (hr : EvA tr σ H vs) : EvA (StX.tStar K te tr) σ H (xs ++ vs) := fun H1 e Q q =>
  h H1 e _ fun H2 e2 => ⟨p, xs, rfl, .inl (ex_t (e.trans e2) hp), hr H2 (e.trans e2) _ fun H3 e3 => q H3 (e2.trans e3)⟩
/-! ### arguments that make new places -/
section
variable {K : PySem.W.Frag} {σ : L2.St} {H : Hp} {te tl : TE} {tr : TA} {v : V} {xs : List V}
theorem ta_cons {Q : List V → Hp → Prop} (h : Ev te σ H v) (k : ∀ H1, Ex H H1 → tr σ H1 fun vs H2 => Q (v :: vs) H2) : tCons te tr σ H Q := h H (Ex.refl H) _ k
theorem ta_consX {Q : List V → Hp → Prop} (k : te σ H fun x H1 => tr σ H1 fun xs H2 => Q (x :: xs) H2) : tCons te tr σ H Q := k
theorem ta_all {ta : TA} {vs : List V} {Q : List V → Hp → Prop} (h : EvA ta σ H vs) (k : ∀ H1, Ex H H1 → Q vs H1) : ta σ H Q := h H (Ex.refl H) _ k
theorem te_call {sp : Sp} {dvs vs : List V} {E : XK} {ta : TA} {Q : VK} (h : EvA ta σ H vs) (k : ∀ H1, Ex H H1 → sp (vs ++ dvs) H1 Q E) : tCall sp dvs E ta σ H Q := h H (Ex.refl H) _ k
theorem s_retX {ta : TA} {D : Ends} (k : ta σ H fun xs H1 => xs.length ≤ sizeLine ∧ ∀ p, H1 p = none → D.rt (.ref p) (upd H1 p (.lst xs))) : tRet (tLst ta) D σ H := k
end

end Su
namespace Su
/-! ### a circle, its mirror -/
inductive SSt where
  | w | d | f
deriving DecidableEq
def stS : SSt → Str
  | .w => "waits"
  | .d => "drew"
  | .f => "fell"
structure SeatM where
  st : SSt
  since : Int
  pledge : Int
  given : Int
  drawn : Int
  shared : Int
  pst : Int
structure CirM where
  stake : Int
  fp : List Int
  ws : List Int
  bid : Bool
  seats : List SeatM
  line : List Nat
  opn : Int
  rests : Int
  chest : Int
  flows : List (List Int)
structure CirD where
  c : Addr
  dx : Addr
  pl : Addr
  pfp : Addr
  pws : Addr
  ps : Addr
  pf : Addr
  sa : List (Addr × Addr)
  fl : List Addr
def cNs : List Str := ["line", "stake", "first_pledges", "wishes", "bidding", "seats", "open_round", "rests_due", "chest", "flows"]
def sNs : List Str := ["state", "since", "pledge", "given", "drawn", "shared", "pledge_stakes"]
theorem cNs_nd : cNs.Nodup := by decide +kernel
theorem sNs_nd : sNs.Nodup := by decide +kernel
def seatV (s : SeatM) : List V := [.str (stS s.st), .int s.since, .int s.pledge, .int s.given, .int s.drawn, .int s.shared, .int s.pst]
def cirV (d : CirD) (M : CirM) : List V := [.ref d.pl, .int M.stake, .ref d.pfp, .ref d.pws, .bl M.bid, .ref d.ps, .int M.opn, .int M.rests, .int M.chest, .ref d.pf]
def srefs (sa : List (Addr × Addr)) : List V := sa.map fun x => V.ref x.1
structure CirAt (C S : Addr) (H : Hp) (d : CirD) (M : CirM) : Prop where
  hc : H d.c = some (.ins C d.dx (cNs.zip (cirV d M)))
  hl : H d.pl = some (.lst ((natI M.line).map V.int))
  hfp : H d.pfp = some (.lst (M.fp.map V.int))
  hws : H d.pws = some (.lst (M.ws.map V.int))
  hs : H d.ps = some (.lst (srefs d.sa))
  hsl : d.sa.length = M.seats.length
  hsa : ∀ (i : Nat) (x : Addr × Addr) (s : SeatM), d.sa[i]? = some x → M.seats[i]? = some s → H x.1 = some (.ins S x.2 (sNs.zip (seatV s)))
  hf : H d.pf = some (.lst (d.fl.map V.ref))
  hfl : d.fl.length = M.flows.length
  hfa : ∀ (i : Nat) (a : Addr) (r : List Int), d.fl[i]? = some a → M.flows[i]? = some r → H a = some (.lst (r.map V.int))
  nd : (d.sa.map (·.1)).Nodup
  apl : d.pl ∉ d.pfp :: d.pws :: d.ps :: d.pf :: d.fl
  apf : d.pf ∉ d.pfp :: d.pws :: d.ps :: d.fl
/-- all places of a circle, and those that may change -/
def CirD.all (d : CirD) : List Addr := d.c :: d.pl :: d.pfp :: d.pws :: d.ps :: d.pf :: (d.sa.map (·.1) ++ d.fl)
def CirD.mut (d : CirD) : List Addr := d.c :: d.pl :: d.pf :: d.sa.map (·.1)
theorem CirAt.keep {C S : Addr} {H H' : Hp} {d : CirD} {M : CirM} (h : CirAt C S H d M) (k : ∀ a o, a ∈ d.all → H a = some o → (∀ ps, o ≠ .tbl ps) → H' a = some o) : CirAt C S H' d M where
  hc := k _ _ (by simp [CirD.all]) h.hc (fun _ z => nomatch z)
  hl := k _ _ (by simp [CirD.all]) h.hl (fun _ z => nomatch z)
  hfp := k _ _ (by simp [CirD.all]) h.hfp (fun _ z => nomatch z)
  hws := k _ _ (by simp [CirD.all]) h.hws (fun _ z => nomatch z)
  hs := k _ _ (by simp [CirD.all]) h.hs (fun _ z => nomatch z)
  hsl := h.hsl
  hsa := fun i x s h1 h2 => k _ _ (by
    unfold CirD.all
    iterate 6 apply List.mem_cons_of_mem
    exact List.mem_append_left _ (List.mem_map.mpr ⟨x, List.mem_of_getElem? h1, rfl⟩)) (h.hsa i x s h1 h2) (fun _ z => nomatch z)
  hf := k _ _ (by simp [CirD.all]) h.hf (fun _ z => nomatch z)
  hfl := h.hfl
  hfa := fun i a r h1 h2 => k _ _ (by
    unfold CirD.all
    iterate 6 apply List.mem_cons_of_mem
    exact List.mem_append_right _ (List.mem_of_getElem? h1)) (h.hfa i a r h1 h2) (fun _ z => nomatch z)
  nd := h.nd
  apl := h.apl
  apf := h.apf
theorem CirAt.ex {C S : Addr} {H H' : Hp} {d : CirD} {M : CirM} (h : CirAt C S H d M) (e : Ex H H') : CirAt C S H' d M := h.keep fun a o _ ha _ => e a o ha
theorem CirAt.exN {C S : Addr} {H H' : Hp} {d : CirD} {M : CirM} (h : CirAt C S H d M) (e : LamX.ExtN H H') : CirAt C S H' d M := h.keep fun a o _ ha n => e a o ha n
theorem CirAt.fr {C S : Addr} {H H' : Hp} {d : CirD} {M : CirM} {F : List Addr} (h : CirAt C S H d M) (f : Fr F H H') (hF : ∀ a ∈ d.all, a ∉ F) : CirAt C S H' d M := h.keep fun a o hm ha n => f a o ha n (hF a hm)
theorem seat_at {M : CirM} {i : Nat} (h : i < M.seats.length) : ∃ s, M.seats[i]? = some s := ⟨_, List.getElem?_eq_getElem h⟩
theorem CirAt.sat {C S : Addr} {H : Hp} {d : CirD} {M : CirM} (h : CirAt C S H d M) {i : Nat} (hi : i < M.seats.length) : ∃ x, d.sa[i]? = some x := ⟨_, List.getElem?_eq_getElem (by rw [h.hsl]; exact hi)⟩
theorem srefs_at {sa : List (Addr × Addr)} {i : Nat} {x : Addr × Addr} (h : sa[i]? = some x) : (srefs sa)[i]? = some (.ref x.1) := by
  unfold srefs
  rw [List.getElem?_map, h]
  rfl
theorem srefs_len {sa : List (Addr × Addr)} : (srefs sa).length = sa.length := List.length_map _
section
variable {K : PySem.W.Frag} {C S : Addr} {σ : L2.St} {H : Hp} {d : CirD} {M : CirM} {ta : TE} {v : V} {f : Str}
/-- an attribute of the circle -/
theorem ev_cf {i : Nat} (h : CirAt C S H d M) (ha : Ev ta σ H (.ref d.c)) (c : Cls K C) (n : NoAttr K C f) (hf : cNs[i]? = some f) (hv : (cirV d M)[i]? = some v) : Ev (tFld K ta f) σ H v := ev_fld ha h.hc c n (zip_lookup cNs_nd hf hv)
theorem ev_sf {i : Nat} {x : Addr × Addr} {s : SeatM} (hx : H x.1 = some (.ins S x.2 (sNs.zip (seatV s)))) (ha : Ev ta σ H (.ref x.1)) (c : Cls K S) (n : NoAttr K S f) (hf : sNs[i]? = some f) (hv : (seatV s)[i]? = some v) : Ev (tFld K ta f) σ H v := ev_fld ha hx c n (zip_lookup sNs_nd hf hv)
end

end Su
namespace Su
/-! ### what is asked of a circle -/
section
variable {P : Program} {w : World} {K : PySem.W.Frag} {mg : Str → Option Value} {base : Heap} {σ : L2.St} {H : Hp} {d : CirD} {M : CirM} {s : SeatM} {x : Addr × Addr} {ta : TE}
theorem Top.c_line (T : Top K mg) (h : CirAt T.f_Circle T.f_Seat H d M) (ha : Ev ta σ H (.ref d.c)) : Ev (tFld K ta "line") σ H (.ref d.pl) := ev_cf (i := 0) h ha T.cl_Circle T.na_Circle_line rfl rfl
theorem Top.c_stake (T : Top K mg) (h : CirAt T.f_Circle T.f_Seat H d M) (ha : Ev ta σ H (.ref d.c)) : Ev (tFld K ta "stake") σ H (.int M.stake) := ev_cf (i := 1) h ha T.cl_Circle T.na_Circle_stake rfl rfl
theorem Top.c_first_pledges (T : Top K mg) (h : CirAt T.f_Circle T.f_Seat H d M) (ha : Ev ta σ H (.ref d.c)) : Ev (tFld K ta "first_pledges") σ H (.ref d.pfp) := ev_cf (i := 2) h ha T.cl_Circle T.na_Circle_first_pledges rfl rfl
theorem Top.c_wishes (T : Top K mg) (h : CirAt T.f_Circle T.f_Seat H d M) (ha : Ev ta σ H (.ref d.c)) : Ev (tFld K ta "wishes") σ H (.ref d.pws) := ev_cf (i := 3) h ha T.cl_Circle T.na_Circle_wishes rfl rfl
theorem Top.c_bidding (T : Top K mg) (h : CirAt T.f_Circle T.f_Seat H d M) (ha : Ev ta σ H (.ref d.c)) : Ev (tFld K ta "bidding") σ H (.bl M.bid) := ev_cf (i := 4) h ha T.cl_Circle T.na_Circle_bidding rfl rfl
theorem Top.c_seats (T : Top K mg) (h : CirAt T.f_Circle T.f_Seat H d M) (ha : Ev ta σ H (.ref d.c)) : Ev (tFld K ta "seats") σ H (.ref d.ps) := ev_cf (i := 5) h ha T.cl_Circle T.na_Circle_seats rfl rfl
theorem Top.c_open_round (T : Top K mg) (h : CirAt T.f_Circle T.f_Seat H d M) (ha : Ev ta σ H (.ref d.c)) : Ev (tFld K ta "open_round") σ H (.int M.opn) := ev_cf (i := 6) h ha T.cl_Circle T.na_Circle_open_round rfl rfl
theorem Top.c_rests_due (T : Top K mg) (h : CirAt T.f_Circle T.f_Seat H d M) (ha : Ev ta σ H (.ref d.c)) : Ev (tFld K ta "rests_due") σ H (.int M.rests) := ev_cf (i := 7) h ha T.cl_Circle T.na_Circle_rests_due rfl rfl
theorem Top.c_chest (T : Top K mg) (h : CirAt T.f_Circle T.f_Seat H d M) (ha : Ev ta σ H (.ref d.c)) : Ev (tFld K ta "chest") σ H (.int M.chest) := ev_cf (i := 8) h ha T.cl_Circle T.na_Circle_chest rfl rfl
theorem Top.c_flows (T : Top K mg) (h : CirAt T.f_Circle T.f_Seat H d M) (ha : Ev ta σ H (.ref d.c)) : Ev (tFld K ta "flows") σ H (.ref d.pf) := ev_cf (i := 9) h ha T.cl_Circle T.na_Circle_flows rfl rfl
theorem Top.s_state (T : Top K mg) (h : H x.1 = some (.ins T.f_Seat x.2 (sNs.zip (seatV s)))) (ha : Ev ta σ H (.ref x.1)) : Ev (tFld K ta "state") σ H (.str (stS s.st)) := ev_sf (i := 0) h ha T.cl_Seat T.na_Seat_state rfl rfl
theorem Top.s_since (T : Top K mg) (h : H x.1 = some (.ins T.f_Seat x.2 (sNs.zip (seatV s)))) (ha : Ev ta σ H (.ref x.1)) : Ev (tFld K ta "since") σ H (.int s.since) := ev_sf (i := 1) h ha T.cl_Seat T.na_Seat_since rfl rfl
theorem Top.s_pledge (T : Top K mg) (h : H x.1 = some (.ins T.f_Seat x.2 (sNs.zip (seatV s)))) (ha : Ev ta σ H (.ref x.1)) : Ev (tFld K ta "pledge") σ H (.int s.pledge) := ev_sf (i := 2) h ha T.cl_Seat T.na_Seat_pledge rfl rfl
theorem Top.s_given (T : Top K mg) (h : H x.1 = some (.ins T.f_Seat x.2 (sNs.zip (seatV s)))) (ha : Ev ta σ H (.ref x.1)) : Ev (tFld K ta "given") σ H (.int s.given) := ev_sf (i := 3) h ha T.cl_Seat T.na_Seat_given rfl rfl
theorem Top.s_drawn (T : Top K mg) (h : H x.1 = some (.ins T.f_Seat x.2 (sNs.zip (seatV s)))) (ha : Ev ta σ H (.ref x.1)) : Ev (tFld K ta "drawn") σ H (.int s.drawn) := ev_sf (i := 4) h ha T.cl_Seat T.na_Seat_drawn rfl rfl
theorem Top.s_shared (T : Top K mg) (h : H x.1 = some (.ins T.f_Seat x.2 (sNs.zip (seatV s)))) (ha : Ev ta σ H (.ref x.1)) : Ev (tFld K ta "shared") σ H (.int s.shared) := ev_sf (i := 5) h ha T.cl_Seat T.na_Seat_shared rfl rfl
theorem Top.s_pledge_stakes (T : Top K mg) (h : H x.1 = some (.ins T.f_Seat x.2 (sNs.zip (seatV s)))) (ha : Ev ta σ H (.ref x.1)) : Ev (tFld K ta "pledge_stakes") σ H (.int s.pst) := ev_sf (i := 6) h ha T.cl_Seat T.na_Seat_pledge_stakes rfl rfl
theorem c_no {m : Str} {vs : List V} (h : m ∉ cNs := by decide +kernel) : (cNs.zip vs).lookup m = none := zip_none h
theorem s_no {m : Str} {vs : List V} (h : m ∉ sNs := by decide +kernel) : (sNs.zip vs).lookup m = none := zip_none h
/-- how many seats there are -/
theorem Top.c_len (T : Top K mg) (h : CirAt T.f_Circle T.f_Seat H d M) (ha : Ev ta σ H (.ref d.c)) : Ev (tCB (rLenS K) (tCons (tFld K ta "seats") tNil)) σ H (.int (M.seats.length : Int)) := by
  have := ev_len (K := K) (T.c_seats h ha) (sq_of h.hs)
  rw [srefs_len, h.hsl] at this
  exact this
def spObs (C S : Addr) (g : CirM → V) : Sp := fun vs H Q _ => ∃ d M, vs = [.ref d.c] ∧ CirAt C S H d M ∧ M.seats.length ≤ 1000 ∧ ∀ H', Ex H H' → Q (g M) H'
theorem spV_obs {C S : Addr} {g : CirM → V} (h : CirAt C S H d M) (hn : M.seats.length ≤ 1000) : SpV (spObs C S g) [.ref d.c] H (g M) := fun H1 e Q q _ => ⟨d, M, rfl, h.ex e, hn, q⟩
def spObsL (C S : Addr) (g : CirM → List V) : Sp := fun vs H Q _ => ∃ d M, vs = [.ref d.c] ∧ CirAt C S H d M ∧ M.seats.length ≤ 1000 ∧ ∀ H' p, H p = none → Ex H H' → H' p = some (.lst (g M)) → Q (.ref p) H'
theorem spL_obs {C S : Addr} {g : CirM → List V} (h : CirAt C S H d M) (hn : M.seats.length ≤ 1000) : SpL (spObsL C S g) [.ref d.c] H (g M) := fun H1 e Q q _ => ⟨d, M, rfl, h.ex e, hn, fun H2 p hp e2 h2 => q p H2 hp e2 h2⟩
def endedM (M : CirM) : V := .bl (decide (M.opn > (M.seats.length : Int)))
def queueM (M : CirM) : List V := (natI M.line).map V.int
def potM (M : CirM) : Int := M.stake * (M.seats.length : Int)

theorem ok_Circle_turn (T : Top K mg) {k : Nat} : FnOk P w K mg base CX0 (k + 1) T.f_Circle_turn T.fd_Circle_turn ["self"] (spObs T.f_Circle T.f_Seat (fun M => .int M.opn)) := by
  have nd := sc_Circle_turn.nd
  refine T.F_Circle_turn.ok sc_Circle_turn (fun vs H Q E h => ?_) (fun cdv A outer s H vs Q E hr h => ?_)
  · obtain ⟨d, M, rfl, _⟩ := h
    rfl
  · obtain ⟨d, M, rfl, h, hn, q⟩ := h
    refine ⟨_, (pss_one (ps_ret (pe_fldK (K := K) rfl (pv 0) rfl))), ?_⟩
    exact s_ret (T.c_open_round h (ev_var rfl)) fun H1 e1 => q H1 e1
theorem ok_Circle_ended (T : Top K mg) {k : Nat} : FnOk P w K mg base CX0 (k + 1) T.f_Circle_ended T.fd_Circle_ended ["self"] (spObs T.f_Circle T.f_Seat endedM) := by
  have nd := sc_Circle_ended.nd
  refine T.F_Circle_ended.ok sc_Circle_ended (fun vs H Q E h => ?_) (fun cdv A outer s H vs Q E hr h => ?_)
  · obtain ⟨d, M, rfl, _⟩ := h
    rfl
  · obtain ⟨d, M, rfl, h, hn, q⟩ := h
    refine ⟨_, (pss_one (ps_ret (pe_cmpR op_gt (pe_fldK (K := K) rfl (pv 0) rfl) (pe_callB call_len_seq (by rfl) T.m_len PySem.boot_len (pa_cons (pe_fldK (K := K) rfl (pv 0) rfl) pa_nil)) (nomark _)))), ?_⟩
    exact s_ret (ev_op (T.c_open_round h (ev_var rfl)) (T.c_len h (ev_var rfl)) rv_I0) fun H1 e1 => q H1 e1
theorem ok_Circle_box (T : Top K mg) {k : Nat} : FnOk P w K mg base CX0 (k + 1) T.f_Circle_box T.fd_Circle_box ["self"] (spObs T.f_Circle T.f_Seat (fun M => .int M.chest)) := by
  have nd := sc_Circle_box.nd
  refine T.F_Circle_box.ok sc_Circle_box (fun vs H Q E h => ?_) (fun cdv A outer s H vs Q E hr h => ?_)
  · obtain ⟨d, M, rfl, _⟩ := h
    rfl
  · obtain ⟨d, M, rfl, h, hn, q⟩ := h
    refine ⟨_, (pss_one (ps_ret (pe_fldK (K := K) rfl (pv 0) rfl))), ?_⟩
    exact s_ret (T.c_chest h (ev_var rfl)) fun H1 e1 => q H1 e1
theorem ok_Circle_pot (T : Top K mg) {k : Nat} : FnOk P w K mg base CX0 (k + 1) T.f_Circle_pot T.fd_Circle_pot ["self"] (spObs T.f_Circle T.f_Seat (fun M => .int (potM M))) := by
  have nd := sc_Circle_pot.nd
  refine T.F_Circle_pot.ok sc_Circle_pot (fun vs H Q E h => ?_) (fun cdv A outer s H vs Q E hr h => ?_)
  · obtain ⟨d, M, rfl, _⟩ := h
    rfl
  · obtain ⟨d, M, rfl, h, hn, q⟩ := h
    refine ⟨_, (pss_one (ps_ret (pe_op op_mul (pe_fldK (K := K) rfl (pv 0) rfl) (pe_callB call_len_seq (by rfl) T.m_len PySem.boot_len (pa_cons (pe_fldK (K := K) rfl (pv 0) rfl) pa_nil))))), ?_⟩
    exact s_ret (ev_op (T.c_stake h (ev_var rfl)) (T.c_len h (ev_var rfl)) (Su.rv_mul (Su.CMul.r (by omega) (by omega)))) fun H1 e1 => q H1 e1
theorem ok_Circle_queue (T : Top K mg) {k : Nat} : FnOk P w K mg base CX0 (k + 1) T.f_Circle_queue T.fd_Circle_queue ["self"] (spObsL T.f_Circle T.f_Seat queueM) := by
  have nd := sc_Circle_queue.nd
  refine T.F_Circle_queue.ok sc_Circle_queue (fun vs H Q E h => ?_) (fun cdv A outer s H vs Q E hr h => ?_)
  · obtain ⟨d, M, rfl, _⟩ := h
    rfl
  · obtain ⟨d, M, rfl, h, hn, q⟩ := h
    refine ⟨_, (pss_one (ps_ret (pe_callTy call_list_of (by rfl) T.m_list (by decide +kernel) (pa_cons (pe_fldK (K := K) rfl (pv 0) rfl) pa_nil)))), ?_⟩
    exact s_retL (el_list (T.c_line h (ev_var rfl)) (sq_of h.hl)) fun p H1 hp e1 h1 => q H1 p hp e1 h1
/-- the seat of a number -/
def spSeatAt (C S : Addr) : Sp := fun vs H Q _ => ∃ d M, ∃ (i : Nat) (x : Addr × Addr), vs = [.ref d.c, .int (i : Int)] ∧ CirAt C S H d M ∧ M.seats.length ≤ 1000 ∧ d.sa[i]? = some x ∧ ∀ H', Ex H H' → Q (.ref x.1) H'
theorem spV_seatAt {C S : Addr} {i : Nat} (h : CirAt C S H d M) (hn : M.seats.length ≤ 1000) (hx : d.sa[i]? = some x) : SpV (spSeatAt C S) [.ref d.c, .int (i : Int)] H (.ref x.1) := fun H1 e Q q _ => ⟨d, M, i, x, rfl, h.ex e, hn, hx, q⟩
theorem CirAt.sn {C S : Addr} (h : CirAt C S H d M) {i : Nat} (hx : d.sa[i]? = some x) : i < M.seats.length := by rw [← h.hsl]; exact (List.getElem?_eq_some_iff.mp hx).1
theorem ok_Circle_seat_at (T : Top K mg) {k : Nat} : FnOk P w K mg base CX0 (k + 1) T.f_Circle_seat_at T.fd_Circle_seat_at ["self", "at"] (spSeatAt T.f_Circle T.f_Seat) := by
  have nd := sc_Circle_seat_at.nd
  refine T.F_Circle_seat_at.ok sc_Circle_seat_at (fun vs H Q E h => ?_) (fun cdv A outer s H vs Q E hr h => ?_)
  · obtain ⟨d, M, i, x, rfl, _⟩ := h
    rfl
  · obtain ⟨d, M, i, x, rfl, h, hn, hx, q⟩ := h
    refine ⟨_, (pss_cons (ps_if (pt_not (pt_chain op_le op_lt pe_int (pv 1) (pe_callB call_len_seq (by rfl) T.m_len PySem.boot_len (pa_cons (pe_fldK (K := K) rfl (pv 0) rfl) pa_nil))))
        (pss_one ps_never)
        pss_nil)
      (pss_one (ps_ret (pe_ix ix_list (pe_fldK (K := K) rfl (pv 0) rfl) (pv 1) (fun _ _ => rfl))))), ?_⟩
    have hi := h.sn hx
    refine q_when (b := false) (et_not (a := true) (et_is (et_chain (f := fun i j => decide (i ≤ j)) (g := fun i j => decide (i < j)) ev_c (ev_var rfl) (T.c_len h (ev_var rfl))) (by rw [decide_eq_true (by omega), decide_eq_true (by omega)]; rfl))) (fun h => by cases h) fun _ H1 e1 => ?_
    exact s_ret (ev_op (T.c_seats (h.ex e1) (ev_var rfl)) (ev_var rfl) (rv_ixL (sq_of (h.ex e1).hs) (atI_nat (srefs_at hx)))) fun H2 e2 => q H2 (e1.trans e2)
def spSeat (C S : Addr) : Sp := fun vs H Q _ => ∃ d M, ∃ (i : Nat) (s : SeatM), vs = [.ref d.c, .int (i : Int)] ∧ CirAt C S H d M ∧ M.seats.length ≤ 1000 ∧ M.seats[i]? = some s ∧ ∀ H' p, H p = none → Ex H H' → H' p = some (.tup (seatV s)) → Q (.ref p) H'
theorem spU_seat {C S : Addr} {i : Nat} (h : CirAt C S H d M) (hn : M.seats.length ≤ 1000) (hx : M.seats[i]? = some s) : SpU (spSeat C S) [.ref d.c, .int (i : Int)] H (seatV s) := fun H1 e Q q _ => ⟨d, M, i, s, rfl, h.ex e, hn, hx, fun H2 p hp e2 h2 => q p H2 hp e2 h2⟩
theorem CirAt.both {C S : Addr} (h : CirAt C S H d M) {i : Nat} (hs : M.seats[i]? = some s) : ∃ x, d.sa[i]? = some x ∧ H x.1 = some (.ins S x.2 (sNs.zip (seatV s))) := by
  obtain ⟨x, hx⟩ := h.sat (List.getElem?_eq_some_iff.mp hs).1
  exact ⟨x, hx, h.hsa i x s hx hs⟩
theorem ok_Circle_seat (T : Top K mg) {k : Nat} : FnOk P w K mg base CX0 (k + 2) T.f_Circle_seat T.fd_Circle_seat ["self", "at"] (spSeat T.f_Circle T.f_Seat) := by
  have nd := sc_Circle_seat.nd
  have G_Circle_seat_at : FnOk P w K mg base CX0 1 T.f_Circle_seat_at T.fd_Circle_seat_at ["self", "at"] (spSeatAt T.f_Circle T.f_Seat) := ok_Circle_seat_at T
  refine T.F_Circle_seat.ok sc_Circle_seat (fun vs H Q E h => ?_) (fun cdv A outer s H vs Q E hr h => ?_)
  · obtain ⟨d, M, i, s, rfl, _⟩ := h
    rfl
  · obtain ⟨d, M, i, s, rfl, h, hn, hs, q⟩ := h
    refine ⟨_, (pss_cons (ps_set (i := 2) nd rfl (.inl rfl) (pe_meth (pv 0) T.cl_Circle T.mt_Circle_seat_at G_Circle_seat_at (hr.mono (by omega)) T.b_Circle_seat_at .nil pass0 (pa_cons (pv 1) pa_nil)))
      (pss_one (ps_ret (pe_tup (pa_cons (pe_fldK (K := K) rfl (pv 2) rfl) (pa_cons (pe_fldK (K := K) rfl (pv 2) rfl) (pa_cons (pe_fldK (K := K) rfl (pv 2) rfl) (pa_cons (pe_fldK (K := K) rfl (pv 2) rfl) (pa_cons (pe_fldK (K := K) rfl (pv 2) rfl) (pa_cons (pe_fldK (K := K) rfl (pv 2) rfl) (pa_cons (pe_fldK (K := K) rfl (pv 2) rfl) pa_nil))))))))))), ?_⟩
    obtain ⟨x, hx, hxs⟩ := h.both hs
    refine q_asg (ev_meth (ev_var rfl) h.hc c_no (ea_cons (ev_var rfl) ea_nil) (spV_seatAt h hn hx)) fun H1 e1 => ?_
    have hx1 := e1 _ _ hxs
    exact s_retU (eu_tup (vs := seatV s) (ea_cons (T.s_state hx1 (ev_var rfl)) (ea_cons (T.s_since hx1 (ev_var rfl)) (ea_cons (T.s_pledge hx1 (ev_var rfl)) (ea_cons (T.s_given hx1 (ev_var rfl)) (ea_cons (T.s_drawn hx1 (ev_var rfl)) (ea_cons (T.s_shared hx1 (ev_var rfl)) (ea_cons (T.s_pledge_stakes hx1 (ev_var rfl)) ea_nil))))))) (by show 7 ≤ 100000; decide)) fun p H2 hp e2 h2 => q H2 p (fresh_back e1 hp) (e1.trans e2) h2
/-- a number that is told of a seat -/
def spOf (C S : Addr) (ok : CirM → Nat → Prop) (g : CirM → Nat → SeatM → Int) : Sp := fun vs H Q _ => ∃ d M, ∃ (i : Nat) (s : SeatM), vs = [.ref d.c, .int (i : Int)] ∧ CirAt C S H d M ∧ M.seats.length ≤ 1000 ∧ M.seats[i]? = some s ∧ ok M i ∧ ∀ H', Ex H H' → Q (.int (g M i s)) H'
theorem spV_of {C S : Addr} {ok : CirM → Nat → Prop} {g : CirM → Nat → SeatM → Int} {i : Nat} (h : CirAt C S H d M) (hn : M.seats.length ≤ 1000) (hs : M.seats[i]? = some s) (ho : ok M i) : SpV (spOf C S ok g) [.ref d.c, .int (i : Int)] H (.int (g M i s)) := fun H1 e Q q _ => ⟨d, M, i, s, rfl, h.ex e, hn, hs, ho, q⟩
def owedM (M : CirM) (_ : Nat) (s : SeatM) : Int := if s.st = .f then 0 else M.stake * ((M.seats.length : Int) + 1 - M.opn)
def owedOk (M : CirM) (_ : Nat) : Prop := 0 ≤ M.opn ∧ M.opn ≤ 100000
theorem st_eq {a b : SSt} : decide (V.str (stS a) = V.str (stS b)) = decide (a = b) := by
  cases a <;> cases b <;> first | rfl | decide +kernel
def expM (M : CirM) (i : Nat) (s : SeatM) : Int := match s.st with
  | .w => M.opn + M.rests + (M.line.idxOf i : Nat)
  | .d => s.since
  | .f => 0
def expOk (M : CirM) (i : Nat) : Prop := ∀ s, M.seats[i]? = some s → s.st = .w → i ∈ M.line
theorem nats_flat (l : List Nat) : ((natI l).map V.int).all flatV = true := by
  rw [List.all_eq_true]
  intro x hx
  obtain ⟨z, _, rfl⟩ := List.mem_map.mp hx
  rfl
theorem ev_index {te tb : TE} {l : Addr} {ns : List Nat} {i : Nat} (ha : Ev te σ H (.ref l)) (hl : SqL K H l ((natI ns).map V.int)) (hb : Ev tb σ H (.int (i : Int))) (hm : i ∈ ns) : Ev (tBM K "list" (rIndex K) te (tCons tb tNil)) σ H (.int (ns.idxOf i : Nat)) := fun H1 e Q q =>
  ha H1 e _ fun H2 e2 => ⟨.inl ⟨rfl, _, ex_l (e.trans e2) hl⟩, hb H2 (e.trans e2) _ fun H3 e3 => by
    have hlt := List.idxOf_lt_length_of_mem hm
    have hat : ((natI ns).map V.int)[ns.idxOf i]? = some (.int (i : Int)) := by
      rw [List.getElem?_map]
      unfold natI
      rw [List.getElem?_map, List.getElem?_eq_getElem hlt, List.getElem_idxOf]
      rfl
    refine ⟨l, _, _, ns.idxOf i, .int (i : Int), rfl, rfl, ex_l ((e.trans e2).trans e3) hl, rfl, nats_flat ns, hat, by show ((i : Int) == (i : Int)) = true; exact beq_iff_eq.mpr rfl, fun m z' hm' hz => ?_, q H3 (e2.trans e3)⟩
    obtain ⟨c, rfl, hc, _⟩ := nat_at hz
    show ((c : Int) == (i : Int)) = false
    refine beq_eq_false_iff_ne.mpr fun z => ?_
    have hci : c = i := by omega
    subst hci
    have := List.not_of_lt_findIdx (p := fun x => x == c) (xs := ns) (i := m) (by exact hm')
    have hml : m < ns.length := by omega
    rw [List.getElem?_eq_getElem hml] at hc
    rw [Option.some.inj hc] at this
    simp at this⟩
def flowM (M : CirM) (i : Nat) : List Int := M.flows.map fun r => r.getD i 0
def spFlow (C S : Addr) : Sp := fun vs H Q _ => ∃ d M, ∃ (i : Nat) (s : SeatM), vs = [.ref d.c, .int (i : Int)] ∧ CirAt C S H d M ∧ M.seats.length ≤ 1000 ∧ M.seats[i]? = some s ∧ (∀ r ∈ M.flows, r.length = M.seats.length) ∧ M.flows.length ≤ 1000 ∧ ∀ H' p, H p = none → Ex H H' → H' p = some (.lst ((flowM M i).map V.int)) → Q (.ref p) H'
theorem spL_flow {C S : Addr} {i : Nat} (h : CirAt C S H d M) (hn : M.seats.length ≤ 1000) (hx : M.seats[i]? = some s) (hf : ∀ r ∈ M.flows, r.length = M.seats.length) (hfl : M.flows.length ≤ 1000) : SpL (spFlow C S) [.ref d.c, .int (i : Int)] H ((flowM M i).map V.int) := fun H1 e Q q _ => ⟨d, M, i, s, rfl, h.ex e, hn, hx, hf, hfl, fun H2 p hp e2 h2 => q p H2 hp e2 h2⟩
theorem given_rng {n : Nat} (v : Nat → V) : given n (fun _ => true) v = (List.range n).map v := by
  unfold given
  rw [List.filter_eq_self.mpr fun _ _ => rfl]
end
end Su
namespace Su
/-! ### a circle is opened -/
def covM (st n pl : Int) : Int := if n - pl / st > 1 then n - pl / st else 1
def winsM (st : Int) (pl ws : List Int) : List (Int × Int) := (pl.zip ws).map fun x => (covM st (pl.length : Int) x.1, x.2)
structure OpenOk (st : Int) (pl ws : List Int) : Prop where
  s1 : 1 ≤ st
  s2 : st ≤ 1000000
  n1 : 2 ≤ pl.length
  n2 : pl.length ≤ 20
  lw : ws.length = pl.length
  hp : ∀ p ∈ pl, 0 ≤ p ∧ p ≤ 1000000000
  hw : ∀ x ∈ ws, 1 ≤ x ∧ x ≤ (pl.length : Int)
def seat0 (p : Int) : SeatM := ⟨.w, 0, p, 0, 0, 0, 0⟩
def cir0 (st : Int) (pl ws : List Int) (bd : Bool) (row : List Nat) : CirM := ⟨st, pl, ws, bd, pl.map seat0, row, 1, 0, 0, []⟩
theorem ints_get {ns : List Int} {i : Nat} {x : V} (h : (ns.map V.int)[i]? = some x) : ∃ n, x = .int n ∧ ns[i]? = some n := by
  rw [List.getElem?_map] at h
  cases hc : ns[i]? with
  | none => rw [hc] at h; cases h
  | some c => rw [hc] at h; exact ⟨c, (Option.some.inj h).symm, rfl⟩
section
variable {P : Program} {w : World} {K : PySem.W.Frag} {mg : Str → Option Value} {base : Heap}
theorem ev_allOf {tl te : TE} {j : Nat} {vs : List Nat} {σ : L2.St} {H : Hp} {a : Addr} {xs : List V} (h : Ev tl σ H (.ref a)) (hx : SqL K H a xs) (hz : xs.length ≤ 40000) (hw : ∀ x, wipe ((wipe σ vs).set j (some x)) vs = wipe σ vs)
    (he : ∀ (i : Nat) (x : V) Hb, Ex H Hb → xs[i]? = some x → Ev te ((wipe σ vs).set j (some x)) Hb (.bl true)) : Ev (tCB (rAll K) (tCons (tLc (iList K tl) (gName j) tYes te vs) tNil)) σ H (.bl true) := by
  refine ev_allT (n := xs.length) ?_
  rw [← given_all]
  exact el_lcL _ _ h hx hz hw (fun i x Hb eb gx => et_yes) (fun i x Hb eb gx _ => he i x Hb eb gx)
def spFC : Sp := fun vs H Q _ => ∃ st n pl : Int, vs = [.int st, .int n, .int pl] ∧ 1 ≤ st ∧ st ≤ 1000000 ∧ ∀ H', Ex H H' → Q (.int (covM st n pl)) H'
theorem spV_fc {st n pl : Int} {H : Hp} (h1 : 1 ≤ st) (h2 : st ≤ 1000000) : SpV spFC [.int st, .int n, .int pl] H (.int (covM st n pl)) := fun H1 e Q q _ => ⟨st, n, pl, rfl, h1, h2, q⟩
theorem ok_first_covered (T : Top K mg) {k : Nat} : FnOk P w K mg base CX0 (k + 1) T.f_first_covered T.fd_first_covered ["stake", "seats", "pledge"] spFC := by
  have nd := sc_first_covered.nd
  refine T.F_first_covered.ok sc_first_covered (fun vs H Q E h => ?_) (fun cdv A outer s H vs Q E hr h => ?_)
  · obtain ⟨st, n, pl, rfl, _⟩ := h
    rfl
  · obtain ⟨st, n, pl, rfl, h1, h2, q⟩ := h
    refine ⟨_, (pss_one (ps_ret (pe_callB (call_max2 rfl) (by rfl) T.m_max (by decide +kernel) (pa_cons pe_int (pa_cons (pe_op op_sub (pv 1) (pe_op op_fdiv (pv 2) (pv 0))) pa_nil))))), ?_⟩
    exact s_ret (ev_cb (ea_cons ev_c (ea_cons (ev_op (ev_var rfl) (ev_op (ev_var rfl) (ev_var rfl) (Su.rv_div (by omega) (by omega))) rv_I0) ea_nil)) rc_max) fun H1 e1 => q H1 e1
def spRefOpen (K : PySem.W.Frag) : Sp := fun vs H Q _ => ∃ (st : Int) (a b : Addr) (pl ws : List Int), vs = [.int st, .ref a, .ref b] ∧ SqL K H a (pl.map V.int) ∧ SqL K H b (ws.map V.int) ∧ OpenOk st pl ws ∧ ∀ H', Ex H H' → Q .non H'
theorem ok_refuse_opening (T : Top K mg) {k : Nat} : FnOk P w K mg base CX0 (k + 1) T.f_refuse_opening T.fd_refuse_opening ["stake", "pledges", "wishes"] (spRefOpen K) := by
  have nd := sc_refuse_opening.nd
  refine T.F_refuse_opening.ok sc_refuse_opening (fun vs H Q E h => ?_) (fun cdv A outer s H vs Q E hr h => ?_)
  · obtain ⟨st, a, b, pl, ws, rfl, _⟩ := h
    rfl
  · obtain ⟨st, a, b, pl, ws, rfl, ha, hb, ho, q⟩ := h
    refine ⟨_, (pss_cons (ps_set (i := 3) nd rfl (.inr rfl) (pe_callB call_len_seq (by rfl) T.m_len PySem.boot_len (pa_cons (pv 1) pa_nil)))
      (pss_cons (ps_if (pt_not (PW.pt (pw_and (pt_chain op_le op_le pe_int (pv 0) (pe_glob (v := .int 1000000) (by rfl) T.m_MOST_STAKE ⟨_, rfl⟩)) (pw_and (pt_chain op_le op_le (pe_glob (v := .int 2) (by rfl) T.m_LEAST_SEATS ⟨_, rfl⟩) (pv 3) (pe_glob (v := .int 20) (by rfl) T.m_MOST_SEATS ⟨_, rfl⟩)) (pw_and1 (pt_cmpR op_eq (pe_callB call_len_seq (by rfl) T.m_len PySem.boot_len (pa_cons (pv 2) pa_nil)) (pv 3) (nomark _)))))))
        (pss_one ps_never)
        pss_nil)
      (pss_cons (ps_if (pt_not (pt_val (pe_callB (cr_all rfl) (by rfl) T.m_all (by decide +kernel) (pa_cons (pe_lc (own := [("pledge", 4)]) (g := gName 4) (tt := tYes) rfl nd (pi_list (pv 1)) (blkOk_by (own := [("pledge", 4)]) (N := Su.N_refuse_opening) (sc := defScope s_refuse_opening) (by decide +kernel)) (fun _ _ _ _ _ => (pg_name (i := 4) nd rfl (.inl rfl))) (fun _ _ _ _ _ => pts_nil) (fun _ _ _ _ _ => (pe_chain op_le op_le pe_int (pv 4) (pe_glob (v := .int 1000000000) (by rfl) T.m_MOST_COINS ⟨_, rfl⟩)))) pa_nil))))
        (pss_one ps_never)
        pss_nil)
      (pss_one (ps_if (pt_not (pt_val (pe_callB (cr_all rfl) (by rfl) T.m_all (by decide +kernel) (pa_cons (pe_lc (own := [("wish", 5)]) (g := gName 5) (tt := tYes) rfl nd (pi_list (pv 2)) (blkOk_by (own := [("wish", 5)]) (N := Su.N_refuse_opening) (sc := defScope s_refuse_opening) (by decide +kernel)) (fun _ _ _ _ _ => (pg_name (i := 5) nd rfl (.inl rfl))) (fun _ _ _ _ _ => pts_nil) (fun _ _ _ _ _ => (pe_chain op_le op_le pe_int (pv 5) (pv 3)))) pa_nil))))
        (pss_one ps_never)
        pss_nil))))), ?_⟩
    obtain ⟨s1, s2, n1, n2, lw, hp, hw⟩ := ho
    refine q_asg (v := .int (pl.length : Int)) (ev_is (ev_len (ev_var rfl) ha) (by rw [List.length_map])) fun H1 e1 => ?_
    have hlw : ∀ {H'' : Hp} {σ : L2.St}, Ex H H'' → σ[2]? = some (some (.ref b)) → Ev (tCB (rLenS K) (tCons (tVar 2) tNil)) σ H'' (.int (pl.length : Int)) := fun e h => ev_is (ev_len (ev_var h) (ex_l e hb)) (by rw [List.length_map, lw])
    refine q_when (b := false) (et_not (a := true) (et_and (a := true) (b := true) (et_is (et_chain (f := fun i j => decide (i ≤ j)) (g := fun i j => decide (i ≤ j)) ev_c (ev_var rfl) ev_c) (by rw [decide_eq_true s1, decide_eq_true s2]; rfl)) fun _ => et_and (a := true) (b := true) (et_is (et_chain (f := fun i j => decide (i ≤ j)) (g := fun i j => decide (i ≤ j)) ev_c (ev_var rfl) ev_c) (by rw [decide_eq_true (by omega), decide_eq_true (by omega)]; rfl)) fun _ => et_is (et_test (ev_op (hlw e1 rfl) (ev_var rfl) (rv_eq rfl))) (by exact decide_eq_true rfl))) (fun h => by cases h) fun _ H2 e2 => ?_
    have e12 := e1.trans e2
    refine q_when (b := false) (et_not (a := true) (et_B (ev_allOf (ev_var rfl) (ex_l e12 ha) (by rw [List.length_map]; omega) (fun x => rfl) fun i x Hb eb gx => ?_))) (fun h => by cases h) fun _ H3 e3 => ?_
    · obtain ⟨p, rfl, gp⟩ := ints_get gx
      have := hp p (List.mem_of_getElem? gp)
      exact ev_is (chain_le' ev_c (ev_var rfl) ev_c) (by rw [decide_eq_true this.1, decide_eq_true this.2]; rfl)
    have e13 := e12.trans e3
    refine s_when (b := false) (et_not (a := true) (et_B (ev_allOf (ev_var rfl) (ex_l e13 hb) (by rw [List.length_map]; omega) (fun x => rfl) fun i x Hb eb gx => ?_))) (fun h => by cases h) fun _ H4 e4 => ?_
    · obtain ⟨p, rfl, gp⟩ := ints_get gx
      have := hw p (List.mem_of_getElem? gp)
      exact ev_is (chain_le' ev_c (ev_var rfl) (ev_var rfl)) (by rw [decide_eq_true this.1, decide_eq_true this.2]; rfl)
    exact q H4 (e13.trans e4)
theorem wins_at {st : Int} {pl ws : List Int} {i : Nat} {p x : Int} (h1 : pl[i]? = some p) (h2 : ws[i]? = some x) : (winsM st pl ws)[i]? = some (covM st (pl.length : Int) p, x) := by
  unfold winsM
  rw [List.getElem?_map, show (pl.zip ws)[i]? = some (p, x) from List.getElem?_zip_eq_some.mpr ⟨h1, h2⟩]
  rfl
theorem wins_len {st : Int} {pl ws : List Int} (h : ws.length = pl.length) : (winsM st pl ws).length = pl.length := by
  unfold winsM
  rw [List.length_map, List.length_zip, h, Nat.min_self]
def spQueue1 (T : List (Addr × Str)) : Sp := fun vs H Q _ => ∃ (st : Int) (a b : Addr) (pl ws : List Int) (row : List Nat), vs = [.int st, .ref a, .ref b] ∧ H a = some (.lst (pl.map V.int)) ∧ H b = some (.lst (ws.map V.int)) ∧ OpenOk st pl ws ∧ LamX.Tabs T H ∧ greedy (winsM st pl ws) pl.length = some row ∧
  ∀ H' p, Nw H p → LamX.ExtN H H' → LamX.Tabs T H' → H' p = some (.lst ((natI row).map V.int)) → Q (.ref p) H'
theorem ok_first_queue (T : Top K mg) (TB1 : LamX.TabB base mg T.c_told_order T.P_told_order) (TB2 : LamX.TabB base mg T.c_fullest_span T.P_fullest_span) : FnOk P w K mg base CX0 7 T.f_first_queue T.fd_first_queue ["stake", "pledges", "wishes"] (spQueue1 T.tabs) := by
  have nd := sc_first_queue.nd
  have G_first_covered : FnOk P w K mg base CX0 1 T.f_first_covered T.fd_first_covered ["stake", "seats", "pledge"] spFC := ok_first_covered T
  have G_order_or_bar : FnOk P w K mg base CX0 6 T.f_order_or_bar T.fd_order_or_bar ["windows"] (spPaper T.tabs) := ok_order_or_bar T TB1 TB2
  refine T.F_first_queue.ok sc_first_queue (fun vs H Q E h => ?_) (fun cdv A outer s H vs Q E hr h => ?_)
  · obtain ⟨st, a, b, pl, ws, row, rfl, _⟩ := h
    rfl
  · obtain ⟨st, a, b, pl, ws, row, rfl, ha, hb, ho, hT, hg, q⟩ := h
    refine ⟨_, (pss_cons (ps_setLc (i := 3) (own := [("pledge", 5), ("wish", 6)]) (g := gTup K 2 (gCons (gName 5) (gCons (gName 6) gNil))) (tt := tYes) rfl nd rfl rfl (sw_true rfl rfl rfl (by decide +kernel)) (RZ.pi_zipA (by rfl) T.m_zip (pa_cons (pv 1) (pa_cons (pv 2) pa_nil))) (blkOk_by (own := [("pledge", 5), ("wish", 6)]) (N := Su.N_first_queue) (sc := defScope s_first_queue) (by decide +kernel)) (fun _ _ _ _ _ => (pg_tup rfl (pgs_cons (pg_name (i := 5) nd rfl (.inl rfl)) (pgs_cons (pg_name (i := 6) nd rfl (.inl rfl)) pgs_nil)))) (fun _ _ _ _ _ => pts_nil) (fun _ _ _ _ _ => (pe_tup (pa_cons (pe_call G_first_covered (hr.mono (by omega)) (by rfl) T.m_first_covered T.F_first_covered.kp T.b_first_covered .nil pass0 (pa_cons (pv 0) (pa_cons (pe_callB (call_len_seqK (K := K) rfl) (by rfl) T.m_len PySem.boot_len (pa_cons (pv 1) pa_nil)) (pa_cons (pv 5) pa_nil)))) (pa_cons (pv 6) pa_nil)))))
      (pss_cons (ps_set (i := 4) nd rfl (.inl rfl) (pe_call G_order_or_bar (hr.mono (by omega)) (by rfl) T.m_order_or_bar T.F_order_or_bar.kp T.b_order_or_bar .nil pass0 (pa_cons (pv 3) pa_nil)))
      (pss_cons (ps_if (pt_cmpR op_eq (pe_ix ix_tup (pv 4) pe_int (fun _ _ => rfl)) pe_str (nomark _))
        (pss_one ps_never)
        pss_nil)
      (pss_one (ps_ret (pe_ix ix_tup (pv 4) pe_int (fun _ _ => rfl))))))), ?_⟩
    obtain ⟨s1, s2, n1, n2, lw, hp, hw⟩ := ho
    refine q_asgX (rz_lc (xs := pl.map V.int) (ys := ws.map V.int) (a := a) (b := b) (by walk_at "ea") (sq_of ha) (sq_of hb) (by rw [List.length_map, List.length_map, lw]) (fun D i H' => ∃ qs : List Win, H D = none ∧ Ex H H' ∧ H' D = some (.lst (refs qs)) ∧ TW H' qs ∧ qs.length = i ∧ i ≤ pl.length ∧ wsOf qs = (winsM st pl ws).take i) ?_ ?_ ?_ ?_)
    · intro D H1 e1 hD
      exact ⟨[], fresh_back e1 hD, Ex.mut e1 (fresh_back e1 hD), upd_same, TW.nil, rfl, Nat.zero_le _, rfl⟩
    · rintro D i H' ⟨qs, hD, ex, _⟩
      exact ⟨sq_of (ex _ _ ha), sq_of (ex _ _ hb)⟩
    · rintro D i x y T' H' gx gy ⟨qs, hD, ex, hD', htw, hql, hi, hws⟩ hT'
      obtain ⟨p, rfl, gp⟩ := ints_get gx
      obtain ⟨z, rfl, gz⟩ := ints_get gy
      refine tg_two (K := K) (st_of upd_same) tg_name tg_name _ (Ex.refl _) _ ⟨rfl, ?_⟩
      have e2 : Ex H' (upd H' T' (.tup [.int p, .int z])) := Ex.new hT'
      generalize upd H' T' (.tup [.int p, .int z]) = H2 at e2
      refine et_yes H2 (Ex.refl _) _ fun H3 e3 => ?_
      rw [if_pos rfl]
      have e23 := e2.trans e3
      have ex3 := ex.trans e23
      refine eu_tup (vs := [.int (covM st (pl.length : Int) p), .int z]) (ea_cons (ev_call (ea_cons (ev_var rfl) (ea_cons (ev_is (ev_len (ev_var rfl) (sq_of (ex3 _ _ ha))) (by rw [List.length_map])) (ea_cons (ev_var rfl) ea_nil))) (spV_fc s1 s2)) (ea_cons (ev_var rfl) ea_nil)) (by show 2 ≤ 100000; decide) H3 (Ex.refl _) _ fun t H4 ht e4 h4 => ?_
      have hD4 := (e23.trans e4) _ _ hD'
      have hil : i < pl.length := (List.getElem?_eq_some_iff.mp gp).1
      refine ⟨refs qs, hD4, sz_lt (by rw [refs_len]; omega), qs ++ [(t, covM st (pl.length : Int) p, z)], hD, Ex.mut (ex3.trans e4) hD, ?_, TW.add ((htw.ex (e23.trans e4)).upd hD4) ?_, by rw [List.length_append, hql]; rfl, by omega, ?_⟩
      · rw [upd_same]
        unfold refs
        rw [List.map_append]
        rfl
      · rw [upd_ne (ne_of h4 hD4 (fun z => nomatch z))]
        exact h4
      · have : wsOf (qs ++ [(t, covM st (pl.length : Int) p, z)]) = wsOf qs ++ [(covM st (pl.length : Int) p, z)] := by
          unfold wsOf
          rw [List.map_append]
          rfl
        rw [this, hws, List.take_add_one, wins_at gp gz]
        rfl
    · rintro D H1 ⟨qs, hD, ex, hD1, htw, hql, _, hws⟩
      rw [List.length_map] at hql hws
      rw [List.take_of_length_le (by rw [wins_len lw]; exact Nat.le_refl _)] at hws
      refine q_callQ (by walk_at "ea") fun H2 e2 => ?_
      refine ⟨D, qs, rfl, e2 _ _ hD1, htw.ex e2, by omega, hT.ext (ex.trans e2), fun H3 t p hp3 e3 T3 hP => ?_⟩
      have e03 := (exN_of (ex.trans e2)).trans e3
      rcases hP with ⟨row', g, ht, hpp⟩ | ⟨x, y, g, _⟩
      rotate_left
      · rw [ws_len, hws, hql, hg] at g
        cases g
      rw [ws_len, hws, hql, hg] at g
      cases g
      refine q_when (b := false) (et_is (et_test (ev_op (ev_op (ev_var rfl) ev_c (rv_ixT (st_of ht) rfl)) ev_c (rv_eq rfl))) (by decide +kernel)) (fun h => by cases h) fun _ H4 e4 => ?_
      refine s_ret (ev_op (ev_var rfl) ev_c (rv_ixT (st_of (e4 _ _ ht)) rfl)) fun H5 e5 => ?_
      have e35 := exN_of (e4.trans e5)
      refine q H5 p ?_ (e03.trans e35) (T3.ext (e4.trans e5)) ((e4.trans e5) _ _ hpp)
      exact Nw.back (exN_of (ex.trans e2)) hp3
/-- a seat -/
def spSeat0 (S : Addr) : Sp := fun vs H Q _ => ∃ (x dx : Addr) (p : Int), vs = [.ref x, .int p] ∧ H x = some (.ins S dx []) ∧ ∀ H', ExF [x] H H' → H' x = some (.ins S dx (sNs.zip (seatV (seat0 p)))) → Q .non H'
theorem zips {ns : List Str} {vs : List V} {f : Str} {v : V} (h : f ∉ ns := by decide +kernel) (hl : ns.length = vs.length := by rfl) : putF f v (ns.zip vs) = (ns ++ [f]).zip (vs ++ [v]) := zip_snoc h hl
theorem s_fldN {ta tv : TE} {f : Str} {σ : L2.St} {H : Hp} {a C dx : Addr} {fs : List (Str × V)} {v : V} {D : Ends} (hv : Ev tv σ H v) (h : Ev ta σ H (.ref a)) (ha : H a = some (.ins C dx fs)) (c : Cls K C) (n : NoAttr K C f) (hl : fs.length < 1000) (k : ∀ H1, ExF [a] H H1 → H1 a = some (.ins C dx (putF f v fs)) → D.nx σ H1) : sFld K ta tv f D σ H :=
  s_fld hv h ha c n hl fun H1 e => k _ ((ExF.ex e).upd (List.mem_singleton.mpr rfl)) upd_same
theorem q_fldN {ta tv : TE} {f : Str} {σ : L2.St} {H : Hp} {a C dx : Addr} {fs : List (Str × V)} {v : V} {D : Ends} {tz : TS} (hv : Ev tv σ H v) (h : Ev ta σ H (.ref a)) (ha : H a = some (.ins C dx fs)) (c : Cls K C) (n : NoAttr K C f) (hl : fs.length < 1000) (k : ∀ H1, ExF [a] H H1 → H1 a = some (.ins C dx (putF f v fs)) → tz D σ H1) : tSeq (sFld K ta tv f) tz D σ H := s_fldN (D := { D with nx := tz D }) hv h ha c n hl k
theorem s_fldLN {ta tv : TE} {f : Str} {σ : L2.St} {H : Hp} {a C dx : Addr} {fs : List (Str × V)} {xs : List V} {D : Ends} (hv : EvL tv σ H xs) (h : Ev ta σ H (.ref a)) (ha : H a = some (.ins C dx fs)) (c : Cls K C) (n : NoAttr K C f) (hl : fs.length < 1000) (k : ∀ p H1, H p = none → ExF [a] H H1 → H1 p = some (.lst xs) → H1 a = some (.ins C dx (putF f (.ref p) fs)) → p ≠ a → D.nx σ H1) : sFld K ta tv f D σ H :=
  s_fldL hv h ha c n hl fun p H1 hp e h1 => by
    have np : p ≠ a := fun z => by rw [z, ha] at hp; cases hp
    exact k p _ hp ((ExF.ex e).upd (List.mem_singleton.mpr rfl)) (by rw [upd_ne np]; exact h1) upd_same np
theorem q_fldLN {ta tv : TE} {f : Str} {σ : L2.St} {H : Hp} {a C dx : Addr} {fs : List (Str × V)} {xs : List V} {D : Ends} {tz : TS} (hv : EvL tv σ H xs) (h : Ev ta σ H (.ref a)) (ha : H a = some (.ins C dx fs)) (c : Cls K C) (n : NoAttr K C f) (hl : fs.length < 1000) (k : ∀ p H1, H p = none → ExF [a] H H1 → H1 p = some (.lst xs) → H1 a = some (.ins C dx (putF f (.ref p) fs)) → p ≠ a → tz D σ H1) : tSeq (sFld K ta tv f) tz D σ H := s_fldLN (D := { D with nx := tz D }) hv h ha c n hl k
theorem nx' {y x : Addr} (h : y ≠ x) : y ∉ [x] := fun z => h (List.mem_singleton.mp z)
theorem ok_Seat_init (T : Top K mg) {k : Nat} : FnOk P w K mg base CX0 (k + 1) T.f_Seat___init__ T.fd_Seat___init__ ["self", "pledge"] (spSeat0 T.f_Seat) := by
  have nd := sc_Seat___init__.nd
  refine T.F_Seat___init__.ok sc_Seat___init__ (fun vs H Q E h => ?_) (fun cdv A outer s H vs Q E hr h => ?_)
  · obtain ⟨x, dx, p, rfl, _⟩ := h
    rfl
  · obtain ⟨x, dx, p, rfl, hx, q⟩ := h
    refine ⟨_, (pss_cons (ps_fldK (K := K) rfl (pv 0) (pe_glob (v := .str "waits") (by rfl) T.m_WAITS ⟨_, rfl⟩) rfl)
      (pss_cons (ps_fldK (K := K) rfl (pv 0) pe_int rfl)
      (pss_cons (ps_fldK (K := K) rfl (pv 0) (pv 1) rfl)
      (pss_cons (ps_fldK (K := K) rfl (pv 0) pe_int rfl)
      (pss_cons (ps_fldK (K := K) rfl (pv 0) pe_int rfl)
      (pss_cons (ps_fldK (K := K) rfl (pv 0) pe_int rfl)
      (pss_one (ps_fldK (K := K) rfl (pv 0) pe_int rfl)))))))), ?_⟩
    refine q_fldN ev_c (ev_var rfl) hx T.cl_Seat T.na_Seat_state (by decide) fun H1 e1 h1 => ?_
    refine q_fldN ev_c (ev_var rfl) h1 T.cl_Seat T.na_Seat_since (by show 1 < 1000; decide) fun H2 e2 h2 => ?_
    rw [show putF ("state" : Str) (V.str "waits") [] = ([("state" : Str)] : List Str).zip [V.str "waits"] from rfl, zips] at h2
    refine q_fldN (ev_var rfl) (ev_var rfl) h2 T.cl_Seat T.na_Seat_pledge (by show 2 < 1000; decide) fun H3 e3 h3 => ?_
    rw [zips] at h3
    refine q_fldN ev_c (ev_var rfl) h3 T.cl_Seat T.na_Seat_given (by show 3 < 1000; decide) fun H4 e4 h4 => ?_
    rw [zips] at h4
    refine q_fldN ev_c (ev_var rfl) h4 T.cl_Seat T.na_Seat_drawn (by show 4 < 1000; decide) fun H5 e5 h5 => ?_
    rw [zips] at h5
    refine q_fldN ev_c (ev_var rfl) h5 T.cl_Seat T.na_Seat_shared (by show 5 < 1000; decide) fun H6 e6 h6 => ?_
    rw [zips] at h6
    refine s_fldN ev_c (ev_var rfl) h6 T.cl_Seat T.na_Seat_pledge_stakes (by show 6 < 1000; decide) fun H7 e7 h7 => ?_
    rw [zips] at h7
    exact q H7 ((((((e1.trans e2).trans e3).trans e4).trans e5).trans e6).trans e7) h7
/-- the whole opening -/
def spCir0 (C S : Addr) (T : List (Addr × Str)) : Sp := fun vs H Q _ => ∃ (x dx : Addr) (st : Int) (a b : Addr) (pl ws : List Int) (bd : Bool) (row : List Nat), vs = [.ref x, .int st, .ref a, .ref b, .bl bd] ∧ H x = some (.ins C dx []) ∧ H a = some (.lst (pl.map V.int)) ∧ H b = some (.lst (ws.map V.int)) ∧ OpenOk st pl ws ∧ LamX.Tabs T H ∧ greedy (winsM st pl ws) pl.length = some row ∧
  ∀ H' d, d.c = x → d.dx = dx → (∀ p ∈ d.all, p ≠ x → Nw H p) → Fr [x] H H' → LamX.Tabs T H' → CirAt C S H' d (cir0 st pl ws bd row) → Q .non H'
set_option maxHeartbeats 4000000 in
theorem ok_Circle_init (T : Top K mg) (TB1 : LamX.TabB base mg T.c_told_order T.P_told_order) (TB2 : LamX.TabB base mg T.c_fullest_span T.P_fullest_span) : FnOk P w K mg base CX0 8 T.f_Circle___init__ T.fd_Circle___init__ ["self", "stake", "pledges", "wishes", "bidding"] (spCir0 T.f_Circle T.f_Seat T.tabs) := by
  have nd := sc_Circle___init__.nd
  have G_refuse_opening : FnOk P w K mg base CX0 1 T.f_refuse_opening T.fd_refuse_opening ["stake", "pledges", "wishes"] (spRefOpen K) := ok_refuse_opening T
  have G_first_queue : FnOk P w K mg base CX0 7 T.f_first_queue T.fd_first_queue ["stake", "pledges", "wishes"] (spQueue1 T.tabs) := ok_first_queue T TB1 TB2
  have G_Seat___init__ : FnOk P w K mg base CX0 1 T.f_Seat___init__ T.fd_Seat___init__ ["self", "pledge"] (spSeat0 T.f_Seat) := ok_Seat_init T
  refine T.F_Circle___init__.ok sc_Circle___init__ (fun vs H Q E h => ?_) (fun cdv A outer s H vs Q E hr h => ?_)
  · obtain ⟨x, dx, st, a, b, pl, ws, bd, row, rfl, _⟩ := h
    rfl
  · obtain ⟨x, dx, st, a, b, pl, ws, bd, row, rfl, hx, ha, hb, ho, hT, hg, q⟩ := h
    refine ⟨_, (pss_cons (ps_expr (pe_call G_refuse_opening (hr.mono (by omega)) (by rfl) T.m_refuse_opening T.F_refuse_opening.kp T.b_refuse_opening .nil pass0 (pa_cons (pv 1) (pa_cons (pv 2) (pa_cons (pv 3) pa_nil)))))
      (pss_cons (ps_fldK (K := K) rfl (pv 0) (pe_call G_first_queue (hr.mono (by omega)) (by rfl) T.m_first_queue T.F_first_queue.kp T.b_first_queue .nil pass0 (pa_cons (pv 1) (pa_cons (pv 2) (pa_cons (pv 3) pa_nil)))) rfl)
      (pss_cons (ps_fldK (K := K) rfl (pv 0) (pv 1) rfl)
      (pss_cons (ps_fldK (K := K) rfl (pv 0) (pe_callTy call_list_of (by rfl) T.m_list (by decide +kernel) (pa_cons (pv 2) pa_nil)) rfl)
      (pss_cons (ps_fldK (K := K) rfl (pv 0) (pe_callTy call_list_of (by rfl) T.m_list (by decide +kernel) (pa_cons (pv 3) pa_nil)) rfl)
      (pss_cons (ps_fldK (K := K) rfl (pv 0) (pv 4) rfl)
      (pss_cons (ps_fldK (K := K) rfl (pv 0) (pe_lc (own := [("pledge", 5)]) (g := gName 5) (tt := tYes) rfl nd (pi_list (pv 2)) (blkOk_by (own := [("pledge", 5)]) (N := Su.N_Circle___init__) (sc := defScope s_Circle___init__) (by decide +kernel)) (fun _ _ _ _ _ => (pg_name (i := 5) nd rfl (.inl rfl))) (fun _ _ _ _ _ => pts_nil) (fun _ _ _ _ _ => (pe_make T.mk_Seat G_Seat___init__ (hr.mono (by omega)) (by rfl) T.m_Seat T.b_Seat___init__ .nil pass0 (pa_cons (pv 5) pa_nil)))) rfl)
      (pss_cons (ps_fldK (K := K) rfl (pv 0) pe_int rfl)
      (pss_cons (ps_fldK (K := K) rfl (pv 0) pe_int rfl)
      (pss_cons (ps_fldK (K := K) rfl (pv 0) pe_int rfl)
      (pss_one (ps_fldK (K := K) rfl (pv 0) (pe_lst pa_nil) rfl)))))))))))), ?_⟩
    refine q_drop (v := .non) (ev_call (by walk_at "ea") (fun H1 e Q q _ => ⟨st, a, b, pl, ws, rfl, sq_of (e _ _ ha), sq_of (e _ _ hb), ho, q⟩)) fun H1 e1 => ?_
    -- the queue
    refine q_fldX ((show EvA _ _ H1 [.int st, .ref a, .ref b] from by walk_at "ea") H1 (Ex.refl _) _ fun H2 e2 => ?_)
    have e12 := e1.trans e2
    refine ⟨st, a, b, pl, ws, row, rfl, e12 _ _ ha, e12 _ _ hb, ho, hT.ext e12, hg, fun H3 p hp e3 T3 h3 => ?_⟩
    have e13 := (exN_of e12).trans e3
    have hp0 : Nw H p := Nw.back (exN_of e12) hp
    have hx3 : H3 x = some (.ins T.f_Circle dx []) := e13 _ _ hx (fun _ z => nomatch z)
    have ha3 := exN_l e13 ha
    have hb3 := exN_l e13 hb
    have nax : a ≠ x := fun z => by rw [z, hx] at ha; cases ha
    have nbx : b ≠ x := fun z => by rw [z, hx] at hb; cases hb
    have npx : p ≠ x := fun z => by rw [z, hx3] at h3; cases h3
    refine fld_end rfl hx3 T.cl_Circle T.na_Circle_line (by decide) ?_
    have f4 : ExF [x] H3 (upd H3 x (.ins T.f_Circle dx (putF ("line" : Str) (.ref p) []))) := (ExF.refl [x] H3).upd (List.mem_singleton.mpr rfl)
    have h4 : (upd H3 x (.ins T.f_Circle dx (putF ("line" : Str) (.ref p) []))) x = some (.ins T.f_Circle dx (([("line" : Str)] : List Str).zip [V.ref p])) := upd_same
    generalize upd H3 x (.ins T.f_Circle dx (putF ("line" : Str) (.ref p) [])) = H4 at f4 h4
    have nx : ∀ {y : Addr}, y ≠ x → y ∉ [x] := fun h z => h (List.mem_singleton.mp z)
    refine q_fldN (ev_var rfl) (ev_var rfl) h4 T.cl_Circle T.na_Circle_stake (by show 1 < 1000; decide) fun H5 f5 h5 => ?_
    rw [zips] at h5
    have f35 := f4.trans f5
    -- the lists
    refine q_fldLN (el_list (ev_var rfl) (sq_of (f35.l ha3 (nx nax)))) (ev_var rfl) h5 T.cl_Circle T.na_Circle_first_pledges (by show 2 < 1000; decide) fun p1 H6 hp1 f6 h6p h6 np1 => ?_
    rw [zips] at h6
    have f36 := f35.trans f6
    refine q_fldLN (el_list (ev_var rfl) (sq_of (f36.l hb3 (nx nbx)))) (ev_var rfl) h6 T.cl_Circle T.na_Circle_wishes (by show 3 < 1000; decide) fun p2 H7 hp2 f7 h7p h7 np2 => ?_
    rw [zips] at h7
    have f37 := f36.trans f7
    refine q_fldN (ev_var rfl) (ev_var rfl) h7 T.cl_Circle T.na_Circle_bidding (by show 4 < 1000; decide) fun H8 f8 h8 => ?_
    rw [zips] at h8
    have f38 := f37.trans f8
    have hp1' := f8.l (f7.l h6p (nx np1)) (nx np1)
    have hp2' := f8.l h7p (nx np2)
    -- the seats
    refine q_fldX (rl_lc (xs := pl.map V.int) (ev_var rfl) (sq_of (f38.l ha3 (nx nax))) (fun D i H' => ∃ sa : List (Addr × Addr), H8 D = none ∧ Ex H8 H' ∧ H' D = some (.lst (srefs sa)) ∧ sa.length = i ∧ (sa.map (·.1)).Nodup ∧ (∀ y ∈ sa, H8 y.1 = none) ∧ ∀ (j : Nat) (y : Addr × Addr) (pj : Int), sa[j]? = some y → pl[j]? = some pj → H' y.1 = some (.ins T.f_Seat y.2 (sNs.zip (seatV (seat0 pj))))) ?_ ?_ ?_ ?_)
    · intro D H9 e9 hD
      exact ⟨[], fresh_back e9 hD, Ex.mut e9 (fresh_back e9 hD), upd_same, rfl, List.nodup_nil, fun y hy => absurd hy List.not_mem_nil, fun j y pj h => by simp at h⟩
    · rintro D i H' ⟨sa, hD, ex, _⟩
      exact sq_of (ex _ _ (f38.l ha3 (nx nax)))
    · rintro D i y H' gx ⟨sa, hD, ex, hD', hl, hnd, hnew, hsa⟩
      obtain ⟨pj, rfl, gp⟩ := ints_get gx
      refine tg_name H' (Ex.refl _) _ ⟨rfl, et_yes _ (Ex.refl _) _ fun H9 e9 => ?_⟩
      rw [if_pos rfl]
      refine te_make (ea_cons (ev_var rfl) ea_nil) fun z dz H10 e10 hz hdz hne => ?_
      have ez : Ex H10 (upd (upd H10 dz (.own z)) z (.ins T.f_Seat dz [])) := (Ex.new hdz).trans (Ex.new (by rw [upd_ne hne.symm]; exact hz))
      refine ⟨z, dz, pj, rfl, upd_same, fun H11 f11 h11 => ⟨rfl, ?_⟩⟩
      have e911 := e9.trans e10
      have hz' : H' z = none := fresh_back e911 hz
      have hz8 : H8 z = none := fresh_back ex hz'
      have keep : ∀ (c : Addr) (o : HO), H' c = some o → H11 c = some o := fun c o hc => f11 c o (ez c o (e911 c o hc)) (nx' (fun w => by rw [w, hz'] at hc; cases hc))
      have hD11 := keep _ _ hD'
      have hil : i < pl.length := (List.getElem?_eq_some_iff.mp gp).1
      refine ⟨srefs sa, hD11, sz_lt (by rw [srefs_len, hl]; have := ho.n2; omega), sa ++ [(z, dz)], hD, fun c o hc => ?_, ?_, by rw [List.length_append, hl]; rfl, ?_, fun y hy => ?_, fun j y pj' gy gpj => ?_⟩
      · rw [upd_ne fun w => by rw [w, hD] at hc; cases hc]
        exact keep c o (ex c o hc)
      · rw [upd_same]
        unfold srefs
        rw [List.map_append]
        rfl
      · rw [List.map_append, List.nodup_append]
        refine ⟨hnd, by simp, fun c hc e he w => ?_⟩
        obtain ⟨y, hy, rfl⟩ := List.mem_map.mp hc
        rw [List.mem_singleton.mp (show e ∈ [z] from he)] at w
        obtain ⟨j, gj⟩ := List.getElem?_of_mem hy
        have hj : j < pl.length := by rw [← show sa.length = i from hl] at hil; have := (List.getElem?_eq_some_iff.mp gj).1; omega
        have := hsa j y _ gj (List.getElem?_eq_getElem hj)
        rw [w, hz'] at this
        cases this
      · rcases List.mem_append.mp hy with hy | hy
        · exact hnew y hy
        · rw [List.mem_singleton.mp hy]
          exact hz8
      · rw [upd_ne (fun w => ?_)]
        · by_cases hj : j < sa.length
          · rw [List.getElem?_append_left hj] at gy
            exact keep _ _ (hsa j y pj' gy gpj)
          · have hj2 := (List.getElem?_eq_some_iff.mp gy).1
            rw [List.length_append, List.length_singleton] at hj2
            obtain rfl : j = sa.length := by omega
            rw [List.getElem?_append_right (Nat.le_refl _), Nat.sub_self] at gy
            obtain rfl : (z, dz) = y := Option.some.inj gy
            rw [hl, gp] at gpj
            rw [← Option.some.inj gpj]
            exact h11
        · by_cases hj : j < sa.length
          · rw [List.getElem?_append_left hj] at gy
            have := keep _ _ (hsa j y pj' gy gpj)
            rw [w, hD11] at this
            cases this
          · have hj2 := (List.getElem?_eq_some_iff.mp gy).1
            rw [List.length_append, List.length_singleton] at hj2
            obtain rfl : j = sa.length := by omega
            rw [List.getElem?_append_right (Nat.le_refl _), Nat.sub_self] at gy
            obtain rfl : (z, dz) = y := Option.some.inj gy
            have w : z = D := w
            rw [w, hD'] at hz'
            cases hz'
    · rintro D H9 ⟨sa, hD, ex, hD9, hl, hnd, hnew, hsa⟩
      rw [List.length_map] at hl
      have hx9 := ex _ _ h8
      refine fld_end rfl hx9 T.cl_Circle T.na_Circle_seats (by show 5 < 1000; decide) ?_
      rw [zips]
      have f10 : ExF [x] H9 (upd H9 x (.ins T.f_Circle dx ((([("line" : Str), "stake", "first_pledges", "wishes", "bidding"] : List Str) ++ [("seats" : Str)]).zip ([V.ref p, .int st, .ref p1, .ref p2, .bl bd] ++ [.ref D])))) := (ExF.refl [x] H9).upd (List.mem_singleton.mpr rfl)
      have h10 : (upd H9 x (.ins T.f_Circle dx ((([("line" : Str), "stake", "first_pledges", "wishes", "bidding"] : List Str) ++ [("seats" : Str)]).zip ([V.ref p, .int st, .ref p1, .ref p2, .bl bd] ++ [.ref D])))) x = some (.ins T.f_Circle dx (([("line" : Str), "stake", "first_pledges", "wishes", "bidding", "seats"] : List Str).zip [V.ref p, .int st, .ref p1, .ref p2, .bl bd, .ref D])) := upd_same
      show tSeq _ _ _ _ (upd H9 x (.ins T.f_Circle dx ((([("line" : Str), "stake", "first_pledges", "wishes", "bidding"] : List Str) ++ [("seats" : Str)]).zip ([V.ref p, .int st, .ref p1, .ref p2, .bl bd] ++ [.ref D]))))
      generalize upd H9 x (.ins T.f_Circle dx ((([("line" : Str), "stake", "first_pledges", "wishes", "bidding"] : List Str) ++ [("seats" : Str)]).zip ([V.ref p, .int st, .ref p1, .ref p2, .bl bd] ++ [.ref D]))) = H10 at f10 h10 ⊢
      have f310 := (f38.trans (ExF.ex ex)).trans f10
      refine q_fldN ev_c (ev_var rfl) h10 T.cl_Circle T.na_Circle_open_round (by show 6 < 1000; decide) fun H11 f11 h11 => ?_
      rw [zips] at h11
      refine q_fldN ev_c (ev_var rfl) h11 T.cl_Circle T.na_Circle_rests_due (by show 7 < 1000; decide) fun H12 f12 h12 => ?_
      rw [zips] at h12
      refine q_fldN ev_c (ev_var rfl) h12 T.cl_Circle T.na_Circle_chest (by show 8 < 1000; decide) fun H13 f13 h13 => ?_
      rw [zips] at h13
      have f313 := ((f310.trans f11).trans f12).trans f13
      have f913 := ((f10.trans f11).trans f12).trans f13
      refine s_fldLN (el_lst ea_nil (by decide)) (ev_var rfl) h13 T.cl_Circle T.na_Circle_flows (by show 9 < 1000; decide) fun pf H14 hpf f14 h14p h14 npf => ?_
      rw [zips] at h14
      have f314 := f313.trans f14
      have f914 := f913.trans f14
      have l9 : ∀ {c : Addr} {zs : List V}, H9 c = some (.lst zs) → c ≠ x → H14 c = some (.lst zs) := fun hc hcx => f914.l hc (nx hcx)
      have hDx : D ≠ x := fun w => by rw [w, h8] at hD; cases hD
      have npl := ex _ _ (f38.l h3 (nx npx))
      have hp19 := ex _ _ hp1'
      have hp29 := ex _ _ hp2'
      have back : ∀ {c : Addr}, (∀ o, H3 c = some o → c = x) → H3 c = none ∨ c = x := fun {c} hc => by
        cases hh : H3 c with
        | none => exact .inl rfl
        | some o => exact .inr (hc o hh)
      have new3 : ∀ {c : Addr} {Hm : Hp}, ExF [x] H3 Hm → Hm c = none → c ≠ x → Nw H c := fun {c Hm} f hn hcx => Nw.back e13 (Nw.of (by
        cases hh : H3 c with
        | none => rfl
        | some o => rw [f c o hh (nx hcx)] at hn; cases hn))
      have hpf9 : H9 pf = none := by
        cases hh : H9 pf with
        | none => rfl
        | some o => rw [f913 pf o hh (nx npf)] at hpf; cases hpf
      refine q H14 ⟨x, dx, p, p1, p2, D, pf, sa, []⟩ rfl rfl (fun c hc hcx => ?_) ?_ ?_ ?_
      · have hc : c ∈ x :: p :: p1 :: p2 :: D :: pf :: (sa.map (·.1) ++ []) := hc
        rw [List.append_nil] at hc
        rcases List.mem_cons.mp hc with rfl | hc
        · exact absurd rfl hcx
        rcases List.mem_cons.mp hc with rfl | hc
        · exact hp0
        rcases List.mem_cons.mp hc with rfl | hc
        · exact new3 f35 hp1 hcx
        rcases List.mem_cons.mp hc with rfl | hc
        · exact new3 f36 hp2 hcx
        rcases List.mem_cons.mp hc with rfl | hc
        · exact new3 f38 hD hcx
        rcases List.mem_cons.mp hc with rfl | hc
        · exact new3 f313 hpf hcx
        obtain ⟨y, hy, rfl⟩ := List.mem_map.mp hc
        exact new3 f38 (hnew y hy) hcx
      · exact (Fr.exN e13).trans f314.fr
      · exact tabs_exF T3 f314 fun c hc => .inr (.inr (by rw [List.mem_singleton.mp hc]; exact ⟨_, _, _, hx3⟩))
      · refine ⟨h14, l9 npl npx, l9 hp19 np1, l9 hp29 np2, l9 hD9 hDx, by rw [hl]; exact (List.length_map _).symm, fun i y s gy gs => ?_, h14p, rfl, fun i c r hc => by simp at hc, hnd, ?_, ?_⟩
        · have gs : (pl.map seat0)[i]? = some s := gs
          rw [List.getElem?_map] at gs
          cases hc : pl[i]? with
          | none => rw [hc] at gs; cases gs
          | some pi =>
            rw [hc] at gs
            rw [← Option.some.inj gs]
            refine f914 _ _ (hsa i y pi gy hc) (nx fun w => ?_)
            have := hnew y (List.mem_of_getElem? gy)
            rw [w, h8] at this
            cases this
        · have n1 : p ≠ p1 := fun w => by rw [← w, f35.l h3 (nx npx)] at hp1; cases hp1
          have n2 : p ≠ p2 := fun w => by rw [← w, f36.l h3 (nx npx)] at hp2; cases hp2
          have n3 : p ≠ D := fun w => by rw [← w, f38.l h3 (nx npx)] at hD; cases hD
          have n4 : p ≠ pf := fun w => by rw [← w, npl] at hpf9; cases hpf9
          simp [n1, n2, n3, n4]
        · have n1 : pf ≠ p1 := fun w => by rw [w, hp19] at hpf9; cases hpf9
          have n2 : pf ≠ p2 := fun w => by rw [w, hp29] at hpf9; cases hpf9
          have n3 : pf ≠ D := fun w => by rw [w, hD9] at hpf9; cases hpf9
          simp [n1, n2, n3]
end

end Su
namespace Su
/-! ### the drawn opening -/
structure Drawn (n : Nat) (st : Int) (pl ws : List Int) (r : List Nat) (i : Nat) (B : Int := 100000000) : Prop where
  l1 : pl.length = n
  l2 : ws.length = n
  hp : ∀ p ∈ pl, 0 ≤ p ∧ p ≤ B
  hw : ∀ x ∈ ws, 1 ≤ x ∧ x ≤ (n : Int)
  at1 : ∀ (j k : Nat), j < i → r[j]? = some k → st * ((n : Int) - 1 - (j : Int)) ≤ pl.getD k 0
  at2 : ∀ (j k : Nat), j < i → r[j]? = some k → (j : Int) + 1 ≤ ws.getD k 0
theorem getD_set {l : List Int} {i j : Nat} {v : Int} (h : i < l.length) : (l.set i v).getD j 0 = if i = j then v else l.getD j 0 := by
  rw [List.getD_eq_getElem?_getD, List.getElem?_set]
  by_cases e : i = j
  · rw [if_pos e, if_pos e, if_pos h]
    rfl
  · rw [if_neg e, if_neg e, List.getD_eq_getElem?_getD]
theorem Drawn.step {n : Nat} {st : Int} {pl ws : List Int} {r : List Nat} {i k : Nat} {p x : Int} (h : Drawn n st pl ws r i) (hr : r.Nodup) (hk : r[i]? = some k) (hkn : k < n) (p1 : st * ((n : Int) - 1 - (i : Int)) ≤ p) (p0 : 0 ≤ p) (p2 : p ≤ 100000000) (x1 : (i : Int) + 1 ≤ x) (x2 : x ≤ (n : Int)) : Drawn n st (pl.set k p) (ws.set k x) r (i + 1) where
  l1 := by rw [List.length_set]; exact h.l1
  l2 := by rw [List.length_set]; exact h.l2
  hp := fun q hq => by
    rcases List.mem_or_eq_of_mem_set hq with hq | rfl
    · exact h.hp q hq
    · exact ⟨p0, p2⟩
  hw := fun q hq => by
    rcases List.mem_or_eq_of_mem_set hq with hq | rfl
    · exact h.hw q hq
    · exact ⟨by omega, x2⟩
  at1 := fun j m hj hm => by
    rw [getD_set (by rw [h.l1]; exact hkn)]
    by_cases e : k = m
    · rw [if_pos e]
      subst e
      obtain rfl : j = i := (List.getElem?_inj (List.getElem?_eq_some_iff.mp hm).1 hr).mp (hm.trans hk.symm)
      exact p1
    · rw [if_neg e]
      refine h.at1 j m ?_ hm
      have : j ≠ i := fun z => e (by rw [z, hk] at hm; exact Option.some.inj hm)
      omega
  at2 := fun j m hj hm => by
    rw [getD_set (by rw [h.l2]; exact hkn)]
    by_cases e : k = m
    · rw [if_pos e]
      subst e
      obtain rfl : j = i := (List.getElem?_inj (List.getElem?_eq_some_iff.mp hm).1 hr).mp (hm.trans hk.symm)
      exact x1
    · rw [if_neg e]
      refine h.at2 j m ?_ hm
      have : j ≠ i := fun z => e (by rw [z, hk] at hm; exact Option.some.inj hm)
      omega
theorem Drawn.start {n : Nat} {st : Int} {r : List Nat} (h : 1 ≤ n) : Drawn n st (List.replicate n 0) (List.replicate n (n : Int)) r 0 where
  l1 := List.length_replicate
  l2 := List.length_replicate
  hp := fun p hp => by rw [List.eq_of_mem_replicate hp]; omega
  hw := fun x hx => by rw [List.eq_of_mem_replicate hx]; omega
  at1 := fun j k hj _ => absurd hj (Nat.not_lt_zero j)
  at2 := fun j k hj _ => absurd hj (Nat.not_lt_zero j)
theorem Drawn.open {n : Nat} {st : Int} {pl ws : List Int} {r : List Nat} {B : Int} (h : Drawn n st pl ws r n B) (hr : r.Perm (List.range n)) (n1 : 2 ≤ n) (n2 : n ≤ 20) (s1 : 1 ≤ st) (s2 : st ≤ 1000000) (hB : B ≤ 1000000000 := by decide) : OpenOk st pl ws ∧ ∃ row, greedy (winsM st pl ws) pl.length = some row ∧ IsOrd (winsM st pl ws) row := by
  have hO : OpenOk st pl ws := ⟨s1, s2, by rw [h.l1]; exact n1, by rw [h.l1]; exact n2, by rw [h.l1, h.l2], fun p hp => ⟨(h.hp p hp).1, by have := (h.hp p hp).2; omega⟩, fun x hx => by rw [h.l1]; exact h.hw x hx⟩
  refine ⟨hO, ?_⟩
  have hl : (winsM st pl ws).length = n := by rw [wins_len hO.lw, h.l1]
  have at_ : ∀ k, k < n → ∃ p x, (winsM st pl ws)[k]? = some (covM st (n : Int) p, x) ∧ pl.getD k 0 = p ∧ ws.getD k 0 = x ∧ 0 ≤ p ∧ 1 ≤ x ∧ x ≤ (n : Int) := fun k hk => by
    have g1 : pl[k]? = some (pl.getD k 0) := by rw [List.getD_eq_getElem?_getD, List.getElem?_eq_getElem (by rw [h.l1]; exact hk)]; rfl
    have g2 : ws[k]? = some (ws.getD k 0) := by rw [List.getD_eq_getElem?_getD, List.getElem?_eq_getElem (by rw [h.l2]; exact hk)]; rfl
    have := wins_at (st := st) g1 g2
    rw [h.l1] at this
    have hx := h.hw _ (List.mem_of_getElem? g2)
    exact ⟨_, _, this, rfl, rfl, (h.hp _ (List.mem_of_getElem? g1)).1, hx.1, hx.2⟩
  have hcov : ∀ p : Int, 0 ≤ p → 1 ≤ covM st (n : Int) p ∧ covM st (n : Int) p ≤ (n : Int) := fun p hp => by
    have : 0 ≤ p / st := Int.ediv_nonneg hp (by omega)
    unfold covM
    split <;> omega
  have first_ : ∀ {k : Nat} {c x : Int}, (winsM st pl ws)[k]? = some (c, x) → firstI (winsM st pl ws) k = c ∧ lastI (winsM st pl ws) k = x := fun e => by
    unfold firstI lastI
    rw [e]
    exact ⟨rfl, rfl⟩
  have hB : Bnd (winsM st pl ws) := fun k hk => by
    rw [hl] at hk ⊢
    obtain ⟨p, x, g, _, _, p0, x1, x2⟩ := at_ k hk
    obtain ⟨f1, f2⟩ := first_ g
    rw [f1, f2]
    exact ⟨hcov p p0, x1, x2⟩
  have hI : IsOrd (winsM st pl ws) r := by
    refine ⟨by rw [hl]; exact hr, fun i k hk => ?_⟩
    have hkn : k < n := List.mem_range.mp (hr.mem_iff.mp (List.mem_of_getElem? hk))
    have hin : i < n := by rw [← show r.length = n by rw [hr.length_eq, List.length_range]]; exact (List.getElem?_eq_some_iff.mp hk).1
    obtain ⟨p, x, g, gp, gx, p0, x1, x2⟩ := at_ k hkn
    obtain ⟨f1, f2⟩ := first_ g
    rw [f1, f2]
    have a1 := h.at1 i k hin hk
    have a2 := h.at2 i k hin hk
    rw [gp] at a1
    rw [gx] at a2
    refine ⟨?_, a2⟩
    have : (n : Int) - 1 - (i : Int) ≤ p / st := (Int.le_ediv_iff_mul_le (by omega)).mpr (by rw [Int.mul_comm]; exact a1)
    unfold covM
    split <;> omega
  obtain ⟨row, g, gi⟩ := ord_greedy hB hI
  rw [hl] at g
  rw [h.l1]
  exact ⟨row, g, gi⟩
section
variable {P : Program} {w : World} {K : PySem.W.Frag} {mg : Str → Option Value} {base : Heap}
def spOpening (K : PySem.W.Frag) : Sp := fun vs H Q _ => ∃ (a : Addr) (rows : List Int) (n : Nat) (st : Int), vs = [.ref a, .int (n : Int), .int st] ∧ SqL K H a (rows.map V.int) ∧ 3 * n ≤ rows.length ∧ 1 ≤ n ∧ n ≤ 20 ∧ 1 ≤ st ∧ st ≤ 1000000 ∧
  ∀ pl ws r H' t p1 p2, H p1 = none → H p2 = none → p1 ≠ p2 → Ex H H' → H' t = some (.tup [.ref p1, .ref p2]) → H' p1 = some (.lst (pl.map V.int)) → H' p2 = some (.lst (ws.map V.int)) → Drawn n st pl ws r n → r.Perm (List.range n) → Q (.ref t) H'
theorem map_repl {n : Nat} {v : Int} : (List.replicate n v).map V.int = List.replicate n (V.int v) := List.map_replicate
set_option maxHeartbeats 4000000 in
theorem ok__law_opening (T : Top K mg) : FnOk P w K mg base CX0 2 T.f__law_opening T.fd__law_opening ["_law_some", "_law_size", "_law_stake"] (spOpening K) := by
  have nd := sc__law_opening.nd
  have G__law_perm : FnOk P w K mg base CX0 1 T.f__law_perm T.fd__law_perm ["_law_some", "_law_size"] (spPerm K) := ok__law_perm T.F__law_perm T
  refine T.F__law_opening.ok sc__law_opening (fun vs H Q E h => ?_) (fun cdv A outer s H vs Q E hr h => ?_)
  · obtain ⟨a, rows, n, st, rfl, _⟩ := h
    rfl
  · obtain ⟨a, rows, n, st, rfl, hS, hl, n1, hn, s1, s2, q⟩ := h
    refine ⟨_, (pss_cons (ps_set (i := 3) nd rfl (.inl rfl) (pe_op op_rep (pe_lst (pa_cons pe_int pa_nil)) (pv 1)))
      (pss_cons (ps_set (i := 4) nd rfl (.inl rfl) (pe_op op_rep (pe_lst (pa_cons (pv 1) pa_nil)) (pv 1)))
      (pss_cons (ps_for PassesOwn.never rfl (pi_enum (by rfl) T.m_enumerate (pa_cons (pe_call G__law_perm (hr.mono (by omega)) (by rfl) T.m__law_perm T.F__law_perm.kp T.b__law_perm .nil pass0 (pa_cons (pv 0) (pa_cons (pv 1) pa_nil))) pa_nil)) (pg_tup rfl (pgs_cons (pg_name (i := 5) nd rfl (.inl rfl)) (pgs_cons (pg_name (i := 6) nd rfl (.inl rfl)) pgs_nil)))
        (pss_cons (ps_set (i := 7) nd rfl (.inl rfl) (pe_op op_mul (pe_op op_mod (pe_op op_fdiv (pe_ix ix_list (pv 0) (pe_op op_add (pv 1) (pv 5)) (fun _ _ => rfl)) pe_int) (pe_op op_add (pe_op op_mul pe_int (pv 2)) pe_int)) (pe_op op_mod (pe_ix ix_list (pv 0) (pe_op op_add (pv 1) (pv 5)) (fun _ _ => rfl)) pe_int)))
          (pss_cons (ps_asg (pe_callB (call_max2 rfl) (by rfl) T.m_max (by decide +kernel) (pa_cons pe_int (pa_cons (pe_op op_add (pe_op op_mul (pv 2) (pe_op op_sub (pe_op op_sub (pv 1) pe_int) (pv 5))) (pe_op op_mul (pv 7) (pe_op op_mod (pe_op op_fdiv (pe_ix ix_list (pv 0) (pe_op op_add (pv 1) (pv 5)) (fun _ _ => rfl)) pe_int) pe_int))) pa_nil))) (pg_sub (pv 3) (pv 6) set_list))
          (pss_one (ps_asg (pe_op op_add (pe_op op_add (pv 5) pe_int) (pe_op op_mod (pe_ix ix_list (pv 0) (pe_op op_add (pe_op op_mul pe_int (pv 1)) (pv 5)) (fun _ _ => rfl)) (pe_op op_sub (pv 1) (pv 5)))) (pg_sub (pv 4) (pv 6) set_list))))))
      (pss_one (ps_ret (pe_tup (pa_cons (pv 3) (pa_cons (pv 4) pa_nil)))))))), ?_⟩
    refine q_asgL (el_rep1 (k := (n : Int)) (el_lst (ea_cons ev_c ea_nil) (by show 1 ≤ 100000; decide)) (ev_var rfl) (by omega) (by omega)) fun p1 H1 hp1 e1 h1 => ?_
    refine q_asgL (el_rep1 (k := (n : Int)) (el_lst (ea_cons (ev_var rfl) ea_nil) (by show 1 ≤ 100000; decide)) (ev_var rfl) (by omega) (by omega)) fun p2 H2 hp2 e2 h2 => ?_
    rw [Int.toNat_natCast, ← map_repl] at h1 h2
    have n12 : p1 ≠ p2 := fun z => by rw [← z, h1] at hp2; cases hp2
    have hs := ex_l (e1.trans e2) hS
    refine s_forEc (by walk_at "ea") (spN_perm (n := n) hs (by omega) (by omega)) ?_
    rintro _ pp H3 ⟨ns, hpm, rfl⟩ hpp e3 h3
    obtain ⟨r, rfl, hrp⟩ := perm_nat hpm
    have hrn : r.Nodup := hrp.nodup_iff.mpr List.nodup_range
    have hrl : r.length = n := by rw [hrp.length_eq, List.length_range]
    have e13 := (e1.trans e2).trans e3
    refine s_forE (xs := (natI r).map V.int) ea_refs (sq_of h3) (fun i σ' H' => ∃ (pl ws : List Int) (y5 y6 y7 : Option V), σ' = [some (.ref a), some (.int (n : Int)), some (.int st), some (.ref p1), some (.ref p2), y5, y6, y7] ∧ Ex H H' ∧ H' pp = some (.lst ((natI r).map V.int)) ∧ H' p1 = some (.lst (pl.map V.int)) ∧ H' p2 = some (.lst (ws.map V.int)) ∧ Drawn n st pl ws r i) ?_ ?_ ?_ ?_
    · intro H4 e4
      exact ⟨_, _, none, none, none, rfl, e13.trans e4, e4 _ _ h3, e4 _ _ (e3 _ _ (e2 _ _ h1)), e4 _ _ (e3 _ _ h2), Drawn.start n1⟩
    · rintro i σ' H' _ ⟨pl, ws, y5, y6, y7, rfl, ex, h4, _⟩
      exact sq_of h4
    · rintro i x Tt σ' Hc gx ⟨pl, ws, y5, y6, y7, rfl, ex, h4, h5, h6, hD⟩ nT
      obtain ⟨k, rfl, gk, _⟩ := nat_at gx
      have hk : k < n := List.mem_range.mp (hrp.mem_iff.mp (List.mem_of_getElem? gk))
      have hi : i < n := by rw [← hrl]; exact (List.getElem?_eq_some_iff.mp gk).1
      refine ⟨_, tg_two (st_of upd_same) tg_name tg_name, ?_⟩
      have eT : Ex Hc (upd Hc Tt (.tup [.int (i : Nat), .int ((k : Nat) : Int)])) := Ex.new nT
      have ex := ex.trans eT
      have h4 := eT _ _ h4
      have h5 := eT _ _ h5
      have h6 := eT _ _ h6
      generalize upd Hc Tt (.tup [.int (i : Nat), .int ((k : Nat) : Int)]) = H7 at ex h4 h5 h6 ⊢
      have hs := ex_l ex hS
      have r1 : atI (rows.map V.int) ((n : Int) + (i : Int)) = some (.int (rows.getD ((n : Int) + (i : Int)).toNat 0)) := Su.at_rows (by omega) (by omega)
      have r2 : atI (rows.map V.int) (2 * (n : Int) + (i : Int)) = some (.int (rows.getD (2 * (n : Int) + (i : Int)).toNat 0)) := Su.at_rows (by omega) (by omega)
      generalize rows.getD ((n : Int) + (i : Int)).toNat 0 = x1 at r1
      generalize rows.getD (2 * (n : Int) + (i : Int)).toNat 0 = x2 at r2
      have i1 : ∀ {H2 : Hp} {σ : L2.St}, Ex H7 H2 → σ[0]? = some (some (.ref a)) → σ[1]? = some (some (.int (n : Int))) → σ[5]? = some (some (.int (i : Int))) → Ev (tOp (rIxL K) (tVar 0) (tOp (rI0 fun i j => .int (i + j)) (tVar 1) (tVar 5))) σ H2 (.int x1) := fun e g0 g1 g5 => ev_op (ev_var g0) (ev_op (ev_var g1) (ev_var g5) rv_I0) (rv_ixL (ex_l e hs) r1)
      have i2 : ∀ {H2 : Hp} {σ : L2.St}, Ex H7 H2 → σ[0]? = some (some (.ref a)) → σ[1]? = some (some (.int (n : Int))) → σ[5]? = some (some (.int (i : Int))) → Ev (tOp (rIxL K) (tVar 0) (tOp (rI0 fun i j => .int (i + j)) (tOp (rI CMul fun i j => .int (i * j)) (tC (.int 2)) (tVar 1)) (tVar 5))) σ H2 (.int x2) := fun e g0 g1 g5 => ev_op (ev_var g0) (ev_op (ev_op ev_c (ev_var g1) (Su.rv_mul (Su.CMul.l (by decide) (by decide)))) (ev_var g5) rv_I0) (rv_ixL (ex_l e hs) r2)
      have m0 := Int.emod_nonneg (x1 / 3) (show 2 * st + 1 ≠ 0 by omega)
      have m1 := Int.emod_lt_of_pos (x1 / 3) (show 0 < 2 * st + 1 by omega)
      refine q_asg (v := .int (x1 / 3 % (2 * st + 1) * (x1 % 3))) (ev_op (ev_op (ev_op (i1 (Ex.refl _) rfl rfl rfl) ev_c (Su.rv_div (by decide) (by decide))) (ev_op (ev_op ev_c (ev_var rfl) (Su.rv_mul (Su.CMul.l (by decide) (by decide)))) ev_c rv_I0) (Su.rv_mod (by omega))) (ev_op (i1 (Ex.refl _) rfl rfl rfl) ev_c (Su.rv_mod (by decide))) (Su.rv_mul (Su.CMul.r (by omega) (by omega)))) fun H8 e8 => ?_
      have hrest : 0 ≤ x1 / 3 % (2 * st + 1) * (x1 % 3) ∧ x1 / 3 % (2 * st + 1) * (x1 % 3) ≤ 4000000 := by
        have : x1 % 3 = 0 ∨ x1 % 3 = 1 ∨ x1 % 3 = 2 := by omega
        rcases this with z | z | z <;> rw [z] <;> omega
      generalize x1 / 3 % (2 * st + 1) * (x1 % 3) = rest at hrest ⊢
      have hb : x1 / 2 % 2 = 0 ∨ x1 / 2 % 2 = 1 := by omega
      have hp0 : 0 ≤ st * ((n : Int) - 1 - (i : Int)) := Int.mul_nonneg (by omega) (by omega)
      have hpq : st * ((n : Int) - 1 - (i : Int)) ≤ 1000000 * 20 := Int.mul_le_mul s2 (by omega) (by omega) (by omega)
      have hrb : 0 ≤ rest * (x1 / 2 % 2) ∧ rest * (x1 / 2 % 2) ≤ 4000000 := by
        rcases hb with z | z <;> rw [z] <;> omega
      refine q_setL (e8 _ _ h5) (v := .int (if st * ((n : Int) - 1 - (i : Int)) + rest * (x1 / 2 % 2) > 0 then st * ((n : Int) - 1 - (i : Int)) + rest * (x1 / 2 % 2) else 0)) (ev_cb (ea_cons ev_c (ea_cons (ev_op (ev_op (ev_var rfl) (ev_op (ev_op (ev_var rfl) ev_c rv_I0) (ev_var rfl) rv_I0) (Su.rv_mul (Su.CMul.l (by omega) (by omega)))) (ev_op (ev_var rfl) (ev_op (ev_op (i1 e8 rfl rfl rfl) ev_c (Su.rv_div (by decide) (by decide))) ev_c (Su.rv_mod (by decide))) (Su.rv_mul (Su.CMul.l (by omega) (by omega)))) rv_I0) ea_nil)) rc_max) (ev_var rfl) (ev_var rfl) (by rw [List.length_map, hD.l1]; exact hk) fun H9 e9 => ?_
      have e89 := e8.trans e9
      have h69 : (upd H9 p1 (.lst ((pl.map V.int).set k (.int (if st * ((n : Int) - 1 - (i : Int)) + rest * (x1 / 2 % 2) > 0 then st * ((n : Int) - 1 - (i : Int)) + rest * (x1 / 2 % 2) else 0))))) p2 = some (.lst (ws.map V.int)) := by rw [upd_ne n12.symm]; exact e89 _ _ h6
      have h59 : (upd H9 p1 (.lst ((pl.map V.int).set k (.int (if st * ((n : Int) - 1 - (i : Int)) + rest * (x1 / 2 % 2) > 0 then st * ((n : Int) - 1 - (i : Int)) + rest * (x1 / 2 % 2) else 0))))) p1 = some (.lst ((pl.set k (if st * ((n : Int) - 1 - (i : Int)) + rest * (x1 / 2 % 2) > 0 then st * ((n : Int) - 1 - (i : Int)) + rest * (x1 / 2 % 2) else 0)).map V.int)) := by rw [upd_same, List.map_set]
      have h49 : (upd H9 p1 (.lst ((pl.map V.int).set k (.int (if st * ((n : Int) - 1 - (i : Int)) + rest * (x1 / 2 % 2) > 0 then st * ((n : Int) - 1 - (i : Int)) + rest * (x1 / 2 % 2) else 0))))) pp = some (.lst ((natI r).map V.int)) := by rw [upd_ne (fun z => by rw [z, (e2.trans (Ex.refl _)) _ _ h1] at hpp; cases hpp)]; exact e89 _ _ h4
      have ex9 : Ex H (upd H9 p1 (.lst ((pl.map V.int).set k (.int (if st * ((n : Int) - 1 - (i : Int)) + rest * (x1 / 2 % 2) > 0 then st * ((n : Int) - 1 - (i : Int)) + rest * (x1 / 2 % 2) else 0))))) := ex_up (ex.trans e89) hp1
      generalize upd H9 p1 (.lst ((pl.map V.int).set k (.int (if st * ((n : Int) - 1 - (i : Int)) + rest * (x1 / 2 % 2) > 0 then st * ((n : Int) - 1 - (i : Int)) + rest * (x1 / 2 % 2) else 0)))) = H10 at h69 h59 h49 ex9 ⊢
      have hpv : st * ((n : Int) - 1 - (i : Int)) ≤ (if st * ((n : Int) - 1 - (i : Int)) + rest * (x1 / 2 % 2) > 0 then st * ((n : Int) - 1 - (i : Int)) + rest * (x1 / 2 % 2) else 0) ∧ 0 ≤ (if st * ((n : Int) - 1 - (i : Int)) + rest * (x1 / 2 % 2) > 0 then st * ((n : Int) - 1 - (i : Int)) + rest * (x1 / 2 % 2) else 0) ∧ (if st * ((n : Int) - 1 - (i : Int)) + rest * (x1 / 2 % 2) > 0 then st * ((n : Int) - 1 - (i : Int)) + rest * (x1 / 2 % 2) else 0) ≤ 100000000 := by
        split <;> omega
      generalize (if st * ((n : Int) - 1 - (i : Int)) + rest * (x1 / 2 % 2) > 0 then st * ((n : Int) - 1 - (i : Int)) + rest * (x1 / 2 % 2) else 0) = pv at hpv h59
      have hs10 := ex_l ex9 hS
      have w0 := Int.emod_nonneg x2 (show (n : Int) - (i : Int) ≠ 0 by omega)
      have w1 := Int.emod_lt_of_pos x2 (show 0 < (n : Int) - (i : Int) by omega)
      refine s_setL h69 (v := .int ((i : Int) + 1 + x2 % ((n : Int) - (i : Int)))) (ev_op (ev_op (ev_var rfl) ev_c rv_I0) (ev_op (ev_op (ev_var rfl) (ev_op (ev_op ev_c (ev_var rfl) (Su.rv_mul (Su.CMul.l (by decide) (by decide)))) (ev_var rfl) rv_I0) (rv_ixL hs10 r2)) (ev_op (ev_var rfl) (ev_var rfl) rv_I0) (Su.rv_mod (by omega))) rv_I0) (ev_var rfl) (ev_var rfl) (by rw [List.length_map, hD.l2]; exact hk) fun H11 e11 => ?_
      refine ⟨pl.set k pv, ws.set k ((i : Int) + 1 + x2 % ((n : Int) - (i : Int))), _, _, _, rfl, ex_up (ex9.trans e11) (fresh_back e1 hp2), ?_, ?_, ?_, hD.step hrn gk hk hpv.1 hpv.2.1 hpv.2.2 (by omega) (by omega)⟩
      · rw [upd_ne (fun z => by rw [z, h2] at hpp; cases hpp)]
        exact e11 _ _ h49
      · rw [upd_ne n12]
        exact e11 _ _ h59
      · rw [upd_same, List.map_set]
    · rintro σ' H4 ⟨pl, ws, y5, y6, y7, rfl, ex, h4, h5, h6, hD⟩
      rw [List.length_map, natI_len, hrl] at hD
      dsimp only
      refine s_retU (eu_tup (by walk_at "ea") (by show 2 ≤ 100000; decide)) fun t H5 ht e5 h7 => ?_
      exact q pl ws r H5 t p1 p2 hp1 (fresh_back e1 hp2) n12 (ex.trans e5) h7 (e5 _ _ h5) (e5 _ _ h6) hD hrp
end

end Su
namespace Su
/-! ### what is known of a value is its data -/
section
variable {K : PySem.W.Frag} {σ : L2.St} {H : Hp} {te ta tb : TE} {tA : TA} {d : PyData} {ds : List PyData} {v : V} {xs : List V} {i : Int} {D : Ends} {tz : TS}
def EvD (K : PySem.W.Frag) (te : TE) (σ : L2.St) (H : Hp) (d : PyData) : Prop := ∀ H1, Ex H H1 → ∀ Q : VK, (∀ v H2, Ex H1 H2 → Dp K H2 v d → Q v H2) → te σ H1 Q
def EvAD (K : PySem.W.Frag) (ta : TA) (σ : L2.St) (H : Hp) (ds : List PyData) : Prop := ∀ H1, Ex H H1 → ∀ Q : List V → Hp → Prop, (∀ vs H2, Ex H1 H2 → DpAll K H2 vs ds → Q vs H2) → ta σ H1 Q
theorem EvD.mono {H' : Hp} (e : Ex H H') (h : EvD K te σ H d) : EvD K te σ H' d := fun H1 a Q q => h H1 (e.trans a) Q q
theorem evd_v (h : Ev te σ H v) (hd : Dp K H v d) : EvD K te σ H d := fun H1 e Q q => h H1 e _ fun H2 e2 => q v H2 e2 (dp_ex (e.trans e2) hd)
theorem evd_int (h : Ev te σ H (.int i)) : EvD K te σ H (.int i) := evd_v h (.int i)
theorem evd_bl {b : Bool} (h : Ev te σ H (.bl b)) : EvD K te σ H (.bool b) := evd_v h (.bl b)
theorem evd_str {z : Str} (h : Ev te σ H (.str z)) : EvD K te σ H (.str z) := evd_v h (.str z)
theorem evd_L (h : EvL te σ H xs) (hd : DpAll K H xs ds) : EvD K te σ H (.list ds) := fun H1 e Q q => h H1 e _ fun p H2 _ e2 h2 => q _ H2 e2 (.lst (sq_of h2) (dpa_ex (e.trans e2) hd))
theorem evd_U (h : EvU te σ H xs) (hd : DpAll K H xs ds) : EvD K te σ H (.tuple ds) := fun H1 e Q q => h H1 e _ fun p H2 _ e2 h2 => q _ H2 e2 (.tup (st_of h2) (dpa_ex (e.trans e2) hd))
theorem evad_nil : EvAD K tNil σ H [] := fun H1 _ _ q => q [] H1 (Ex.refl H1) .nil
theorem evad_cons {tr : TA} (h : EvD K te σ H d) (hr : EvAD K tr σ H ds) : EvAD K (tCons te tr) σ H (d :: ds) := fun H1 e Q q => h H1 e _ fun v H2 e2 hv => hr H2 (e.trans e2) _ fun vs H3 e3 hvs => q _ H3 (e2.trans e3) (.cons (dp_ex e3 hv) hvs)
theorem evd_lst (h : EvAD K tA σ H ds) (hl : ds.length ≤ 1000 := by simp) : EvD K (tLst tA) σ H (.list ds) := fun H1 e Q q => h H1 e _ fun vs H2 e2 hv => ⟨sz_of (by rw [dpa_len hv]; omega), fun p hp => q _ _ (e2.trans (Ex.new hp)) (.lst (sq_of upd_same) (dpa_ex (Ex.new hp) hv))⟩
theorem evd_tup (h : EvAD K tA σ H ds) (hl : ds.length ≤ 1000 := by simp) : EvD K (tTup tA) σ H (.tuple ds) := fun H1 e Q q => h H1 e _ fun vs H2 e2 hv => ⟨sz_of (by rw [dpa_len hv]; omega), fun p hp => q _ _ (e2.trans (Ex.new hp)) (.tup (st_of upd_same) (dpa_ex (Ex.new hp) hv))⟩
theorem q_asgD {j : Nat} (h : EvD K te σ H d) (k : ∀ v H1, Ex H H1 → Dp K H1 v d → tz D (σ.set j (some v)) H1) : tSeq (tAsg te (gName j)) tz D σ H := h H (Ex.refl H) _ fun v H1 e1 hv => k v H1 e1 hv
theorem ev_sameD {n : Nat} {E : XK} (hp : PlD n d) (h1 : EvD K ta σ H d) (h2 : EvD K tb σ H d) : Ev (tCall (spSame K n) [] E (tCons ta (tCons tb tNil))) σ H (.bl true) := fun H1 e Q q =>
  h1 H1 e _ fun v H2 e2 hv => h2 H2 (e.trans e2) _ fun w H3 e3 hw => spV_same hp (dp_ex e3 hv) hw H3 (Ex.refl _) Q (fun H4 e4 => q H4 ((e2.trans e3).trans e4)) E
theorem et_sameD {n : Nat} {E : XK} (hp : PlD n d) (h1 : EvD K ta σ H d) (h2 : EvD K tb σ H d) : EvT (tB (tCall (spSame K n) [] E (tCons ta (tCons tb tNil)))) σ H true := et_B (ev_sameD hp h1 h2)
theorem dpa_intsV {ns : List Int} : DpAll K H (ns.map V.int) (ns.map PyData.int) := dpa_of V.int PyData.int ns fun i _ => .int i
theorem eu_tupOf {p : Addr} (ha : Ev te σ H (.ref p)) (h : SqL K H p xs) : EvU (tCB (fun xs H Q => ∃ p ys, xs = [V.ref p] ∧ ((SqL K H p ys ∧ ∀ l, H l = none → Q (.ref l) (upd H l (.tup ys))) ∨ (SqT K H p ys ∧ Q (.ref p) H))) (tCons te tNil)) σ H xs := fun H0 e Q q =>
  ha H0 e _ fun H1 e1 => ⟨p, xs, rfl, .inl ⟨ex_l (e.trans e1) h, fun l hl => q l _ (fresh_back e1 hl) (e1.trans (Ex.new hl)) upd_same⟩⟩
theorem rc_intB {b : Bool} : RC (fun xs H Q => (∃ i, xs = [V.int i] ∧ Q (.int i) H) ∨ ∃ k, xs = [V.bl k] ∧ Q (.int (if k = true then 1 else 0)) H) [.bl b] H (.int (if b = true then 1 else 0)) := fun H1 _ _ q => .inr ⟨b, rfl, q H1 (Ex.refl H1)⟩
theorem pld_ints {n : Nat} {ns : List Int} (h : ns.length ≤ 1000) : PlD (n + 1) (.list (ns.map PyData.int)) := .list (by rw [List.length_map]; exact h) fun x hx => by
  obtain ⟨z, _, rfl⟩ := List.mem_map.mp hx
  exact .int z
/-- {a: x, b: y, c: z}[k] -/
theorem ev_dsel {a1 a2 a3 k : Str} {t1 t2 t3 tk : TE} {v1 v2 v3 : V} (h1 : Ev t1 σ H v1) (h2 : Ev t2 σ H v2) (h3 : Ev t3 σ H v3) (hk : Ev tk σ H (.str k)) (n12 : ¬ a1 = a2) (n13 : ¬ a1 = a3) (n23 : ¬ a2 = a3) (hv : (if k = a1 then some v1 else if k = a2 then some v2 else if k = a3 then some v3 else none) = some v) :
    Ev (tDGet (tDisp [(tC (.str a1), t1), (tC (.str a2), t2), (tC (.str a3), t3)]) tk) σ H v := fun H0 e Q q => fun p hp => by
  refine h1 _ (e.trans (Ex.new hp)) _ fun H1 e1 => h2 H1 ((e.trans (Ex.new hp)).trans e1) _ fun H2 e2 => h3 H2 (((e.trans (Ex.new hp)).trans e1).trans e2) _ fun H3 e3 => ?_
  have e03 : Ex (upd H0 p (.dK [])) H3 := (e1.trans e2).trans e3
  refine ⟨e03 _ _ upd_same, [(.inr a1, v1), (.inr a2, v2), (.inr a3, v3)], rfl, by show 3 ≤ 15; decide, ?_⟩
  have em : mergeK [] [(Sum.inr a1, v1), (Sum.inr a2, v2), (Sum.inr a3, v3)] = [((Sum.inr a1 : Key), v1), (.inr a2, v2), (.inr a3, v3)] := by
    have i12 : ¬ (Sum.inr a1 : Key) = .inr a2 := fun z => n12 (Sum.inr.inj z)
    have i13 : ¬ (Sum.inr a1 : Key) = .inr a3 := fun z => n13 (Sum.inr.inj z)
    have i23 : ¬ (Sum.inr a2 : Key) = .inr a3 := fun z => n23 (Sum.inr.inj z)
    unfold mergeK
    simp [putK, i12, i13, i23]
  have ex : Ex H0 (upd H3 p (.dK (mergeK [] [(Sum.inr a1, v1), (Sum.inr a2, v2), (Sum.inr a3, v3)]))) := Ex.mut ((Ex.new hp).trans e03) hp
  refine hk _ (e.trans ex) _ fun H4 e4 => ⟨p, v, rfl, ?_, q H4 (ex.trans e4)⟩
  refine .inl ⟨_, .inr k, .inl (e4 _ _ upd_same), rfl, ?_⟩
  rw [em]
  unfold valV
  by_cases c1 : k = a1
  · rw [if_pos c1] at hv
    subst c1
    simp [← hv]
  · rw [if_neg c1] at hv
    have d1 : ¬ (Sum.inr a1 : Key) = .inr k := fun z => c1 (Sum.inr.inj z).symm
    by_cases c2 : k = a2
    · rw [if_pos c2] at hv
      subst c2
      simp [d1, ← hv]
    · rw [if_neg c2] at hv
      have d2 : ¬ (Sum.inr a2 : Key) = .inr k := fun z => c2 (Sum.inr.inj z).symm
      by_cases c3 : k = a3
      · rw [if_pos c3] at hv
        subst c3
        simp [d1, d2, ← hv]
      · rw [if_neg c3] at hv
        cases hv
end

end Su
namespace Su
/-! ### for x, y in zip(xs, ys) -/
theorem s_forZ {K : PySem.W.Frag} {a b : Addr} {xs ys : List V} {g : TG} {tb : TS} {D : Ends} {σ : L2.St} {H : Hp} {ta : TA} (h : EvA ta σ H [.ref a, .ref b]) (hx : SqL K H a xs) (hy : SqL K H b ys) (hlen : xs.length = ys.length) (Pv : Nat → L2.St → Hp → Prop) (h0 : ∀ H1, Ex H H1 → Pv 0 σ H1) (hl : ∀ i σ' H', i ≤ xs.length → Pv i σ' H' → SqL K H' a xs ∧ SqL K H' b ys)
    (hs : ∀ i x y T σ' Hc, xs[i]? = some x → ys[i]? = some y → Pv i σ' Hc → Hc T = none → ∃ σ2, Tgt g (.ref T) σ' σ2 (upd Hc T (.tup [x, y])) ∧ tb { D with nx := Pv (i + 1), ct := Pv (i + 1), bk := D.nx } σ2 (upd Hc T (.tup [x, y])))
    (hd : ∀ σ' H', Pv xs.length σ' H' → D.nx σ' H') : tFor (RZ.iZipA K ta) g tb D σ H :=
  h H (Ex.refl H) _ fun H1 e1 => ⟨a, b, xs, ys, rfl, .inl ⟨ex_l e1 hx, ex_l e1 hy, by
    refine ⟨fun i m σ' H' => m = xs.length - i ∧ i ≤ xs.length ∧ Pv i σ' H', ⟨xs.length, by simp, Nat.zero_le _, h0 H1 e1⟩, ?_⟩
    rintro i m σ' H' ⟨rfl, hi, p⟩
    obtain ⟨hX, hY⟩ := hl i σ' H' hi p
    by_cases hlt : i < xs.length
    · have hlt2 : i < ys.length := by omega
      refine .inr ⟨⟨xs, ys, xs[i], ys[i], hX, hY, List.getElem?_eq_getElem hlt, List.getElem?_eq_getElem hlt2⟩, Pv (i + 1), fun σ2 H2 p' => ⟨xs.length - (i + 1), by omega, rfl, hlt, p'⟩, fun z H2 hz => ?_⟩
      obtain ⟨T, x, y, rfl, nT, rfl, hxx, hyy⟩ := hz
      obtain ⟨σ2, h1, h2⟩ := hs i x y T σ' H' (hxx xs hX) (hyy ys hY) p nT
      exact h1 _ (Ex.refl _) _ h2
    · have ei : i = xs.length := by omega
      subst ei
      exact .inl ⟨⟨xs, ys, hX, hY, .inl (Nat.le_refl _)⟩, hd σ' H' p⟩⟩⟩

end Su
namespace Su
/-! ### what is there is no new place -/
theorem CirAt.dom {C S : Addr} {H : Hp} {d : CirD} {M : CirM} (h : CirAt C S H d M) {a : Addr} (ha : a ∈ d.all) : ∃ o, H a = some o ∧ ∀ ps, o ≠ .tbl ps := by
  unfold CirD.all at ha
  simp only [List.mem_cons, List.mem_append] at ha
  rcases ha with rfl | rfl | rfl | rfl | rfl | rfl | ha | ha
  · exact ⟨_, h.hc, fun _ z => nomatch z⟩
  · exact ⟨_, h.hl, fun _ z => nomatch z⟩
  · exact ⟨_, h.hfp, fun _ z => nomatch z⟩
  · exact ⟨_, h.hws, fun _ z => nomatch z⟩
  · exact ⟨_, h.hs, fun _ z => nomatch z⟩
  · exact ⟨_, h.hf, fun _ z => nomatch z⟩
  · obtain ⟨x, hx, rfl⟩ := List.mem_map.mp ha
    obtain ⟨i, gi⟩ := List.getElem?_of_mem hx
    obtain ⟨s, gs⟩ := seat_at (M := M) (i := i) (by rw [← h.hsl]; exact (List.getElem?_eq_some_iff.mp gi).1)
    exact ⟨_, h.hsa i x s gi gs, fun _ z => nomatch z⟩
  · obtain ⟨i, gi⟩ := List.getElem?_of_mem ha
    obtain ⟨r, gr⟩ : ∃ r, M.flows[i]? = some r := ⟨_, List.getElem?_eq_getElem (by rw [← h.hfl]; exact (List.getElem?_eq_some_iff.mp gi).1)⟩
    exact ⟨_, h.hfa i a r gi gr, fun _ z => nomatch z⟩
theorem CirAt.old {C S : Addr} {H : Hp} {d : CirD} {M : CirM} (h : CirAt C S H d M) {a : Addr} (ha : Nw H a) : a ∉ d.all := fun z => by
  obtain ⟨o, ho, n⟩ := h.dom z
  obtain ⟨ps, e⟩ := ha o ho
  exact n ps e

end Su
namespace Su
/-! ### what is done to a circle -/
def CirM.up (M : CirM) (g : Nat → SeatM → SeatM) : CirM := { M with seats := M.seats.mapIdx g }
theorem up_at {M : CirM} {g : Nat → SeatM → SeatM} {i : Nat} : (M.up g).seats[i]? = (M.seats[i]?).map (g i) := List.getElem?_mapIdx
theorem up_len {M : CirM} {g : Nat → SeatM → SeatM} : (M.up g).seats.length = M.seats.length := List.length_mapIdx
theorem up_up {M : CirM} {g h : Nat → SeatM → SeatM} : (M.up g).up h = M.up fun i s => h i (g i s) := by
  unfold CirM.up
  congr 1
  apply List.ext_getElem?
  intro i
  rw [List.getElem?_mapIdx, List.getElem?_mapIdx, List.getElem?_mapIdx, Option.map_map]
  rfl
theorem up_congr {M : CirM} {g h : Nat → SeatM → SeatM} (e : ∀ i s, M.seats[i]? = some s → g i s = h i s) : M.up g = M.up h := by
  unfold CirM.up
  congr 1
  apply List.ext_getElem?
  intro i
  rw [List.getElem?_mapIdx, List.getElem?_mapIdx]
  cases hc : M.seats[i]? with
  | none => rfl
  | some s => show some (g i s) = some (h i s); rw [e i s hc]
theorem up_id {M : CirM} {g : Nat → SeatM → SeatM} (e : ∀ i s, M.seats[i]? = some s → g i s = s) : M.up g = M := by
  unfold CirM.up
  have : M.seats.mapIdx g = M.seats := by
    apply List.ext_getElem?
    intro i
    rw [List.getElem?_mapIdx]
    cases hc : M.seats[i]? with
    | none => rfl
    | some s => show some (g i s) = some s; rw [e i s hc]
  rw [this]
/-- a seat leaves the queue -/
def CirM.leave (M : CirM) (i : Nat) (t : SSt) : CirM := { M.up (fun k s => if k = i then { s with st := t, since := M.opn } else s) with line := M.line.erase i }
section
variable {C S : Addr} {H H' : Hp} {d : CirD} {M : CirM}
theorem CirAt.ne_seat (h : CirAt C S H d M) {i : Nat} {x : Addr × Addr} (hx : d.sa[i]? = some x) : x.1 ≠ d.c ∧ x.1 ≠ d.pl ∧ x.1 ≠ d.pfp ∧ x.1 ≠ d.pws ∧ x.1 ≠ d.ps ∧ x.1 ≠ d.pf ∧ x.1 ∉ d.fl := by
  obtain ⟨s, hs⟩ := seat_at (h.sn hx)
  have hH := h.hsa i x s hx hs
  have nl : ∀ {a : Addr} {xs : List V}, H a = some (.lst xs) → x.1 ≠ a := fun ha z => by rw [z, ha] at hH; cases hH
  refine ⟨fun z => ?_, nl h.hl, nl h.hfp, nl h.hws, nl h.hs, nl h.hf, fun z => ?_⟩
  · rw [z, h.hc] at hH
    have e := Option.some.inj hH
    injection e with _ _ e3
    have := congrArg List.head? e3
    exact absurd (Prod.mk.inj (Option.some.inj this)).1 (by decide +kernel)
  · obtain ⟨j, gj⟩ := List.getElem?_of_mem z
    obtain ⟨r, gr⟩ : ∃ r, M.flows[j]? = some r := ⟨_, List.getElem?_eq_getElem (by rw [← h.hfl]; exact (List.getElem?_eq_some_iff.mp gj).1)⟩
    exact nl (h.hfa j _ r gj gr) rfl
theorem CirAt.inj (h : CirAt C S H d M) {i j : Nat} {x y : Addr × Addr} (hx : d.sa[i]? = some x) (hy : d.sa[j]? = some y) (e : x.1 = y.1) : i = j := by
  have h1 : (d.sa.map (·.1))[i]? = some x.1 := by rw [List.getElem?_map, hx]; rfl
  have h2 : (d.sa.map (·.1))[j]? = some y.1 := by rw [List.getElem?_map, hy]; rfl
  exact (List.getElem?_inj (List.getElem?_eq_some_iff.mp h1).1 h.nd).mp (h1.trans (by rw [h2, e]))
/-- one seat is changed -/
theorem CirAt.seat (h : CirAt C S H d M) {i : Nat} {x : Addr × Addr} {s s' : SeatM} {g : Nat → SeatM → SeatM} (hx : d.sa[i]? = some x) (hs : M.seats[i]? = some s) (hg : g i s = s') (ho : ∀ k t, k ≠ i → M.seats[k]? = some t → g k t = t) (hH : H' x.1 = some (.ins S x.2 (sNs.zip (seatV s'))))
    (f : ExF [x.1] H H') : CirAt C S H' d (M.up g) := by
  obtain ⟨n1, n2, n3, n4, n5, n6, n7⟩ := h.ne_seat hx
  have nf : ∀ {a : Addr}, x.1 ≠ a → a ∉ [x.1] := fun n z => n (List.mem_singleton.mp z).symm
  exact {
    hc := f _ _ h.hc (nf n1)
    hl := f _ _ h.hl (nf n2)
    hfp := f _ _ h.hfp (nf n3)
    hws := f _ _ h.hws (nf n4)
    hs := f _ _ h.hs (nf n5)
    hsl := by rw [up_len]; exact h.hsl
    hsa := fun k y t hy ht => by
      rw [up_at] at ht
      obtain ⟨t0, h0, rfl⟩ := Option.map_eq_some_iff.mp ht
      by_cases e : k = i
      · subst e
        rw [hs] at h0
        rw [hx] at hy
        rw [← Option.some.inj h0, ← Option.some.inj hy, hg]
        exact hH
      · rw [ho k t0 e h0]
        exact f _ _ (h.hsa k y t0 hy h0) (nf fun z => e (h.inj hy hx z.symm))
    hf := f _ _ h.hf (nf n6)
    hfl := h.hfl
    hfa := fun k a r ha hr => f _ _ (h.hfa k a r ha hr) (nf fun z => n7 (by rw [z]; exact List.mem_of_getElem? ha))
    nd := h.nd
    apl := h.apl
    apf := h.apf }
/-- the circle's own numbers are changed -/
theorem CirAt.self (h : CirAt C S H d M) {o r b : Int} (hH : H' d.c = some (.ins C d.dx (cNs.zip (cirV d { M with opn := o, rests := r, chest := b })))) (f : ExF [d.c] H H') : CirAt C S H' d { M with opn := o, rests := r, chest := b } := by
  have nc : ∀ {a : Addr} {xs : List V}, H a = some (.lst xs) → a ∉ [d.c] := fun ha z => by rw [List.mem_singleton.mp z, h.hc] at ha; cases ha
  exact {
    hc := hH
    hl := f _ _ h.hl (nc h.hl)
    hfp := f _ _ h.hfp (nc h.hfp)
    hws := f _ _ h.hws (nc h.hws)
    hs := f _ _ h.hs (nc h.hs)
    hsl := h.hsl
    hsa := fun k y t hy ht => f _ _ (h.hsa k y t hy ht) fun z => (h.ne_seat hy).1 (List.mem_singleton.mp z)
    hf := f _ _ h.hf (nc h.hf)
    hfl := h.hfl
    hfa := fun k a r ha hr => f _ _ (h.hfa k a r ha hr) (nc (h.hfa k a r ha hr))
    nd := h.nd
    apl := h.apl
    apf := h.apf }
/-- the queue is changed -/
theorem CirAt.que (h : CirAt C S H d M) {l : List Nat} (hH : H' d.pl = some (.lst ((natI l).map V.int))) (f : ExF [d.pl] H H') : CirAt C S H' d { M with line := l } := by
  have ap := h.apl
  simp only [List.mem_cons, not_or] at ap
  obtain ⟨a1, a2, a3, a4, a5⟩ := ap
  have nf : ∀ {a : Addr}, d.pl ≠ a → a ∉ [d.pl] := fun n z => n (List.mem_singleton.mp z).symm
  exact {
    hc := f _ _ h.hc (nf fun z => by have := h.hl; rw [z, h.hc] at this; cases this)
    hl := hH
    hfp := f _ _ h.hfp (nf a1)
    hws := f _ _ h.hws (nf a2)
    hs := f _ _ h.hs (nf a3)
    hsl := h.hsl
    hsa := fun k y t hy ht => f _ _ (h.hsa k y t hy ht) (nf (h.ne_seat hy).2.1.symm)
    hf := f _ _ h.hf (nf a4)
    hfl := h.hfl
    hfa := fun k a r ha hr => f _ _ (h.hfa k a r ha hr) (nf fun z => a5 (by rw [z]; exact List.mem_of_getElem? ha))
    nd := h.nd
    apl := h.apl
    apf := h.apf }
/-- a row of flows is added -/
theorem CirAt.flo (h : CirAt C S H d M) {p : Addr} {row : List Int} (hp : H p = none) (hH : H' d.pf = some (.lst ((d.fl ++ [p]).map V.ref))) (hr : H' p = some (.lst (row.map V.int))) (f : ExF [d.pf] H H') : CirAt C S H' { d with fl := d.fl ++ [p] } { M with flows := M.flows ++ [row] } := by
  have ap := h.apf
  simp only [List.mem_cons, not_or] at ap
  obtain ⟨a1, a2, a3, a4⟩ := ap
  have al := h.apl
  simp only [List.mem_cons, not_or] at al
  obtain ⟨b1, b2, b3, b4, b5⟩ := al
  have nf : ∀ {a : Addr}, d.pf ≠ a → a ∉ [d.pf] := fun n z => n (List.mem_singleton.mp z).symm
  have np : ∀ {a : Addr} {o : HO}, H a = some o → a ≠ p := fun ha z => by rw [z, hp] at ha; cases ha
  exact {
    hc := f _ _ h.hc (nf fun z => by have := h.hf; rw [z, h.hc] at this; cases this)
    hl := f _ _ h.hl (nf fun z => b4 z.symm)
    hfp := f _ _ h.hfp (nf a1)
    hws := f _ _ h.hws (nf a2)
    hs := f _ _ h.hs (nf a3)
    hsl := h.hsl
    hsa := fun k y t hy ht => f _ _ (h.hsa k y t hy ht) (nf (h.ne_seat hy).2.2.2.2.2.1.symm)
    hf := hH
    hfl := by show (d.fl ++ [p]).length = (M.flows ++ [row]).length; rw [List.length_append, List.length_append, h.hfl]; rfl
    hfa := fun k a r ha hr' => by
      have ha : (d.fl ++ [p])[k]? = some a := ha
      have hr' : (M.flows ++ [row])[k]? = some r := hr'
      by_cases hk : k < d.fl.length
      · rw [List.getElem?_append_left hk] at ha
        rw [List.getElem?_append_left (by rw [← h.hfl]; exact hk)] at hr'
        exact f _ _ (h.hfa k a r ha hr') (nf fun z => a4 (by rw [z]; exact List.mem_of_getElem? ha))
      · have hk2 := (List.getElem?_eq_some_iff.mp ha).1
        rw [List.length_append, List.length_singleton] at hk2
        obtain rfl : k = d.fl.length := by omega
        rw [List.getElem?_append_right (Nat.le_refl _), Nat.sub_self] at ha
        rw [h.hfl, List.getElem?_append_right (Nat.le_refl _), Nat.sub_self] at hr'
        obtain rfl : p = a := Option.some.inj ha
        obtain rfl : row = r := Option.some.inj hr'
        exact hr
    nd := h.nd
    apl := by
      show d.pl ∉ d.pfp :: d.pws :: d.ps :: d.pf :: (d.fl ++ [p])
      simp only [List.mem_cons, List.mem_append, List.not_mem_nil, or_false, not_or]
      exact ⟨b1, b2, b3, b4, b5, np h.hl⟩
    apf := by
      show d.pf ∉ d.pfp :: d.pws :: d.ps :: (d.fl ++ [p])
      simp only [List.mem_cons, List.mem_append, List.not_mem_nil, or_false, not_or]
      exact ⟨a1, a2, a3, a4, np h.hf⟩ }
theorem CirD.mut_c {d : CirD} : d.c ∈ d.mut := List.mem_cons_self
theorem CirD.mut_pl {d : CirD} : d.pl ∈ d.mut := List.mem_cons_of_mem _ List.mem_cons_self
theorem CirD.mut_pf {d : CirD} : d.pf ∈ d.mut := List.mem_cons_of_mem _ (List.mem_cons_of_mem _ List.mem_cons_self)
theorem CirD.mut_s {d : CirD} {i : Nat} {x : Addr × Addr} (h : d.sa[i]? = some x) : x.1 ∈ d.mut := List.mem_cons_of_mem _ (List.mem_cons_of_mem _ (List.mem_cons_of_mem _ (List.mem_map.mpr ⟨x, List.mem_of_getElem? h, rfl⟩)))
theorem one_mut {d : CirD} {a : Addr} (h : a ∈ d.mut) : ∀ x ∈ [a], x ∈ d.mut := fun x hx => by rw [List.mem_singleton.mp hx]; exact h
theorem CirAt.soft (h : CirAt C S H d M) : Soft d.mut H := fun a ha => by
  unfold CirD.mut at ha
  simp only [List.mem_cons] at ha
  rcases ha with rfl | rfl | rfl | ha
  · exact .inr (.inr ⟨_, _, _, h.hc⟩)
  · exact .inr (.inl ⟨_, h.hl⟩)
  · exact .inr (.inl ⟨_, h.hf⟩)
  · obtain ⟨x, hx, rfl⟩ := List.mem_map.mp ha
    obtain ⟨i, gi⟩ := List.getElem?_of_mem hx
    obtain ⟨s, gs⟩ := seat_at (h.sn gi)
    exact .inr (.inr ⟨_, _, _, h.hsa i x s gi gs⟩)
/-- what is no place of it and no new one stays -/
theorem CirAt.newMut (h : CirAt C S H d M) {p : Addr} (hp : H p = none) : p ∉ d.mut := fun z => by
  rcases h.soft p z with _ | ⟨xs, e⟩ | ⟨C, dx, fs, e⟩
  · exact h.old (Nw.of hp) (by
      unfold CirD.mut at z
      unfold CirD.all
      simp only [List.mem_cons, List.mem_append] at z ⊢
      rcases z with z | z | z | z
      · exact .inl z
      · exact .inr (.inl z)
      · exact .inr (.inr (.inr (.inr (.inr (.inl z)))))
      · exact .inr (.inr (.inr (.inr (.inr (.inr (.inl z)))))))
  · rw [hp] at e; cases e
  · rw [hp] at e; cases e
end
section
variable {P : Program} {w : World} {K : PySem.W.Frag} {mg : Str → Option Value} {base : Heap}
/-- an attribute of a seat is stored -/
theorem q_sf {S : Addr} {x : Addr × Addr} {vs : List V} {k : Nat} {f : Str} {ta tv : TE} {σ : L2.St} {H : Hp} {v : V} {D : Ends} {tz : TS} (hv : Ev tv σ H v) (h : Ev ta σ H (.ref x.1)) (hx : H x.1 = some (.ins S x.2 (sNs.zip vs))) (c : Cls K S) (n : NoAttr K S f) (hf : sNs[k]? = some f) (hk : k < vs.length) (hl : vs.length ≤ 7)
    (q : ∀ H1, ExF [x.1] H H1 → H1 x.1 = some (.ins S x.2 (sNs.zip (vs.set k v))) → tz D σ H1) : tSeq (sFld K ta tv f) tz D σ H :=
  q_fldN hv h hx c n (by rw [List.length_zip]; have : min sNs.length vs.length ≤ vs.length := Nat.min_le_right _ _; omega) fun H1 f1 h1 => q H1 f1 (by rw [zip_put sNs_nd hf hk] at h1; exact h1)
theorem s_sf {S : Addr} {x : Addr × Addr} {vs : List V} {k : Nat} {f : Str} {ta tv : TE} {σ : L2.St} {H : Hp} {v : V} {D : Ends} (hv : Ev tv σ H v) (h : Ev ta σ H (.ref x.1)) (hx : H x.1 = some (.ins S x.2 (sNs.zip vs))) (c : Cls K S) (n : NoAttr K S f) (hf : sNs[k]? = some f) (hk : k < vs.length) (hl : vs.length ≤ 7)
    (q : ∀ H1, ExF [x.1] H H1 → H1 x.1 = some (.ins S x.2 (sNs.zip (vs.set k v))) → D.nx σ H1) : sFld K ta tv f D σ H :=
  s_fldN hv h hx c n (by rw [List.length_zip]; have : min sNs.length vs.length ≤ vs.length := Nat.min_le_right _ _; omega) fun H1 f1 h1 => q H1 f1 (by rw [zip_put sNs_nd hf hk] at h1; exact h1)
theorem in_addI {H : Hp} {i j : Int} (Q : VK) (q : Q (.int (i + j)) H) : (fun x y H (Q : VK) => ∃ i j, x = V.int i ∧ y = V.int j ∧ Q (.int (i + j)) H) (.int i) (.int j) H Q := ⟨i, j, rfl, rfl, q⟩
/-- .. by an operator -/
theorem s_sfA {rd : V → V → Hp → VK → Prop} {S : Addr} {x : Addr × Addr} {vs : List V} {k : Nat} {f : Str} {ta tv : TE} {σ : L2.St} {H : Hp} {w v z : V} {D : Ends} (h : Ev ta σ H (.ref x.1)) (hx : H x.1 = some (.ins S x.2 (sNs.zip vs))) (c : Cls K S) (n : NoAttr K S f) (hf : sNs[k]? = some f) (hw : vs[k]? = some w) (hl : vs.length ≤ 7) (hv : Ev tv σ H v) (hr : ∀ H1 (Q : VK), Q z H1 → rd w v H1 Q)
    (q : ∀ H1, ExF [x.1] H H1 → H1 x.1 = some (.ins S x.2 (sNs.zip (vs.set k z))) → D.nx σ H1) : sFldAug K ta tv rd f D σ H :=
  s_fldaug h hx c n (zip_lookup sNs_nd hf hw) hv (fun H1 Q _ hq => hr H1 Q hq) (by rw [List.length_zip]; have : min sNs.length vs.length ≤ vs.length := Nat.min_le_right _ _; omega) fun H1 e1 => q _ ((ExF.ex e1).upd (List.mem_singleton.mpr rfl)) (by rw [upd_same, zip_put sNs_nd hf (List.getElem?_eq_some_iff.mp hw).1])
theorem q_sfA {rd : V → V → Hp → VK → Prop} {S : Addr} {x : Addr × Addr} {vs : List V} {k : Nat} {f : Str} {ta tv : TE} {σ : L2.St} {H : Hp} {w v z : V} {D : Ends} {tz : TS} (h : Ev ta σ H (.ref x.1)) (hx : H x.1 = some (.ins S x.2 (sNs.zip vs))) (c : Cls K S) (n : NoAttr K S f) (hf : sNs[k]? = some f) (hw : vs[k]? = some w) (hl : vs.length ≤ 7) (hv : Ev tv σ H v) (hr : ∀ H1 (Q : VK), Q z H1 → rd w v H1 Q)
    (q : ∀ H1, ExF [x.1] H H1 → H1 x.1 = some (.ins S x.2 (sNs.zip (vs.set k z))) → tz D σ H1) : tSeq (sFldAug K ta tv rd f) tz D σ H := s_sfA (D := { D with nx := tz D }) h hx c n hf hw hl hv hr q
/-- a number of the circle, by an operator -/
theorem q_cfA {rd : V → V → Hp → VK → Prop} {C S : Addr} {d : CirD} {M : CirM} {k : Nat} {f : Str} {ta tv : TE} {σ : L2.St} {H : Hp} {w v z : V} {D : Ends} {tz : TS} (hC : CirAt C S H d M) (h : Ev ta σ H (.ref d.c)) (c : Cls K C) (n : NoAttr K C f) (hf : cNs[k]? = some f) (hw : (cirV d M)[k]? = some w) (hv : Ev tv σ H v) (hr : ∀ H1 (Q : VK), Q z H1 → rd w v H1 Q)
    (q : ∀ H1, ExF [d.c] H H1 → H1 d.c = some (.ins C d.dx (cNs.zip ((cirV d M).set k z))) → tz D σ H1) : tSeq (sFldAug K ta tv rd f) tz D σ H :=
  s_fldaug (D := { D with nx := tz D }) h hC.hc c n (zip_lookup cNs_nd hf hw) hv (fun H1 Q _ hq => hr H1 Q hq) (by show 10 < 1000; decide) fun H1 e1 => q _ ((ExF.ex e1).upd (List.mem_singleton.mpr rfl)) (by rw [upd_same, zip_put cNs_nd hf (List.getElem?_eq_some_iff.mp hw).1])
theorem s_cfA {rd : V → V → Hp → VK → Prop} {C S : Addr} {d : CirD} {M : CirM} {k : Nat} {f : Str} {ta tv : TE} {σ : L2.St} {H : Hp} {w v z : V} {D : Ends} (hC : CirAt C S H d M) (h : Ev ta σ H (.ref d.c)) (c : Cls K C) (n : NoAttr K C f) (hf : cNs[k]? = some f) (hw : (cirV d M)[k]? = some w) (hv : Ev tv σ H v) (hr : ∀ H1 (Q : VK), Q z H1 → rd w v H1 Q)
    (q : ∀ H1, ExF [d.c] H H1 → H1 d.c = some (.ins C d.dx (cNs.zip ((cirV d M).set k z))) → D.nx σ H1) : sFldAug K ta tv rd f D σ H :=
  s_fldaug h hC.hc c n (zip_lookup cNs_nd hf hw) hv (fun H1 Q _ hq => hr H1 Q hq) (by show 10 < 1000; decide) fun H1 e1 => q _ ((ExF.ex e1).upd (List.mem_singleton.mpr rfl)) (by rw [upd_same, zip_put cNs_nd hf (List.getElem?_eq_some_iff.mp hw).1])
theorem nat_erase {l : List Nat} {i : Nat} : ((natI l).eraseIdx (l.idxOf i)) = natI (l.erase i) := by
  rw [List.erase_eq_eraseIdx_of_idxOf rfl]
  exact natI_erase l _
/-- xs.remove(x) of unlike numbers -/
theorem s_rem {K : PySem.W.Frag} {ta tb : TE} {σ : L2.St} {H : Hp} {l : Addr} {xs : List Nat} {c : Nat} {D : Ends} (hl : H l = some (.lst ((natI xs).map V.int))) (ha : Ev ta σ H (.ref l)) (hb : Ev tb σ H (.int (c : Int))) (hm : c ∈ xs)
    (k : ∀ H1, Ex H H1 → D.nx σ (upd H1 l (.lst ((natI (xs.erase c)).map V.int)))) : tDrop (tBM K "list" rRemI ta (tCons tb tNil)) D σ H := ha H (Ex.refl H) _ fun H1 e1 =>
  ⟨Or.inl ⟨rfl, _, sq_of (e1 l _ hl)⟩, hb H1 e1 _ fun H2 e2 => ⟨l, natI xs, (c : Int), xs.idxOf c, rfl, rfl, e2 _ _ (e1 _ _ hl), by
    unfold natI
    rw [List.getElem?_map, List.getElem?_eq_getElem (List.idxOf_lt_length_of_mem hm), List.getElem_idxOf]
    rfl, fun m hm' => by
    intro z
    unfold natI at z
    rw [List.getElem?_map] at z
    obtain ⟨a, ga, he⟩ := Option.map_eq_some_iff.mp z
    have hac : a = c := by omega
    have := List.not_of_lt_findIdx (p := fun x => x == c) (xs := xs) (i := m) (by exact hm')
    have hml := (List.getElem?_eq_some_iff.mp ga).1
    rw [List.getElem?_eq_getElem hml] at ga
    rw [Option.some.inj ga, hac] at this
    simp at this, by
    rw [nat_erase]
    exact k H2 (e1.trans e2)⟩⟩
def spLeave (C S : Addr) : Sp := fun vs H Q _ => ∃ (d : CirD) (M : CirM) (i : Nat) (t : SSt), vs = [.ref d.c, .int (i : Int), .str (stS t)] ∧ CirAt C S H d M ∧ i < M.seats.length ∧ i ∈ M.line ∧ ∀ H', ExF d.mut H H' → CirAt C S H' d (M.leave i t) → Q .non H'
theorem ok_Circle_leave_queue (T : Top K mg) {k : Nat} : FnOk P w K mg base CX0 (k + 1) T.f_Circle_leave_queue T.fd_Circle_leave_queue ["self", "at", "state"] (spLeave T.f_Circle T.f_Seat) := by
  have nd := sc_Circle_leave_queue.nd
  refine T.F_Circle_leave_queue.ok sc_Circle_leave_queue (fun vs H Q E h => ?_) (fun cdv A outer s H vs Q E hr h => ?_)
  · obtain ⟨d, M, i, t, rfl, _⟩ := h
    rfl
  · obtain ⟨d, M, i, t, rfl, hC, hi, hm, q⟩ := h
    refine ⟨_, (pss_cons (ps_set (i := 3) nd rfl (.inl rfl) (pe_ix ix_list (pe_fldK (K := K) rfl (pv 0) rfl) (pv 1) (fun _ _ => rfl)))
      (pss_cons (ps_fldK (K := K) rfl (pv 3) (pv 2) rfl)
      (pss_cons (ps_fldK (K := K) rfl (pv 3) (pe_fldK (K := K) rfl (pv 0) rfl) rfl)
      (pss_one (ps_expr (pe_bm PySem.F.plainAttrs_list PySem.F.slot_list_remove PySem.F.type_list_remove mt_remove (pe_fldK (K := K) rfl (pv 0) rfl) (pa_cons (pv 1) pa_nil))))))), ?_⟩
    obtain ⟨s, hs⟩ := seat_at hi
    obtain ⟨x, hx, hxs⟩ := hC.both hs
    refine q_asg (ev_op (T.c_seats hC (ev_var rfl)) (ev_var rfl) (rv_ixL (sq_of hC.hs) (atI_nat (srefs_at hx)))) fun H1 e1 => ?_
    have hC1 := hC.ex e1
    refine q_sf (k := 0) (ev_var rfl) (ev_var rfl) (e1 _ _ hxs) T.cl_Seat T.na_Seat_state rfl (by show 0 < 7; decide) (by show 7 ≤ 7; decide) fun H2 f2 h2 => ?_
    have hC2 : CirAt T.f_Circle T.f_Seat H2 d (M.up fun k s => if k = i then { s with st := t } else s) := hC1.seat (s' := { s with st := t }) hx hs (if_pos rfl) (fun k t hk _ => if_neg hk) h2 f2
    refine q_sf (k := 1) (T.c_open_round hC2 (ev_var rfl)) (ev_var rfl) h2 T.cl_Seat T.na_Seat_since rfl (by show 1 < 7; decide) (by show 7 ≤ 7; decide) fun H3 f3 h3 => ?_
    have hC3 : CirAt T.f_Circle T.f_Seat H3 d (M.up fun k s => if k = i then { s with st := t, since := M.opn } else s) := hC1.seat (s' := { s with st := t, since := M.opn }) hx hs (if_pos rfl) (fun k t hk _ => if_neg hk) h3 (f2.trans f3)
    refine s_rem hC3.hl (T.c_line hC3 (ev_var rfl)) (ev_var rfl) hm fun H4 e4 => ?_
    have f13 : ExF d.mut H H3 := (ExF.ex e1).trans ((f2.trans f3).mono (one_mut (CirD.mut_s hx)))
    refine q _ ((f13.trans (ExF.ex e4)).upd CirD.mut_pl) ?_
    exact (hC3.ex e4).que upd_same ((ExF.refl _ _).upd (List.mem_singleton.mpr rfl))
end

end Su
namespace Su
/-! ### a round is closed, step by step -/
def gl (F : SeatM → SeatM) (l : List Nat) : Nat → SeatM → SeatM := fun i s => if i ∈ l then F s else s
theorem take_at {l : List Nat} {j a : Nat} (h : l[j]? = some a) : l.take (j + 1) = l.take j ++ [a] := by rw [List.take_add_one, h]; rfl
theorem not_take {l : List Nat} {j a : Nat} (hn : l.Nodup) (h : l[j]? = some a) : a ∉ l.take j := fun z => by
  obtain ⟨m, hm⟩ := List.getElem?_of_mem z
  have h1 : m < j := by
    have := (List.getElem?_eq_some_iff.mp hm).1
    rw [List.length_take] at this
    omega
  rw [List.getElem?_take, if_pos h1] at hm
  have := (List.getElem?_inj (List.getElem?_eq_some_iff.mp hm).1 hn).mp (hm.trans h.symm)
  omega
theorem up_nil {M : CirM} {F : SeatM → SeatM} : M.up (gl F []) = M := up_id fun i s _ => if_neg List.not_mem_nil
theorem up_step {M : CirM} {F : SeatM → SeatM} {l : List Nat} {j a : Nat} (hn : l.Nodup) (h : l[j]? = some a) : (M.up (gl F (l.take j))).up (fun k s => if k = a then F s else s) = M.up (gl F (l.take (j + 1))) := by
  rw [up_up, take_at h]
  apply up_congr
  intro i s _
  unfold gl
  have na := not_take hn h
  by_cases e : i = a
  · subst e
    rw [if_pos rfl, if_neg na, if_pos (List.mem_append_right _ (List.mem_singleton.mpr rfl))]
  · rw [if_neg e]
    by_cases m : i ∈ l.take j
    · rw [if_pos m, if_pos (List.mem_append_left _ m)]
    · rw [if_neg m, if_neg fun z => (List.mem_append.mp z).elim m fun z => e (List.mem_singleton.mp z)]
def sadr (d : CirD) (i : Nat) : Addr := (d.sa.getD i (0, 0)).1
theorem sadr_at {d : CirD} {i : Nat} {x : Addr × Addr} (h : d.sa[i]? = some x) : sadr d i = x.1 := by unfold sadr; rw [List.getD_eq_getElem?_getD, h]; rfl
def isUnp (M : CirM) (t : SSt) (paid : List Bool) (i : Nat) : Bool := (match M.seats[i]? with | some s => decide (s.st = t) | none => false) && !paid.getD i false
def unpM (M : CirM) (t : SSt) (paid : List Bool) : List Nat := (List.range M.seats.length).filter (isUnp M t paid)
def isPay (M : CirM) (i : Nat) : Bool := match M.seats[i]? with | some s => !decide (s.st = .f) | none => false
def payM (M : CirM) : List Nat := (List.range M.seats.length).filter (isPay M)
def standM (M : CirM) : List Int := M.seats.map fun s => s.drawn + s.shared - s.given
def fellF (M : CirM) : SeatM → SeatM := fun s => { s with st := .f, since := M.opn }
def fallM (M : CirM) (fs : List Nat) : CirM := { M.up (gl (fellF M) fs) with line := M.line.filter fun i => !decide (i ∈ fs), rests := M.rests + fs.length }
def chargeF (M : CirM) : SeatM → SeatM := fun s => { s with pledge := s.pledge - M.stake, pst := s.pst + 1 }
def chargeM (M : CirM) (ps : List Nat) : CirM := M.up (gl (chargeF M) ps)
def payF (M : CirM) : SeatM → SeatM := fun s => { s with given := s.given + M.stake }
def collectM (M : CirM) : CirM := { M.up (gl (payF M) (payM M)) with chest := M.chest + M.stake * ((payM M).length : Int) }
def restM (M : CirM) : CirM := { M with rests := M.rests - 1 }
theorem range_nd {n : Nat} {p : Nat → Bool} : ((List.range n).filter p).Nodup := List.nodup_range.filter _
theorem nat_list {n : Nat} {p : Nat → Bool} : given n p (fun i => V.int (i : Int)) = (natI ((List.range n).filter p)).map V.int := by
  unfold given natI
  rw [List.map_map]
  rfl
section
variable {P : Program} {w : World} {K : PySem.W.Frag} {mg : Str → Option Value} {base : Heap} {H : Hp} {d : CirD} {M : CirM}
theorem CirAt.step {C S : Addr} {H' : Hp} {F : SeatM → SeatM} {l : List Nat} {j a : Nat} {x : Addr × Addr} {s : SeatM} (h : CirAt C S H d (M.up (gl F (l.take j)))) (hn : l.Nodup) (hj : l[j]? = some a) (hx : d.sa[a]? = some x) (hs : M.seats[a]? = some s) (hH : H' x.1 = some (.ins S x.2 (sNs.zip (seatV (F s))))) (f : ExF [x.1] H H') : CirAt C S H' d (M.up (gl F (l.take (j + 1)))) := by
  have hs' : (M.up (gl F (l.take j))).seats[a]? = some s := by
    rw [up_at, hs]
    show some (if a ∈ l.take j then F s else s) = some s
    rw [if_neg (not_take hn hj)]
  have := h.seat (g := fun k s => if k = a then F s else s) hx hs' (if_pos rfl) (fun k t hk _ => if_neg hk) hH f
  rw [up_step hn hj] at this
  exact this
theorem CirAt.now {C S : Addr} {F : SeatM → SeatM} {l : List Nat} {j a : Nat} {x : Addr × Addr} {s : SeatM} (h : CirAt C S H d (M.up (gl F (l.take j)))) (hn : l.Nodup) (hj : l[j]? = some a) (hx : d.sa[a]? = some x) (hs : M.seats[a]? = some s) : H x.1 = some (.ins S x.2 (sNs.zip (seatV s))) := by
  refine h.hsa a x s hx ?_
  rw [up_at, hs]
  show some (if a ∈ l.take j then F s else s) = some s
  rw [if_neg (not_take hn hj)]
def spSeatsOf (K : PySem.W.Frag) (C S : Addr) : Sp := fun vs H Q _ => ∃ (d : CirD) (M : CirM) (p : Addr) (l : List Nat), vs = [.ref d.c, .ref p] ∧ CirAt C S H d M ∧ SqL K H p ((natI l).map V.int) ∧ l.length ≤ 1000 ∧ (∀ i ∈ l, i < M.seats.length) ∧ ∀ H' q, H q = none → Ex H H' → H' q = some (.lst (l.map fun i => V.ref (sadr d i))) → Q (.ref q) H'
theorem spL_seatsOf {C S : Addr} {p : Addr} {l : List Nat} (h : CirAt C S H d M) (hp : SqL K H p ((natI l).map V.int)) (hl : l.length ≤ 1000) (hi : ∀ i ∈ l, i < M.seats.length) : SpL (spSeatsOf K C S) [.ref d.c, .ref p] H (l.map fun i => V.ref (sadr d i)) := fun H1 e Q q _ => ⟨d, M, p, l, rfl, h.ex e, ex_l e hp, hl, hi, fun H2 r hr e2 h2 => q r H2 hr e2 h2⟩
theorem ok_Circle_seats_of (T : Top K mg) {k : Nat} : FnOk P w K mg base CX0 (k + 1) T.f_Circle_seats_of T.fd_Circle_seats_of ["self", "numbers"] (spSeatsOf K T.f_Circle T.f_Seat) := by
  have nd := sc_Circle_seats_of.nd
  refine T.F_Circle_seats_of.ok sc_Circle_seats_of (fun vs H Q E h => ?_) (fun cdv A outer s H vs Q E hr h => ?_)
  · obtain ⟨d, M, p, l, rfl, _⟩ := h
    rfl
  · obtain ⟨d, M, p, l, rfl, hC, hp, hl, hi, q⟩ := h
    refine ⟨_, (pss_one (ps_ret (pe_lc (own := [("at", 2)]) (g := gName 2) (tt := tYes) rfl nd (pi_list (pv 1)) (blkOk_by (own := [("at", 2)]) (N := Su.N_Circle_seats_of) (sc := defScope s_Circle_seats_of) (by decide +kernel)) (fun _ _ _ _ _ => (pg_name (i := 2) nd rfl (.inl rfl))) (fun _ _ _ _ _ => pts_nil) (fun _ _ _ _ _ => (pe_ix (ix_listK (K := K) rfl) (pe_fldK (K := K) rfl (pv 0) rfl) (pv 2) (fun _ _ => rfl)))))), ?_⟩
    refine s_retL (xs := l.map fun i => V.ref (sadr d i)) ?_ fun r H2 hr e2 h2 => q H2 r hr e2 h2
    rw [← nat_given1 l (fun i => V.ref (sadr d i)), show l.length = ((natI l).map V.int).length by rw [List.length_map, natI_len]]
    refine el_lcL _ _ (ev_var rfl) hp (by rw [List.length_map, natI_len]; omega) (fun x => rfl) (fun j x Hb eb gx => et_yes) (fun j x Hb eb gx _ => ?_)
    obtain ⟨a, rfl, ga, ea⟩ := nat_at gx
    rw [ea]
    obtain ⟨x, hx⟩ := hC.sat (hi a (List.mem_of_getElem? ga))
    rw [sadr_at hx]
    exact ev_op (T.c_seats (hC.ex eb) (ev_var rfl)) (ev_var rfl) (rv_ixL (sq_of (hC.ex eb).hs) (atI_nat (srefs_at hx)))
theorem ok_Circle_standings (T : Top K mg) {k : Nat} : FnOk P w K mg base CX0 (k + 1) T.f_Circle_standings T.fd_Circle_standings ["self"] (spObsL T.f_Circle T.f_Seat fun M => (standM M).map V.int) := by
  have nd := sc_Circle_standings.nd
  refine T.F_Circle_standings.ok sc_Circle_standings (fun vs H Q E h => ?_) (fun cdv A outer s H vs Q E hr h => ?_)
  · obtain ⟨d, M, rfl, _⟩ := h
    rfl
  · obtain ⟨d, M, rfl, hC, hn, q⟩ := h
    refine ⟨_, (pss_one (ps_ret (pe_lc (own := [("seat", 1)]) (g := gName 1) (tt := tYes) rfl nd (pi_list (pe_fldK (K := K) rfl (pv 0) rfl)) (blkOk_by (own := [("seat", 1)]) (N := Su.N_Circle_standings) (sc := defScope s_Circle_standings) (by decide +kernel)) (fun _ _ _ _ _ => (pg_name (i := 1) nd rfl (.inl rfl))) (fun _ _ _ _ _ => pts_nil) (fun _ _ _ _ _ => (pe_op op_sub (pe_op op_add (pe_fldK (K := K) rfl (pv 1) rfl) (pe_fldK (K := K) rfl (pv 1) rfl)) (pe_fldK (K := K) rfl (pv 1) rfl)))))), ?_⟩
    refine s_retL (xs := (standM M).map V.int) ?_ fun r H2 hr e2 h2 => q H2 r hr e2 h2
    have e : (standM M).map V.int = given (srefs d.sa).length (fun _ => true) (fun j => match M.seats[j]? with | some s => V.int (s.drawn + s.shared - s.given) | none => .non) := by
      rw [given_rng, srefs_len, hC.hsl]
      unfold standM
      rw [List.map_map]
      apply List.ext_getElem?
      intro j
      rw [List.getElem?_map, List.getElem?_map]
      by_cases hj : j < M.seats.length
      · rw [List.getElem?_range hj, List.getElem?_eq_getElem hj]
        show some (V.int _) = some (match M.seats[j]? with | some s => V.int (s.drawn + s.shared - s.given) | none => .non)
        rw [List.getElem?_eq_getElem hj]
      · rw [List.getElem?_eq_none (by omega), List.getElem?_eq_none (by rw [List.length_range]; omega)]
        rfl
    rw [e]
    refine el_lcL _ _ (T.c_seats hC (ev_var rfl)) (sq_of hC.hs) (by rw [srefs_len, hC.hsl]; omega) (fun x => rfl) (fun j x Hb eb gx => et_yes) (fun j y Hb eb gx _ => ?_)
    unfold srefs at gx
    rw [List.getElem?_map] at gx
    obtain ⟨x, hx, rfl⟩ := Option.map_eq_some_iff.mp gx
    obtain ⟨s, hs⟩ := seat_at (hC.sn hx)
    have hH := eb _ _ (hC.hsa j x s hx hs)
    rw [hs]
    exact ev_op (ev_op (T.s_drawn hH (ev_var rfl)) (T.s_shared hH (ev_var rfl)) rv_I0) (T.s_given hH (ev_var rfl)) rv_I0
def spUnpaid (K : PySem.W.Frag) (C S : Addr) : Sp := fun vs H Q _ => ∃ (d : CirD) (M : CirM) (t : SSt) (p : Addr) (paid : List Bool), vs = [.ref d.c, .str (stS t), .ref p] ∧ CirAt C S H d M ∧ SqL K H p (paid.map V.bl) ∧ paid.length = M.seats.length ∧ M.seats.length ≤ 1000 ∧ ∀ H' q, H q = none → Ex H H' → H' q = some (.lst ((natI (unpM M t paid)).map V.int)) → Q (.ref q) H'
theorem spL_unpaid {C S : Addr} {t : SSt} {p : Addr} {paid : List Bool} (h : CirAt C S H d M) (hp : SqL K H p (paid.map V.bl)) (hl : paid.length = M.seats.length) (hn : M.seats.length ≤ 1000) : SpL (spUnpaid K C S) [.ref d.c, .str (stS t), .ref p] H ((natI (unpM M t paid)).map V.int) := fun H1 e Q q _ => ⟨d, M, t, p, paid, rfl, h.ex e, ex_l e hp, hl, hn, fun H2 r hr e2 h2 => q r H2 hr e2 h2⟩
theorem ok_Circle_unpaid (T : Top K mg) {k : Nat} : FnOk P w K mg base CX0 (k + 1) T.f_Circle_unpaid T.fd_Circle_unpaid ["self", "state", "paid"] (spUnpaid K T.f_Circle T.f_Seat) := by
  have nd := sc_Circle_unpaid.nd
  refine T.F_Circle_unpaid.ok sc_Circle_unpaid (fun vs H Q E h => ?_) (fun cdv A outer s H vs Q E hr h => ?_)
  · obtain ⟨d, M, t, p, paid, rfl, _⟩ := h
    rfl
  · obtain ⟨d, M, t, p, paid, rfl, hC, hp, hl, hn, q⟩ := h
    refine ⟨_, (pss_one (ps_ret (pe_lc (own := [("at", 3), ("seat", 4)]) (g := gTup K 2 (gCons (gName 3) (gCons (gName 4) gNil))) (tt := _) rfl nd (pi_enum (by rfl) T.m_enumerate (pa_cons (pe_fldK (K := K) rfl (pv 0) rfl) pa_nil)) (blkOk_by (own := [("at", 3), ("seat", 4)]) (N := Su.N_Circle_unpaid) (sc := defScope s_Circle_unpaid) (by decide +kernel)) (fun _ _ _ _ _ => (pg_tup rfl (pgs_cons (pg_name (i := 3) nd rfl (.inl rfl)) (pgs_cons (pg_name (i := 4) nd rfl (.inl rfl)) pgs_nil)))) (fun _ _ _ _ _ => (pts_one (PW.pt (pw_and (pt_cmpR op_eq (pe_fldK (K := K) rfl (pv 4) rfl) (pv 1) (nomark _)) (pw_and1 (pt_not (pt_val (pe_ix (ix_listK (K := K) rfl) (pv 2) (pv 3) (fun _ _ => rfl))))))))) (fun _ _ _ _ _ => (pv 3))))), ?_⟩
    refine s_retL (xs := (natI (unpM M t paid)).map V.int) ?_ fun r H2 hr e2 h2 => q H2 r hr e2 h2
    unfold unpM
    rw [← nat_list, ← hC.hsl, ← srefs_len]
    refine el_lcE _ _ (ea_cons (T.c_seats hC (ev_var rfl)) ea_nil) (sq_of hC.hs) (by rw [srefs_len, hC.hsl]; omega) fun i x Tt Hb eb gx hT => ?_
    unfold srefs at gx
    rw [List.getElem?_map] at gx
    obtain ⟨x, hx, rfl⟩ := Option.map_eq_some_iff.mp gx
    obtain ⟨s, hs⟩ := seat_at (hC.sn hx)
    have hH := eb _ _ (hC.hsa i x s hx hs)
    have hi := hC.sn hx
    refine ⟨_, tg_two (st_of hT) tg_name tg_name, rfl, ?_, fun _ => ev_var rfl⟩
    unfold isUnp
    rw [hs]
    refine et_and (et_is (et_test (ev_op (T.s_state hH (ev_var rfl)) (ev_var rfl) (rv_eq rfl))) st_eq) fun _ => et_not (et_B (ev_op (ev_var rfl) (ev_var rfl) (rv_ixL (ex_l eb hp) (atI_nat ?_))))
    rw [List.getElem?_map, List.getElem?_eq_getElem (by omega), List.getD_eq_getElem?_getD, List.getElem?_eq_getElem (by omega)]
    rfl
def spRefLists (K : PySem.W.Frag) (C S : Addr) : Sp := fun vs H Q _ => ∃ (d : CirD) (M : CirM) (p b : Addr) (paid : List Bool) (bids : List Int), vs = [.ref d.c, .ref p, .ref b] ∧ CirAt C S H d M ∧ SqL K H p (paid.map V.bl) ∧ SqL K H b (bids.map V.int) ∧ paid.length = M.seats.length ∧ bids.length = M.seats.length ∧ M.seats.length ≤ 1000 ∧ (∀ z ∈ bids, 0 ≤ z ∧ z ≤ potM M) ∧ ∀ H', Ex H H' → Q .non H'
theorem ok_Circle_refuse_lists (T : Top K mg) {k : Nat} : FnOk P w K mg base CX0 (k + 2) T.f_Circle_refuse_lists T.fd_Circle_refuse_lists ["self", "paid", "bids"] (spRefLists K T.f_Circle T.f_Seat) := by
  have nd := sc_Circle_refuse_lists.nd
  have G_Circle_pot := ok_Circle_pot (P := P) (w := w) (base := base) T (k := 0)
  refine T.F_Circle_refuse_lists.ok sc_Circle_refuse_lists (fun vs H Q E h => ?_) (fun cdv A outer s H vs Q E hr h => ?_)
  · obtain ⟨d, M, p, b, paid, bids, rfl, _⟩ := h
    rfl
  · obtain ⟨d, M, p, b, paid, bids, rfl, hC, hp, hb, hpl, hbl, hn, hbb, q⟩ := h
    refine ⟨_, (pss_cons (ps_if (PW.pt (pw_or (pt_cmpR op_ne (pe_callB call_len_seq (by rfl) T.m_len PySem.boot_len (pa_cons (pv 1) pa_nil)) (pe_callB call_len_seq (by rfl) T.m_len PySem.boot_len (pa_cons (pe_fldK (K := K) rfl (pv 0) rfl) pa_nil)) (nomark _)) (pw_or1 (pt_cmpR op_ne (pe_callB call_len_seq (by rfl) T.m_len PySem.boot_len (pa_cons (pv 2) pa_nil)) (pe_callB call_len_seq (by rfl) T.m_len PySem.boot_len (pa_cons (pe_fldK (K := K) rfl (pv 0) rfl) pa_nil)) (nomark _)))))
        (pss_one ps_never)
        pss_nil)
      (pss_one (ps_if (pt_not (pt_val (pe_callB (cr_all rfl) (by rfl) T.m_all (by decide +kernel) (pa_cons (pe_lc (own := [("coins", 3)]) (g := gName 3) (tt := tYes) rfl nd (pi_list (pv 2)) (blkOk_by (own := [("coins", 3)]) (N := Su.N_Circle_refuse_lists) (sc := defScope s_Circle_refuse_lists) (by decide +kernel)) (fun _ _ _ _ _ => (pg_name (i := 3) nd rfl (.inl rfl))) (fun _ _ _ _ _ => pts_nil) (fun _ _ _ _ _ => (pe_chain op_le op_le pe_int (pv 3) (pe_meth0 (pv 0) T.cl_Circle T.mt_Circle_pot G_Circle_pot (hr.mono (by omega)) T.b_Circle_pot .nil pass0 )))) pa_nil))))
        (pss_one ps_never)
        pss_nil))), ?_⟩
    have l1 : Ev (tCB (rLenS K) (tCons (tVar 1) tNil)) (L2.start N_Circle_refuse_lists [V.ref d.c, V.ref p, V.ref b]) H (.int (M.seats.length : Int)) := ev_is (ev_len (ev_var rfl) hp) (by rw [List.length_map, hpl])
    have l2 : Ev (tCB (rLenS K) (tCons (tVar 2) tNil)) (L2.start N_Circle_refuse_lists [V.ref d.c, V.ref p, V.ref b]) H (.int (M.seats.length : Int)) := ev_is (ev_len (ev_var rfl) hb) (by rw [List.length_map, hbl])
    refine q_when (b := false) (et_or (a := false) (b := false) (et_is (et_test (ev_op l1 (T.c_len hC (ev_var rfl)) (rv_ne rfl))) (by rw [decide_eq_true rfl]; rfl)) fun _ => et_is (et_test (ev_op l2 (T.c_len hC (ev_var rfl)) (rv_ne rfl))) (by rw [decide_eq_true rfl]; rfl)) (fun h => by cases h) fun _ H1 e1 => ?_
    refine s_when (b := false) (et_not (a := true) (et_B (ev_allOf (ev_var rfl) (ex_l e1 hb) (by rw [List.length_map]; omega) (fun x => rfl) fun i x Hb eb gx => ?_))) (fun h => by cases h) fun _ H3 e3 => q H3 (e1.trans e3)
    obtain ⟨z, rfl, gz⟩ := ints_get gx
    have := hbb z (List.mem_of_getElem? gz)
    exact ev_is (chain_le' ev_c (ev_var rfl) (ev_meth (ev_var rfl) (hC.ex (e1.trans eb)).hc c_no ea_nil (spV_obs (g := fun M => .int (potM M)) (hC.ex (e1.trans eb)) hn))) (by rw [decide_eq_true this.1, decide_eq_true this.2]; rfl)
def spFall (C S : Addr) : Sp := fun vs H Q _ => ∃ (d : CirD) (M : CirM) (p : Addr) (fs : List Nat), vs = [.ref d.c, .ref p] ∧ CirAt C S H d M ∧ H p = some (.lst ((natI fs).map V.int)) ∧ p ∉ d.mut ∧ fs.Nodup ∧ (∀ i ∈ fs, i ∈ M.line ∧ i < M.seats.length) ∧ M.line.Nodup ∧ fs.length ≤ 1000 ∧ ∀ H', ExF d.mut H H' → CirAt C S H' d (fallM M fs) → Q .non H'
theorem fall_step {M : CirM} {fs : List Nat} {j a : Nat} (hn : fs.Nodup) (hl : M.line.Nodup) (h : fs[j]? = some a) : CirM.leave { M.up (gl (fellF M) (fs.take j)) with line := M.line.filter fun i => !decide (i ∈ fs.take j) } a .f = { M.up (gl (fellF M) (fs.take (j + 1))) with line := M.line.filter fun i => !decide (i ∈ fs.take (j + 1)) } := by
  have e1 := up_step (M := M) (F := fellF M) hn h
  have e2 : (M.line.filter fun i => !decide (i ∈ fs.take j)).erase a = M.line.filter fun i => !decide (i ∈ fs.take (j + 1)) := by
    rw [List.Nodup.erase_eq_filter (List.Pairwise.filter _ hl), List.filter_filter]
    apply List.filter_congr
    intro i _
    rw [take_at h]
    by_cases e : i = a
    · subst e
      simp
    · by_cases m : i ∈ fs.take j
      · simp [m]
      · simp [m, e]
  have all : ∀ (a b : List SeatM) (c e : List Nat), a = b → c = e → CirM.mk M.stake M.fp M.ws M.bid a c M.opn M.rests M.chest M.flows = CirM.mk M.stake M.fp M.ws M.bid b e M.opn M.rests M.chest M.flows := by
    rintro a b c e rfl rfl
    rfl
  have e1s := congrArg CirM.seats e1
  exact all _ _ _ _ e1s e2
theorem ok_Circle_let_fall (T : Top K mg) {k : Nat} : FnOk P w K mg base CX0 (k + 2) T.f_Circle_let_fall T.fd_Circle_let_fall ["self", "fallen"] (spFall T.f_Circle T.f_Seat) := by
  have nd := sc_Circle_let_fall.nd
  have G_Circle_leave_queue := ok_Circle_leave_queue (P := P) (w := w) (base := base) T (k := 0)
  refine T.F_Circle_let_fall.ok sc_Circle_let_fall (fun vs H Q E h => ?_) (fun cdv A outer s H vs Q E hr h => ?_)
  · obtain ⟨d, M, p, fs, rfl, _⟩ := h
    rfl
  · obtain ⟨d, M, p, fs, rfl, hC, hp, hpm, hnd, hin, hln, hl, q⟩ := h
    refine ⟨_, (pss_cons (ps_for PassesOwn.never rfl (pi_list (pv 1)) (pg_name (i := 2) nd rfl (.inl rfl))
        (pss_one (ps_expr (pe_meth (pv 0) T.cl_Circle T.mt_Circle_leave_queue G_Circle_leave_queue (hr.mono (by omega)) T.b_Circle_leave_queue .nil pass0 (pa_cons (pv 2) (pa_cons (pe_glob (v := .str "fell") (by rfl) T.m_FELL ⟨_, rfl⟩) pa_nil))))))
      (pss_one (ps_fldaugK (K := K) rfl (pv 0) (pe_callB call_len_seq (by rfl) T.m_len PySem.boot_len (pa_cons (pv 1) pa_nil)) in_add))), ?_⟩
    have hlen : ((natI fs).map V.int).length = fs.length := by rw [List.length_map, natI_len]
    refine q_forL (a := p) (ev_var rfl) (sq_of hp) (fun j σ' H' => ∃ y2 : Option V, σ' = [some (.ref d.c), some (.ref p), y2] ∧ ExF d.mut H H' ∧ CirAt T.f_Circle T.f_Seat H' d { M.up (gl (fellF M) (fs.take j)) with line := M.line.filter fun i => !decide (i ∈ fs.take j) }) ?_ ?_ ?_ ?_
    · intro H1 e1
      refine ⟨_, rfl, ExF.ex e1, ?_⟩
      have : (M.line.filter fun i => !decide (i ∈ fs.take 0)) = M.line := List.filter_eq_self.mpr fun i _ => by simp
      rw [this, List.take_zero, up_nil]
      exact hC.ex e1
    · rintro j σ' H' _ ⟨y2, rfl, f, _⟩
      exact sq_of (f.l hp hpm)
    · rintro j x σ' H' gx ⟨y2, rfl, f, hC'⟩
      obtain ⟨a, rfl, ga, _⟩ := nat_at gx
      obtain ⟨ha, hal⟩ := hin a (List.mem_of_getElem? ga)
      refine tg_name H' (Ex.refl _) _ ?_
      refine te_meth (Q := fun _ H2 => _) (ev_var rfl) hC'.hc c_no (ea_cons (ev_var rfl) (ea_cons ev_c ea_nil)) fun H2 e2 => ?_
      refine ⟨d, _, a, .f, rfl, hC'.ex e2, by rw [up_len]; exact hal, List.mem_filter.mpr ⟨ha, by simp [not_take hnd ga]⟩, fun H3 f3 hC3 => ?_⟩
      rw [fall_step hnd hln ga] at hC3
      exact ⟨_, rfl, (f.trans (ExF.ex e2)).trans f3, hC3⟩
    · rintro σ' H' ⟨y2, rfl, f, hC'⟩
      rw [hlen, List.take_length] at hC'
      refine s_cfA (k := 7) hC' (ev_var rfl) T.cl_Circle T.na_Circle_rests_due rfl rfl (ev_len (ev_var rfl) (sq_of (f.l hp hpm))) (z := .int (M.rests + (fs.length : Int))) (fun H1 Q hq => ⟨_, _, rfl, rfl, by rw [hlen]; exact hq⟩) fun H1 f1 h1 => ?_
      exact q H1 (f.trans (f1.mono (one_mut CirD.mut_c))) (hC'.self (o := M.opn) (r := M.rests + (fs.length : Int)) (b := M.chest) h1 f1)
end

end Su
namespace Su
section
variable {P : Program} {w : World} {K : PySem.W.Frag} {mg : Str → Option Value} {base : Heap} {H : Hp} {d : CirD} {M : CirM}
def spCharge (C S : Addr) : Sp := fun vs H Q _ => ∃ (d : CirD) (M : CirM) (p : Addr) (l : List Nat), vs = [.ref d.c, .ref p] ∧ CirAt C S H d M ∧ H p = some (.lst ((natI l).map V.int)) ∧ l.Nodup ∧ (∀ i ∈ l, i < M.seats.length) ∧ l.length ≤ 1000 ∧ ∀ H', ExF d.mut H H' → CirAt C S H' d (chargeM M l) → Q .non H'
theorem ok_Circle_charge_pledges (T : Top K mg) {k : Nat} : FnOk P w K mg base CX0 (k + 2) T.f_Circle_charge_pledges T.fd_Circle_charge_pledges ["self", "pledged"] (spCharge T.f_Circle T.f_Seat) := by
  have nd := sc_Circle_charge_pledges.nd
  have G_Circle_seats_of := ok_Circle_seats_of (P := P) (w := w) (base := base) T (k := 0)
  refine T.F_Circle_charge_pledges.ok sc_Circle_charge_pledges (fun vs H Q E h => ?_) (fun cdv A outer s H vs Q E hr h => ?_)
  · obtain ⟨d, M, p, l, rfl, _⟩ := h
    rfl
  · obtain ⟨d, M, p, l, rfl, hC, hp, hnd, hin, hl, q⟩ := h
    refine ⟨_, (pss_one (ps_for PassesOwn.never rfl (pi_list (pe_meth (pv 0) T.cl_Circle T.mt_Circle_seats_of G_Circle_seats_of (hr.mono (by omega)) T.b_Circle_seats_of .nil pass0 (pa_cons (pv 1) pa_nil))) (pg_name (i := 2) nd rfl (.inl rfl))
        (pss_cons (ps_fldaugK (K := K) rfl (pv 2) (pe_fldK (K := K) rfl (pv 0) rfl) in_sub)
          (pss_one (ps_fldaugK (K := K) rfl (pv 2) pe_int in_add))))), ?_⟩
    refine s_forNL (xs := l.map fun i => V.ref (sadr d i)) (el_meth (ev_var rfl) hC.hc c_no (ea_cons (ev_var rfl) ea_nil) (spL_seatsOf hC (sq_of hp) hl hin)) (fun r j σ' H' => ∃ y : Option V, σ' = [some (.ref d.c), some (.ref p), y] ∧ r ∉ d.mut ∧ H' r = some (.lst (l.map fun i => V.ref (sadr d i))) ∧ ExF d.mut H H' ∧ CirAt T.f_Circle T.f_Seat H' d (M.up (gl (chargeF M) (l.take j)))) ?_ ?_ ?_ ?_
    · intro r H1 hr e1 h1
      refine ⟨_, rfl, hC.newMut hr, h1, ExF.ex e1, ?_⟩
      rw [List.take_zero, up_nil]
      exact hC.ex e1
    · rintro r j σ' H' _ ⟨y, rfl, hrm, hr, _⟩
      exact sq_of hr
    · rintro r j x σ' H' gx ⟨y, rfl, hrm, hr, f, hC'⟩
      rw [List.getElem?_map] at gx
      obtain ⟨a, ga, rfl⟩ := Option.map_eq_some_iff.mp gx
      have ha := hin a (List.mem_of_getElem? ga)
      obtain ⟨s, hs⟩ := seat_at ha
      obtain ⟨x, hx⟩ := hC.sat ha
      have hH := hC'.now hnd ga hx hs
      rw [sadr_at hx]
      refine tg_name H' (Ex.refl _) _ ?_
      refine q_sfA (k := 2) (ev_var rfl) hH T.cl_Seat T.na_Seat_pledge rfl rfl (by show 7 ≤ 7; decide) (T.c_stake hC' (ev_var rfl)) (z := .int (s.pledge - M.stake)) (fun H1 Q hq => ⟨_, _, rfl, rfl, hq⟩) fun H1 f1 h1 => ?_
      refine s_sfA (k := 6) (ev_var rfl) h1 T.cl_Seat T.na_Seat_pledge_stakes rfl rfl (by show 7 ≤ 7; decide) ev_c (z := .int (s.pst + 1)) (fun H1 Q hq => ⟨_, _, rfl, rfl, hq⟩) fun H2 f2 h2 => ?_
      have f12 := (f1.trans f2).mono (one_mut (CirD.mut_s hx))
      exact ⟨_, rfl, hrm, f12.l hr hrm, f.trans f12, hC'.step hnd ga hx hs h2 (f1.trans f2)⟩
    · rintro r σ' H' ⟨y, rfl, hrm, hr, f, hC'⟩
      rw [List.length_map, List.take_length] at hC'
      exact q H' f hC'
def spCollect (C S : Addr) : Sp := fun vs H Q _ => ∃ (d : CirD) (M : CirM), vs = [.ref d.c] ∧ CirAt C S H d M ∧ M.seats.length ≤ 1000 ∧ ∀ H' r, r ∉ d.mut → H r = none → ExF d.mut H H' → CirAt C S H' d (collectM M) → H' r = some (.lst ((natI (payM M)).map V.int)) → Q (.ref r) H'
theorem filt_len {n : Nat} {p : Nat → Bool} : ((List.range n).filter p).length ≤ n := by
  have := List.length_filter_le p (List.range n)
  rw [List.length_range] at this
  exact this
theorem ok_Circle_collect (T : Top K mg) {k : Nat} : FnOk P w K mg base CX0 (k + 2) T.f_Circle_collect T.fd_Circle_collect ["self"] (spCollect T.f_Circle T.f_Seat) := by
  have nd := sc_Circle_collect.nd
  have G_Circle_seats_of := ok_Circle_seats_of (P := P) (w := w) (base := base) T (k := 0)
  refine T.F_Circle_collect.ok sc_Circle_collect (fun vs H Q E h => ?_) (fun cdv A outer s H vs Q E hr h => ?_)
  · obtain ⟨d, M, rfl, _⟩ := h
    rfl
  · obtain ⟨d, M, rfl, hC, hn, q⟩ := h
    refine ⟨_, (pss_cons (ps_setLc (i := 2) (own := [("at", 3), ("seat", 1)]) (g := gTup K 2 (gCons (gName 3) (gCons (gName 1) gNil))) (tt := _) rfl nd rfl rfl (sw_true rfl rfl rfl (by decide +kernel)) (pi_enum (by rfl) T.m_enumerate (pa_cons (pe_fldK (K := K) rfl (pv 0) rfl) pa_nil)) (blkOk_by (own := [("at", 3), ("seat", 1)]) (N := Su.N_Circle_collect) (sc := defScope s_Circle_collect) (by decide +kernel)) (fun _ _ _ _ _ => (pg_tup rfl (pgs_cons (pg_name (i := 3) nd rfl (.inl rfl)) (pgs_cons (pg_name (i := 1) nd rfl (.inl rfl)) pgs_nil)))) (fun _ _ _ _ _ => (pts_one (pt_cmpR op_ne (pe_fldK (K := K) rfl (pv 1) rfl) (pe_glob (v := .str "fell") (by rfl) T.m_FELL ⟨_, rfl⟩) (nomark _)))) (fun _ _ _ _ _ => (pv 3)))
      (pss_cons (ps_for PassesOwn.never rfl (pi_list (pe_meth (pv 0) T.cl_Circle T.mt_Circle_seats_of G_Circle_seats_of (hr.mono (by omega)) T.b_Circle_seats_of .nil pass0 (pa_cons (pv 2) pa_nil))) (pg_name (i := 1) nd rfl (.inl rfl))
        (pss_one (ps_fldaugK (K := K) rfl (pv 1) (pe_fldK (K := K) rfl (pv 0) rfl) in_add)))
      (pss_cons (ps_fldaugK (K := K) rfl (pv 0) (pe_op op_mul (pe_fldK (K := K) rfl (pv 0) rfl) (pe_callB call_len_seq (by rfl) T.m_len PySem.boot_len (pa_cons (pv 2) pa_nil))) in_add)
      (pss_one (ps_ret (pv 2)))))), ?_⟩
    have hlen : ((natI (payM M)).map V.int).length = (payM M).length := by rw [List.length_map, natI_len]
    have hpl : (payM M).length ≤ M.seats.length := filt_len
    refine q_asgL (xs := (natI (payM M)).map V.int) ?_ fun r H1 hr e1 h1 => ?_
    · unfold payM
      rw [← nat_list, ← hC.hsl, ← srefs_len]
      refine el_lcE _ _ (ea_cons (T.c_seats hC (ev_var rfl)) ea_nil) (sq_of hC.hs) (by rw [srefs_len, hC.hsl]; omega) fun i x Tt Hb eb gx hT => ?_
      unfold srefs at gx
      rw [List.getElem?_map] at gx
      obtain ⟨x, hx, rfl⟩ := Option.map_eq_some_iff.mp gx
      obtain ⟨s, hs⟩ := seat_at (hC.sn hx)
      have hH := eb _ _ (hC.hsa i x s hx hs)
      refine ⟨_, tg_two (st_of hT) tg_name tg_name, rfl, ?_, fun _ => ev_var rfl⟩
      unfold isPay
      rw [hs]
      exact et_is (et_test (ev_op (T.s_state hH (ev_var rfl)) ev_c (rv_ne rfl))) (congrArg (fun b => !b) (st_eq (b := .f)))
    have hC1 := hC.ex e1
    have hrm := hC.newMut hr
    refine q_forNL (xs := (payM M).map fun i => V.ref (sadr d i)) (el_meth (ev_var rfl) hC1.hc c_no (ea_cons (ev_var rfl) ea_nil) (spL_seatsOf hC1 (sq_of h1) (by omega) (fun i hi => List.mem_range.mp (List.mem_filter.mp hi).1))) (fun r2 j σ' H' => ∃ y y3 : Option V, σ' = [some (.ref d.c), y, some (.ref r), y3] ∧ r2 ∉ d.mut ∧ H' r2 = some (.lst ((payM M).map fun i => V.ref (sadr d i))) ∧ ExF d.mut H1 H' ∧ CirAt T.f_Circle T.f_Seat H' d (M.up (gl (payF M) ((payM M).take j)))) ?_ ?_ ?_ ?_
    · intro r2 H2 hr2 e2 h2
      refine ⟨_, _, rfl, hC1.newMut hr2, h2, ExF.ex e2, ?_⟩
      rw [List.take_zero, up_nil]
      exact hC1.ex e2
    · rintro r2 j σ' H' _ ⟨y, y3, rfl, hrm2, hr2, _⟩
      exact sq_of hr2
    · rintro r2 j x σ' H' gx ⟨y, y3, rfl, hrm2, hr2, f, hC'⟩
      rw [List.getElem?_map] at gx
      obtain ⟨a, ga, rfl⟩ := Option.map_eq_some_iff.mp gx
      have ha : a < M.seats.length := List.mem_range.mp (List.mem_filter.mp (List.mem_of_getElem? ga)).1
      obtain ⟨s, hs⟩ := seat_at ha
      obtain ⟨x, hx⟩ := hC.sat ha
      have hH := hC'.now range_nd ga hx hs
      rw [sadr_at hx]
      refine tg_name H' (Ex.refl _) _ ?_
      refine s_sfA (k := 3) (ev_var rfl) hH T.cl_Seat T.na_Seat_given rfl rfl (by show 7 ≤ 7; decide) (T.c_stake hC' (ev_var rfl)) (z := .int (s.given + M.stake)) (fun H1 Q hq => ⟨_, _, rfl, rfl, hq⟩) fun H2 f2 h2 => ?_
      have f12 := f2.mono (one_mut (CirD.mut_s hx))
      exact ⟨_, _, rfl, hrm2, f12.l hr2 hrm2, f.trans f12, hC'.step range_nd ga hx hs h2 f2⟩
    · rintro r2 σ' H' ⟨y, y3, rfl, hrm2, hr2, f, hC'⟩
      rw [List.length_map, List.take_length] at hC'
      refine q_cfA (k := 8) hC' (ev_var rfl) T.cl_Circle T.na_Circle_chest rfl rfl (ev_op (T.c_stake hC' (ev_var rfl)) (ev_is (ev_len (ev_var rfl) (sq_of (f.l h1 hrm))) (by rw [hlen])) (Su.rv_mul (Su.CMul.r (by omega) (by omega)))) (z := .int (M.chest + M.stake * ((payM M).length : Int))) (fun H1 Q hq => ⟨_, _, rfl, rfl, hq⟩) fun H3 f3 h3 => ?_
      have f13 := f.trans (f3.mono (one_mut CirD.mut_c))
      exact s_ret (ev_var rfl) fun H4 e4 => q H4 r hrm hr (((ExF.ex e1).trans f13).trans (ExF.ex e4)) ((hC'.self (o := M.opn) (r := M.rests) (b := M.chest + M.stake * ((payM M).length : Int)) h3 f3).ex e4) (e4 _ _ (f13.l h1 hrm))
def spRest (K : PySem.W.Frag) (C S : Addr) : Sp := fun vs H Q _ => ∃ (d : CirD) (M : CirM) (p : Addr) (l : List Nat), vs = [.ref d.c, .ref p] ∧ CirAt C S H d M ∧ H p = some (.lst ((natI l).map V.int)) ∧ p ∉ d.mut ∧ l.length ≤ 1000 ∧ ∀ H' t, H t = none → ExF d.mut H H' → CirAt C S H' d (restM M) → H' t = some (.tup [.str "box", .int (-1), .int (M.stake * (l.length : Int)), .int 0]) → Q (.ref t) H'
theorem ok_Circle_rest (T : Top K mg) {k : Nat} : FnOk P w K mg base CX0 (k + 1) T.f_Circle_rest T.fd_Circle_rest ["self", "payers"] (spRest K T.f_Circle T.f_Seat) := by
  have nd := sc_Circle_rest.nd
  refine T.F_Circle_rest.ok sc_Circle_rest (fun vs H Q E h => ?_) (fun cdv A outer s H vs Q E hr h => ?_)
  · obtain ⟨d, M, p, l, rfl, _⟩ := h
    rfl
  · obtain ⟨d, M, p, l, rfl, hC, hp, hpm, hl, q⟩ := h
    refine ⟨_, (pss_cons (ps_fldaugK (K := K) rfl (pv 0) pe_int in_sub)
      (pss_one (ps_ret (pe_tup (pa_cons pe_str (pa_cons (pe_un un_neg pe_int) (pa_cons (pe_op op_mul (pe_fldK (K := K) rfl (pv 0) rfl) (pe_callB call_len_seq (by rfl) T.m_len PySem.boot_len (pa_cons (pv 1) pa_nil))) (pa_cons pe_int pa_nil)))))))), ?_⟩
    refine q_cfA (k := 7) hC (ev_var rfl) T.cl_Circle T.na_Circle_rests_due rfl rfl ev_c (z := .int (M.rests - 1)) (fun H1 Q hq => ⟨_, _, rfl, rfl, hq⟩) fun H1 f1 h1 => ?_
    have hC1 : CirAt T.f_Circle T.f_Seat H1 d (restM M) := hC.self (o := M.opn) (r := M.rests - 1) (b := M.chest) h1 f1
    have f1' := f1.mono (one_mut (CirD.mut_c (d := d)))
    refine s_retU (eu_tup (vs := [.str "box", .int (-1), .int (M.stake * (l.length : Int)), .int 0]) (ea_cons ev_c (ea_cons (ev_un ev_c ru_neg) (ea_cons (ev_op (T.c_stake hC1 (ev_var rfl)) (ev_is (ev_len (ev_var rfl) (sq_of (f1'.l hp hpm))) (by rw [List.length_map, natI_len])) (Su.rv_mul (Su.CMul.r (by omega) (by omega)))) (ea_cons ev_c ea_nil)))) (by show 4 ≤ 100000; decide)) fun t H2 ht e2 h2 => ?_
    refine q H2 t ?_ (f1'.trans (ExF.ex e2)) (hC1.ex e2) h2
    cases hh : H t with
    | none => rfl
    | some o =>
      by_cases z : t ∈ d.mut
      · rcases hC1.soft t z with e | ⟨xs, e⟩ | ⟨C, dx, fs, e⟩
        · exact absurd e (fun _ => hC1.newMut ht z)
        · rw [ht] at e; cases e
        · rw [ht] at e; cases e
      · rw [f1' t o hh z] at ht
        cases ht
end

end Su
namespace Su
/-! ### bids, and the draw -/
def covB (M : CirM) (i : Nat) (t : Int) : Bool := match M.seats[i]? with | some s => decide (s.pledge ≥ M.stake * ((M.seats.length : Int) - t)) | none => false
def cntM (M : CirM) (bids : List Int) : List Nat := if M.bid = true then M.line.filter fun i => decide (bids.getD i 0 > 0) && covB M i M.opn else []
def bidAt (l : List Nat) (bids : List Int) (j : Nat) : Int := bids.getD (l.getD j 0) 0
def bestM (M : CirM) (bids : List Int) : Nat × Int :=
  if cntM M bids = [] then (M.line.getD 0 0, 0)
  else ((cntM M bids).getD (argBest (fun i j => decide (bidAt (cntM M bids) bids j < bidAt (cntM M bids) bids i)) ((cntM M bids).length - 1)) 0,
    bids.getD ((cntM M bids).getD (argBest (fun i j => decide (bidAt (cntM M bids) bids j < bidAt (cntM M bids) bids i)) ((cntM M bids).length - 1)) 0) 0)
def othM (l : List Nat) (w : Nat) : List Nat := l.filter fun i => !decide (i = w)
def shareM (b : Int) (o : List Nat) : Int := if o = [] then 0 else b / (o.length : Int)
def drawM (M : CirM) (l : List Nat) (bids : List Int) : CirM :=
  ((({ M with chest := M.chest - potM M } : CirM).leave (bestM M bids).1 .d).up (fun k s => if k = (bestM M bids).1 then { s with drawn := potM M - shareM (bestM M bids).2 (othM l (bestM M bids).1) * ((othM l (bestM M bids).1).length : Int) } else s)).up (gl (fun s => { s with shared := s.shared + shareM (bestM M bids).2 (othM l (bestM M bids).1) }) (othM l (bestM M bids).1))
section
variable {P : Program} {w : World} {K : PySem.W.Frag} {mg : Str → Option Value} {base : Heap} {H : Hp} {d : CirD} {M : CirM}
def spCov : Sp := fun vs H Q _ => ∃ st n pl t : Int, vs = [.int st, .int n, .int pl, .int t] ∧ -100000 ≤ n - t ∧ n - t ≤ 100000 ∧ ∀ H', Ex H H' → Q (.bl (decide (pl ≥ st * (n - t)))) H'
theorem ok_is_covered (T : Top K mg) {k : Nat} : FnOk P w K mg base CX0 (k + 1) T.f_is_covered T.fd_is_covered ["stake", "seats", "pledge", "turn"] spCov := by
  have nd := sc_is_covered.nd
  refine T.F_is_covered.ok sc_is_covered (fun vs H Q E h => ?_) (fun cdv A outer s H vs Q E hr h => ?_)
  · obtain ⟨st, n, pl, t, rfl, _⟩ := h
    rfl
  · obtain ⟨st, n, pl, t, rfl, h1, h2, q⟩ := h
    refine ⟨_, (pss_one (ps_ret (pe_cmpR op_ge (pv 2) (pe_op op_mul (pv 0) (pe_op op_sub (pv 1) (pv 3))) (nomark _)))), ?_⟩
    exact s_ret (ev_op (ev_var rfl) (ev_op (ev_var rfl) (ev_op (ev_var rfl) (ev_var rfl) rv_I0) (Su.rv_mul (Su.CMul.r (by omega) (by omega)))) rv_I0) fun H1 e1 => q H1 e1
def spCovers (C S : Addr) : Sp := fun vs H Q _ => ∃ (d : CirD) (M : CirM) (i : Nat) (t : Int), vs = [.ref d.c, .int (i : Int), .int t] ∧ CirAt C S H d M ∧ i < M.seats.length ∧ M.seats.length ≤ 1000 ∧ -10000 ≤ t ∧ t ≤ 10000 ∧ ∀ H', Ex H H' → Q (.bl (covB M i t)) H'
theorem spV_covers {C S : Addr} {i : Nat} {t : Int} (h : CirAt C S H d M) (hi : i < M.seats.length) (hn : M.seats.length ≤ 1000) (t1 : -10000 ≤ t) (t2 : t ≤ 10000) : SpV (spCovers C S) [.ref d.c, .int (i : Int), .int t] H (.bl (covB M i t)) := fun H1 e Q q _ => ⟨d, M, i, t, rfl, h.ex e, hi, hn, t1, t2, q⟩
theorem ok_Circle_covers (T : Top K mg) {k : Nat} : FnOk P w K mg base CX0 (k + 2) T.f_Circle_covers T.fd_Circle_covers ["self", "at", "turn"] (spCovers T.f_Circle T.f_Seat) := by
  have nd := sc_Circle_covers.nd
  have G_is_covered := ok_is_covered (P := P) (w := w) (base := base) T (k := 0)
  refine T.F_Circle_covers.ok sc_Circle_covers (fun vs H Q E h => ?_) (fun cdv A outer s H vs Q E hr h => ?_)
  · obtain ⟨d, M, i, t, rfl, _⟩ := h
    rfl
  · obtain ⟨d, M, i, t, rfl, hC, hi, hn, t1, t2, q⟩ := h
    refine ⟨_, (pss_one (ps_ret (pe_call G_is_covered (hr.mono (by omega)) (by rfl) T.m_is_covered T.F_is_covered.kp T.b_is_covered .nil pass0 (pa_cons (pe_fldK (K := K) rfl (pv 0) rfl) (pa_cons (pe_callB call_len_seq (by rfl) T.m_len PySem.boot_len (pa_cons (pe_fldK (K := K) rfl (pv 0) rfl) pa_nil)) (pa_cons (pe_fldK (K := K) rfl (pe_ix ix_list (pe_fldK (K := K) rfl (pv 0) rfl) (pv 1) (fun _ _ => rfl)) rfl) (pa_cons (pv 2) pa_nil))))))), ?_⟩
    obtain ⟨s, hs⟩ := seat_at hi
    obtain ⟨x, hx, hxs⟩ := hC.both hs
    refine s_ret (v := .bl (covB M i t)) ?_ fun H1 e1 => q H1 e1
    unfold covB
    rw [hs]
    exact ev_call (ea_cons (T.c_stake hC (ev_var rfl)) (ea_cons (T.c_len hC (ev_var rfl)) (ea_cons (T.s_pledge hxs (ev_op (T.c_seats hC (ev_var rfl)) (ev_var rfl) (rv_ixL (sq_of hC.hs) (atI_nat (srefs_at hx))))) (ea_cons (ev_var rfl) ea_nil)))) (fun H1 e Q q _ => ⟨M.stake, M.seats.length, s.pledge, t, rfl, by omega, by omega, q⟩)
theorem q_maxI {T : List (Addr × Str)} {N : List Str} {js : List Nat} {te tb : TE} {σ : L2.St} {H : Hp} {i : Nat} {D : Ends} {tz : TS} {l : Addr} {xs : List V} (ks : Nat → Int) (h : Ev te σ H (.ref l)) (hl : H l = some (.lst xs)) (hpos : 0 < xs.length) (hT : LamX.Tabs T H)
    (hk : ∀ Hf, (∀ b o, H b = some o → (∀ ps, o ≠ .tbl ps) → b ≠ l → Hf b = some o) → ∀ i x, xs[i]? = some x → Ev tb (NdefX.startF N [x] (js.map (NdefX.slotAt σ))) Hf (.int (ks i)))
    (k : ∀ H3 y, LamX.ExtN H H3 → LamX.Tabs T H3 → xs[argBest (fun i j => decide (ks j < ks i)) (xs.length - 1)]? = some y → tz D (σ.set i (some y)) H3) : tSeq (tAsg (tMaxI T N js te tb) (gName i)) tz D σ H :=
  h H (Ex.refl H) _ fun H1 e1 => ⟨l, xs, ks, rfl, e1 _ _ hl, hpos, hT.ext e1, fun od H2 eN T2 => ⟨fun j x hx => hk (upd H2 l (.frz od (.lst xs))) (fun b o hb hn hne => by
    rw [upd_ne hne]
    exact eN b o (e1 b o hb) hn) j x hx, fun H3 y e3 hy => k H3 y (((exN_of e1).trans eN).trans (exN_of e3)) (T2.ext e3) hy⟩⟩
def spBest (C S : Addr) (T : List (Addr × Str)) : Sp := fun vs H Q _ => ∃ (d : CirD) (M : CirM) (b : Addr) (bids : List Int), vs = [.ref d.c, .ref b] ∧ CirAt C S H d M ∧ H b = some (.lst (bids.map V.int)) ∧ bids.length = M.seats.length ∧ M.seats.length ≤ 1000 ∧ M.line ≠ [] ∧ M.line.length ≤ 1000 ∧ (∀ i ∈ M.line, i < M.seats.length) ∧ -10000 ≤ M.opn ∧ M.opn ≤ 10000 ∧ LamX.Tabs T H ∧
  ∀ H' t, LamX.ExtN H H' → LamX.Tabs T H' → H' t = some (.tup [.int ((bestM M bids).1 : Nat), .int (bestM M bids).2]) → Q (.ref t) H'
theorem int_nat {bids : List Int} {i : Nat} (h : i < bids.length) : (bids.map V.int)[i]? = some (.int (bids.getD i 0)) := by
  rw [List.getElem?_map, List.getElem?_eq_getElem h, List.getD_eq_getElem?_getD, List.getElem?_eq_getElem h]
  rfl
theorem ok_Circle_best_bid (T : Top K mg) (TB_Circle_best_bid : LamX.TabB base mg T.c_Circle_best_bid T.P_Circle_best_bid) : FnOk P w K mg base CX0 3 T.f_Circle_best_bid T.fd_Circle_best_bid ["self", "bids"] (spBest T.f_Circle T.f_Seat T.tabs) := by
  have nd := sc_Circle_best_bid.nd
  have G_Circle_covers := ok_Circle_covers (P := P) (w := w) (base := base) T (k := 0)
  refine T.C_Circle_best_bid.ok sc_Circle_best_bid (fun vs H Q E h => ?_) (fun A outer s H vs Q E hr h => ?_)
  · obtain ⟨d, M, b, bids, rfl, _⟩ := h
    rfl
  · obtain ⟨d, M, b, bids, rfl, hC, hb, hbl, hn, hne, hll, hlt, o1, o2, hT, q⟩ := h
    refine ⟨_, (pss_cons (ps_set (i := 2) nd rfl (.inl rfl) (pe_lst pa_nil))
      (pss_cut (ps_if (pt_val (pe_fldK (K := K) rfl (pv 0) rfl))
        (pss_one (ps_setLc (i := 2) (own := [("at", 4)]) (g := gName 4) (tt := _) rfl nd rfl rfl (sw_true rfl rfl rfl (by decide +kernel)) (pi_list (pe_fldK (K := K) rfl (pv 0) rfl)) (blkOk_by (own := [("at", 4)]) (N := Su.N_Circle_best_bid) (sc := defScope s_Circle_best_bid) (by decide +kernel)) (fun _ _ _ _ _ => (pg_name (i := 4) nd rfl (.inl rfl))) (fun _ _ _ _ _ => (pts_one (PW.pt (pw_and (pt_cmpR op_gt (pe_ix (ix_listK (K := K) rfl) (pv 1) (pv 4) (fun _ _ => rfl)) pe_int (nomark _)) (pw_and1 (pt_val (pe_meth (pv 0) T.cl_Circle T.mt_Circle_covers G_Circle_covers (hr.mono (by omega)) T.b_Circle_covers .nil pass0 (pa_cons (pv 4) (pa_cons (pe_fldK (K := K) rfl (pv 0) rfl) pa_nil))))))))) (fun _ _ _ _ _ => (pv 4))))
        pss_nil)
      (pss_cons (ps_if (pt_not (pt_truth (pv 2) (fun _ => rfl)))
        (pss_one (ps_ret (pe_tup (pa_cons (pe_ix ix_list (pe_fldK (K := K) rfl (pv 0) rfl) pe_int (fun _ _ => rfl)) (pa_cons pe_int pa_nil)))))
        pss_nil)
      (pss_cons (ps_set (i := 3) nd rfl (.inl rfl) (pe_maxI (T := T.tabs) (c := T.c_Circle_best_bid) (P := T.P_Circle_best_bid) (k := 0) (kx := "k") (N := ["k", "bids"]) (fr := ["bids"]) (js := [1]) TB_Circle_best_bid rfl T.hm_Circle_best_bid T.hu_Circle_best_bid (by rfl) T.m_max (hr.mono (by decide)) (pa_cons (pv 2) pa_nil) (NdefX.nscope_by (by decide +kernel)) (by rfl) (by rfl) (fun f c' s H hr2 => (pe_ix (ix_listK (K := K) rfl) (pv 1) (pv 0) (fun _ _ => rfl)))))
      (pss_one (ps_ret (pe_tup (pa_cons (pv 3) (pa_cons (pe_ix ix_list (pv 1) (pv 3) (fun _ _ => rfl)) pa_nil))))))))), ?_⟩
    refine q_asgL (el_lst ea_nil (by decide)) fun p H1 hp e1 h1 => ?_
    refine q_cut (M := fun σ' H' => ∃ (p : Addr) (y4 : Option V), σ' = [some (.ref d.c), some (.ref b), some (.ref p), none, y4] ∧ Ex H H' ∧ H' p = some (.lst ((natI (cntM M bids)).map V.int)) ∧ p ≠ b) ?_ ?_
    · refine s_when (b := M.bid) (et_B (T.c_bidding (hC.ex e1) (ev_var rfl))) (fun hb1 H2 e2 => ?_) (fun hb0 H2 e2 => ?_)
      · have e12 := e1.trans e2
        refine s_asgL (xs := (natI (cntM M bids)).map V.int) ?_ fun p2 H3 hp2 e3 h3 => ⟨p2, _, rfl, e12.trans e3, h3, fun z => by rw [z, e12 _ _ hb] at hp2; cases hp2⟩
        unfold cntM
        rw [if_pos hb1, natI_int, ← nat_given, show M.line.length = ((natI M.line).map V.int).length by rw [List.length_map, natI_len]]
        refine el_lcL _ _ (T.c_line (hC.ex e12) (ev_var rfl)) (sq_of (hC.ex e12).hl) (by rw [List.length_map, natI_len]; omega) (fun x => rfl) (fun j x Hb eb gx => ?_) (fun j x Hb eb gx _ => ?_)
        · obtain ⟨a, rfl, ga, ea⟩ := nat_at gx
          have ha := hlt a (List.mem_of_getElem? ga)
          have hCb := (hC.ex e12).ex eb
          rw [ea]
          exact et_and (et_test (ev_op (ev_op (ev_var rfl) (ev_var rfl) (rv_ixL (sq_of ((e12.trans eb) _ _ hb)) (atI_nat (int_nat (by omega))))) ev_c rv_I0)) fun _ => et_B (ev_meth (ev_var rfl) hCb.hc c_no (ea_cons (ev_var rfl) (ea_cons (T.c_open_round hCb (ev_var rfl)) ea_nil)) (spV_covers hCb ha hn (by omega) (by omega)))
        · obtain ⟨a, rfl, ga, ea⟩ := nat_at gx
          rw [ea]
          exact ev_var rfl
      · refine ⟨p, _, rfl, e1.trans e2, ?_, fun z => by rw [z, hb] at hp; cases hp⟩
        unfold cntM
        rw [if_neg (by rw [hb0]; exact Bool.false_ne_true)]
        exact e2 _ _ h1
    · clear h1 hp e1 p
      rintro _ H2 ⟨p, y4, rfl, ex, hp2, npb⟩
      have hC2 := hC.ex ex
      have hcl : ((natI (cntM M bids)).map V.int).length = (cntM M bids).length := by rw [List.length_map, natI_len]
      refine q_when (et_not (tru_l (K := K) (ev_var rfl) hp2)) (fun hz H3 e3 => ?_) (fun hz H3 e3 => ?_)
      · have em : cntM M bids = [] := by
          cases hc : cntM M bids with
          | nil => rfl
          | cons x xs => rw [hc] at hz; cases hz
        have hC3 := hC2.ex e3
        obtain ⟨i0, hi0⟩ : ∃ i0, M.line[0]? = some i0 := ⟨_, List.getElem?_eq_getElem (List.length_pos_iff.mpr hne)⟩
        refine s_retU (eu_tup (vs := [.int ((M.line.getD 0 0 : Nat) : Int), .int 0]) (ea_cons (ev_op (T.c_line hC3 (ev_var rfl)) ev_c (rv_ixL (sq_of hC3.hl) (at_of (show (0 : Int) = ((0 : Nat) : Int) from rfl) ?_))) (ea_cons ev_c ea_nil)) (by show 2 ≤ 100000; decide)) fun t H4 ht e4 h4 => ?_
        · unfold natI
          rw [List.map_map, List.getElem?_map, hi0, List.getD_eq_getElem?_getD, hi0]
          rfl
        · refine q H4 t (exN_of ((ex.trans e3).trans e4)) (hT.ext ((ex.trans e3).trans e4)) ?_
          unfold bestM
          rw [if_pos em]
          exact h4
      · have ne : cntM M bids ≠ [] := fun z => by rw [z] at hz; cases hz
        have hpos : 0 < (cntM M bids).length := List.length_pos_iff.mpr ne
        have hin : ∀ i ∈ cntM M bids, i < bids.length := fun i hi => by
          unfold cntM at hi
          split at hi
          · rw [hbl]; exact hlt i (List.mem_filter.mp hi).1
          · exact absurd hi List.not_mem_nil
        have e03 := ex.trans e3
        refine q_maxI (bidAt (cntM M bids) bids) (ev_var rfl) (e3 _ _ hp2) (by rw [hcl]; exact hpos) (hT.ext e03) (fun Hf hHf j x gx => ?_) fun H4 y e4 T4 hy => ?_
        · obtain ⟨a, rfl, ga, ea⟩ := nat_at gx
          have hbf := hHf _ _ (e03 _ _ hb) (fun _ z => nomatch z) npb.symm
          unfold bidAt
          rw [ea]
          exact ev_op (ev_var rfl) (ev_var rfl) (rv_ixL (sq_of hbf) (atI_nat (int_nat (hin a (List.mem_of_getElem? ga)))))
        · rw [hcl] at hy
          obtain ⟨a, rfl, ga, ea⟩ := nat_at hy
          have hb4 := exN_l e4 (e03 _ _ hb)
          refine s_retU (eu_tup (vs := [.int (a : Int), .int (bids.getD a 0)]) (ea_cons (ev_var rfl) (ea_cons (ev_op (ev_var rfl) (ev_var rfl) (rv_ixL (sq_of hb4) (atI_nat (int_nat (hin a (List.mem_of_getElem? ga)))))) ea_nil)) (by show 2 ≤ 100000; decide)) fun t H5 ht e5 h5 => ?_
          refine q H5 t (((exN_of e03).trans e4).trans (exN_of e5)) (T4.ext e5) ?_
          unfold bestM
          rw [if_neg ne, ea]
          exact h5
end

end Su
namespace Su
/-! ### the draw -/
theorem best_in {M : CirM} {bids : List Int} (hne : M.line ≠ []) : (bestM M bids).1 ∈ M.line := by
  unfold bestM
  split
  · obtain ⟨x, xs, e⟩ := List.exists_cons_of_ne_nil hne
    rw [e]
    exact List.mem_cons_self
  · rename_i h
    show (cntM M bids).getD _ 0 ∈ M.line
    have hpos := List.length_pos_iff.mpr h
    have hle := (arg_max (bidAt (cntM M bids) bids) ((cntM M bids).length - 1)).2
    generalize argBest (fun i j => decide (bidAt (cntM M bids) bids j < bidAt (cntM M bids) bids i)) ((cntM M bids).length - 1) = g at hle
    have hm : (cntM M bids).getD g 0 ∈ cntM M bids := by
      rw [List.getD_eq_getElem?_getD, List.getElem?_eq_getElem (by omega)]
      exact List.getElem_mem _
    generalize (cntM M bids).getD g 0 = y at hm
    unfold cntM at hm
    split at hm
    · exact (List.mem_filter.mp hm).1
    · exact absurd hm List.not_mem_nil
section
variable {P : Program} {w : World} {K : PySem.W.Frag} {mg : Str → Option Value} {base : Heap} {H : Hp} {d : CirD} {M : CirM}
theorem tru_e {te : TE} {σ : L2.St} {p : Addr} {l : List Nat} (h : Ev te σ H (.ref p)) (hl : H p = some (.lst ((natI l).map V.int))) : EvT (fun σ H Q => te σ H fun x H' => ∃ k, TruV K x H' k ∧ Q k H') σ H (!decide (l = [])) := by
  have := tru_l (K := K) h hl
  have e : (!((natI l).map V.int).isEmpty) = !decide (l = []) := by cases l <;> rfl
  rw [e] at this
  exact this
def spDraw (C S : Addr) (T : List (Addr × Str)) : Sp := fun vs H Q _ => ∃ (d : CirD) (M : CirM) (p b : Addr) (l : List Nat) (bids : List Int), vs = [.ref d.c, .ref p, .ref b] ∧ CirAt C S H d M ∧ H p = some (.lst ((natI l).map V.int)) ∧ p ∉ d.mut ∧ l.Nodup ∧ (∀ i ∈ l, i < M.seats.length) ∧ l.length ≤ 1000 ∧ H b = some (.lst (bids.map V.int)) ∧ bids.length = M.seats.length ∧ M.seats.length ≤ 1000 ∧ M.line ≠ [] ∧ M.line.Nodup ∧ M.line.length ≤ 1000 ∧ (∀ i ∈ M.line, i < M.seats.length) ∧ -10000 ≤ M.opn ∧ M.opn ≤ 10000 ∧ LamX.Tabs T H ∧
  ∀ H' t, Nw H t → Fr d.mut H H' → LamX.Tabs T H' → CirAt C S H' d (drawM M l bids) → H' t = some (.tup [.str "draw", .int ((bestM M bids).1 : Nat), .int (potM M - shareM (bestM M bids).2 (othM l (bestM M bids).1) * ((othM l (bestM M bids).1).length : Int)), .int (shareM (bestM M bids).2 (othM l (bestM M bids).1))]) → Q (.ref t) H'
set_option maxHeartbeats 4000000 in
theorem ok_Circle_draw (T : Top K mg) (TB : LamX.TabB base mg T.c_Circle_best_bid T.P_Circle_best_bid) : FnOk P w K mg base CX0 4 T.f_Circle_draw T.fd_Circle_draw ["self", "payers", "bids"] (spDraw T.f_Circle T.f_Seat T.tabs) := by
  have nd := sc_Circle_draw.nd
  have G_Circle_best_bid := ok_Circle_best_bid (P := P) (w := w) (base := base) T TB
  have G_Circle_pot := ok_Circle_pot (P := P) (w := w) (base := base) T (k := 0)
  have G_Circle_leave_queue := ok_Circle_leave_queue (P := P) (w := w) (base := base) T (k := 0)
  have G_Circle_seats_of := ok_Circle_seats_of (P := P) (w := w) (base := base) T (k := 0)
  refine T.F_Circle_draw.ok sc_Circle_draw (fun vs H Q E h => ?_) (fun cdv A outer s H vs Q E hr h => ?_)
  · obtain ⟨d, M, p, b, l, bids, rfl, _⟩ := h
    rfl
  · obtain ⟨d, M, p, b, l, bids, rfl, hC, hp, hpm, hln, hli, hll, hb, hbl, hn, hne, hnd, hlle, hlt, o1, o2, hT, q⟩ := h
    refine ⟨_, (pss_cons (ps_asg (pe_meth (pv 0) T.cl_Circle T.mt_Circle_best_bid G_Circle_best_bid (hr.mono (by omega)) T.b_Circle_best_bid .nil pass0 (pa_cons (pv 2) pa_nil)) (pg_tup rfl (pgs_cons (pg_name (i := 3) nd rfl (.inr rfl)) (pgs_cons (pg_name (i := 4) nd rfl (.inl rfl)) pgs_nil))))
      (pss_cons (ps_setLc (i := 5) (own := [("at", 10)]) (g := gName 10) (tt := _) rfl nd rfl rfl (sw_true rfl rfl rfl (by decide +kernel)) (pi_list (pv 1)) (blkOk_by (own := [("at", 10)]) (N := Su.N_Circle_draw) (sc := defScope s_Circle_draw) (by decide +kernel)) (fun _ _ _ _ _ => (pg_name (i := 10) nd rfl (.inl rfl))) (fun _ _ _ _ _ => (pts_one (pt_cmpR op_ne (pv 10) (pv 3) (nomark _)))) (fun _ _ _ _ _ => (pv 10)))
      (pss_cons (ps_set (i := 6) nd rfl (.inl rfl) (pe_ifExp (pt_truth (pv 5) (fun _ => rfl)) (pe_op op_fdiv (pv 4) (pe_callB call_len_seq (by rfl) T.m_len PySem.boot_len (pa_cons (pv 5) pa_nil))) pe_int))
      (pss_cons (ps_set (i := 7) nd rfl (.inl rfl) (pe_op op_sub (pe_meth0 (pv 0) T.cl_Circle T.mt_Circle_pot G_Circle_pot (hr.mono (by omega)) T.b_Circle_pot .nil pass0 ) (pe_op op_mul (pv 6) (pe_callB call_len_seq (by rfl) T.m_len PySem.boot_len (pa_cons (pv 5) pa_nil)))))
      (pss_cons (ps_fldaugK (K := K) rfl (pv 0) (pe_meth0 (pv 0) T.cl_Circle T.mt_Circle_pot G_Circle_pot (hr.mono (by omega)) T.b_Circle_pot .nil pass0 ) in_sub)
      (pss_cons (ps_expr (pe_meth (pv 0) T.cl_Circle T.mt_Circle_leave_queue G_Circle_leave_queue (hr.mono (by omega)) T.b_Circle_leave_queue .nil pass0 (pa_cons (pv 3) (pa_cons (pe_glob (v := .str "drew") (by rfl) T.m_DREW ⟨_, rfl⟩) pa_nil))))
      (pss_cons (ps_set (i := 8) nd rfl (.inl rfl) (pe_ix ix_list (pe_fldK (K := K) rfl (pv 0) rfl) (pv 3) (fun _ _ => rfl)))
      (pss_cons (ps_fldK (K := K) rfl (pv 8) (pv 7) rfl)
      (pss_cons (ps_for PassesOwn.never rfl (pi_list (pe_meth (pv 0) T.cl_Circle T.mt_Circle_seats_of G_Circle_seats_of (hr.mono (by omega)) T.b_Circle_seats_of .nil pass0 (pa_cons (pv 5) pa_nil))) (pg_name (i := 9) nd rfl (.inl rfl))
        (pss_one (ps_fldaugK (K := K) rfl (pv 9) (pv 6) in_add)))
      (pss_one (ps_ret (pe_tup (pa_cons pe_str (pa_cons (pv 3) (pa_cons (pv 7) (pa_cons (pv 6) pa_nil)))))))))))))))), ?_⟩
    refine q_asgXg (te_meth (ev_var rfl) hC.hc c_no (ea_cons (ev_var rfl) ea_nil) fun H1 e1 => ?_)
    refine ⟨d, M, b, bids, rfl, hC.ex e1, e1 _ _ hb, hbl, hn, hne, hlle, hlt, o1, o2, hT.ext e1, fun H2 t0 e2 T2 ht0 => ?_⟩
    refine tg_two (K := K) (st_of ht0) tg_name tg_name H2 (Ex.refl _) _ ?_
    have eN2 := (exN_of e1).trans e2
    have hC2 := hC.exN eN2
    have hp2 := exN_l eN2 hp
    have hwm := best_in (bids := bids) hne
    unfold drawM at q
    generalize hbe : bestM M bids = be at q hwm ⊢
    obtain ⟨wn, bd⟩ := be
    have hwm : wn ∈ M.line := hwm
    have hwl := hlt wn hwm
    have q : ∀ H' t, Nw H t → Fr d.mut H H' → LamX.Tabs T.tabs H' → CirAt T.f_Circle T.f_Seat H' d ((((({ M with chest := M.chest - potM M } : CirM).leave wn .d).up (fun k s => if k = wn then { s with drawn := potM M - shareM bd (othM l wn) * ((othM l wn).length : Int) } else s)).up (gl (fun s => { s with shared := s.shared + shareM bd (othM l wn) }) (othM l wn)))) → H' t = some (.tup [.str "draw", .int (wn : Int), .int (potM M - shareM bd (othM l wn) * ((othM l wn).length : Int)), .int (shareM bd (othM l wn))]) → Q (.ref t) H' := q
    show tSeq _ _ _ [some (.ref d.c), some (.ref p), some (.ref b), some (.int (wn : Int)), some (.int bd), none, none, none, none, none, none] H2
    clear ht0 e2 hbe
    have hol : (othM l wn).length ≤ 1000 := Nat.le_trans (List.length_filter_le _ _) hll
    refine q_asgL (xs := (natI (othM l wn)).map V.int) ?_ fun po H3 hpo e3 hpo3 => ?_
    · unfold othM
      rw [natI_int, ← nat_given, show l.length = ((natI l).map V.int).length by rw [List.length_map, natI_len]]
      refine el_lcL _ _ (ev_var rfl) (sq_of hp2) (by rw [List.length_map, natI_len]; omega) (fun x => rfl) (fun j x Hb eb gx => ?_) (fun j x Hb eb gx _ => ?_)
      · obtain ⟨a, rfl, ga, ea⟩ := nat_at gx
        rw [ea]
        exact et_is (et_test (ev_op (ev_var rfl) (ev_var rfl) (rv_ne rfl))) (congrArg (fun b => !b) nat_eqd)
      · obtain ⟨a, rfl, ga, ea⟩ := nat_at gx
        rw [ea]
        exact ev_var rfl
    have hC3 := hC2.ex e3
    have hpom := hC2.newMut hpo
    have hlo : ((natI (othM l wn)).map V.int).length = (othM l wn).length := by rw [List.length_map, natI_len]
    have sh : shareM bd (othM l wn) = if (!decide (othM l wn = [])) = true then bd / ((othM l wn).length : Int) else 0 := by
      unfold shareM
      by_cases z : othM l wn = []
      · rw [if_pos z, decide_eq_true z]
        rfl
      · rw [if_neg z, decide_eq_false z]
        rfl
    refine q_asg (v := .int (shareM bd (othM l wn))) (ev_if (tru_e (ev_var rfl) hpo3) (fun hz => ?_) (fun hz => ?_)) fun H4 e4 => ?_
    · have hne' : othM l wn ≠ [] := fun z => by rw [decide_eq_true z] at hz; cases hz
      have hpos := List.length_pos_iff.mpr hne'
      exact ev_is (ev_op (ev_var rfl) (ev_is (ev_len (ev_var rfl) (sq_of hpo3)) (by rw [hlo])) (Su.rv_div (by omega) (by omega))) (by rw [sh, if_pos hz])
    · exact ev_is ev_c (by rw [sh, if_neg (by rw [hz]; exact Bool.false_ne_true)])
    clear sh
    generalize shareM bd (othM l wn) = shr at q ⊢
    have hC4 := hC3.ex e4
    have pot : ∀ {H'' : Hp} {σ : L2.St} {M' : CirM}, CirAt T.f_Circle T.f_Seat H'' d M' → M'.seats.length ≤ 1000 → σ[0]? = some (some (.ref d.c)) → Ev (tMeth T.f_Circle "pot" (spObs T.f_Circle T.f_Seat fun M => .int (potM M)) [] E0 (tVar 0) tNil) σ H'' (.int (potM M')) := fun h hn h0 => ev_meth (ev_var h0) h.hc c_no ea_nil (spV_obs (g := fun M => .int (potM M)) h hn)
    refine q_asg (v := .int (potM M - shr * ((othM l wn).length : Int))) (ev_op (pot hC4 hn rfl) (ev_op (ev_var rfl) (ev_is (ev_len (ev_var rfl) (sq_of (e4 _ _ hpo3))) (by rw [hlo])) (Su.rv_mul (Su.CMul.r (by omega) (by omega)))) rv_I0) fun H5 e5 => ?_
    have e45 := e4.trans e5
    have hC5 := hC3.ex e45
    have hpo5 := e45 _ _ hpo3
    generalize potM M - shr * ((othM l wn).length : Int) = co at q ⊢
    refine q_cfA (k := 8) hC5 (ev_var rfl) T.cl_Circle T.na_Circle_chest rfl rfl (pot hC5 hn rfl) (z := .int (M.chest - potM M)) (fun H1 Q hq => ⟨_, _, rfl, rfl, hq⟩) fun H6 f6 h6 => ?_
    have hC6 := hC5.self (o := M.opn) (r := M.rests) (b := M.chest - potM M) h6 f6
    have f6' := f6.mono (one_mut (CirD.mut_c (d := d)))
    refine q_dropX (te_meth (ev_var rfl) hC6.hc c_no (ea_cons (ev_var rfl) (ea_cons ev_c ea_nil)) fun H7 e7 => ?_)
    refine ⟨d, _, wn, .d, rfl, hC6.ex e7, hwl, hwm, fun H8 f8 hC8 => ?_⟩
    have f58 := (f6'.trans (ExF.ex e7)).trans f8
    obtain ⟨s8, hs8⟩ : ∃ s8, (CirM.leave { M with chest := M.chest - potM M } wn .d).seats[wn]? = some s8 := seat_at (by show wn < ((CirM.up _ _)).seats.length; rw [up_len]; exact hwl)
    obtain ⟨x, hx, hxs⟩ := hC8.both hs8
    refine q_asg (ev_op (T.c_seats hC8 (ev_var rfl)) (ev_var rfl) (rv_ixL (sq_of hC8.hs) (atI_nat (srefs_at hx)))) fun H9 e9 => ?_
    have hC9 := hC8.ex e9
    refine q_sf (k := 4) (ev_var rfl) (ev_var rfl) (e9 _ _ hxs) T.cl_Seat T.na_Seat_drawn rfl (by show 4 < 7; decide) (by show 7 ≤ 7; decide) fun H10 f10 h10 => ?_
    have hC10 := hC9.seat (g := fun k s => if k = wn then { s with drawn := co } else s) (s' := { s8 with drawn := co }) hx hs8 (if_pos rfl) (fun k t hk _ => if_neg hk) h10 f10
    have f510 := (f58.trans (ExF.ex e9)).trans (f10.mono (one_mut (CirD.mut_s hx)))
    have hpo10 := f510.l hpo5 hpom
    have hM10 : ((CirM.leave { M with chest := M.chest - potM M } wn .d).up fun k s => if k = wn then { s with drawn := co } else s).seats.length = M.seats.length := by
      rw [up_len]
      show ((CirM.up _ _)).seats.length = _
      rw [up_len]
    generalize hMw : ((CirM.leave { M with chest := M.chest - potM M } wn .d).up fun k s => if k = wn then { s with drawn := co } else s) = M10 at q hC10 hM10
    have hoi : ∀ i ∈ othM l wn, i < M10.seats.length := fun i hi => by rw [hM10]; exact hli i (List.mem_filter.mp hi).1
    have hon : (othM l wn).Nodup := hln.filter _
    refine q_forNL (xs := (othM l wn).map fun i => V.ref (sadr d i)) (el_meth (ev_var rfl) hC10.hc c_no (ea_cons (ev_var rfl) ea_nil) (spL_seatsOf hC10 (sq_of hpo10) hol hoi)) (fun r j σ' H' => ∃ y8 y : Option V, σ' = [some (.ref d.c), some (.ref p), some (.ref b), some (.int (wn : Int)), some (.int bd), some (.ref po), some (.int shr), some (.int co), y8, y, none] ∧ r ∉ d.mut ∧ H' r = some (.lst ((othM l wn).map fun i => V.ref (sadr d i))) ∧ ExF d.mut H10 H' ∧ CirAt T.f_Circle T.f_Seat H' d (M10.up (gl (fun s => { s with shared := s.shared + shr }) ((othM l wn).take j)))) ?_ ?_ ?_ ?_
    · intro r H11 hr e11 h11
      refine ⟨_, _, rfl, hC10.newMut hr, h11, ExF.ex e11, ?_⟩
      rw [List.take_zero, up_nil]
      exact hC10.ex e11
    · rintro r j σ' H' _ ⟨y8, y, rfl, hrm, hr, _⟩
      exact sq_of hr
    · rintro r j x σ' H' gx ⟨y8, y, rfl, hrm, hr, f, hC'⟩
      rw [List.getElem?_map] at gx
      obtain ⟨a, ga, rfl⟩ := Option.map_eq_some_iff.mp gx
      have ha := hoi a (List.mem_of_getElem? ga)
      obtain ⟨s, hs⟩ := seat_at ha
      obtain ⟨x, hx⟩ := hC10.sat ha
      have hH := hC'.now hon ga hx hs
      rw [sadr_at hx]
      refine tg_name H' (Ex.refl _) _ ?_
      refine s_sfA (k := 5) (ev_var rfl) hH T.cl_Seat T.na_Seat_shared rfl rfl (by show 7 ≤ 7; decide) (ev_var rfl) (z := .int (s.shared + shr)) (fun H1 Q hq => ⟨_, _, rfl, rfl, hq⟩) fun H12 f12 h12 => ?_
      have f12' := f12.mono (one_mut (CirD.mut_s hx))
      exact ⟨_, _, rfl, hrm, f12'.l hr hrm, f.trans f12', hC'.step hon ga hx hs h12 f12⟩
    · rintro r σ' H' ⟨y8, y, rfl, hrm, hr, f, hC'⟩
      rw [List.length_map, List.take_length] at hC'
      refine s_retU (eu_tup (vs := [.str "draw", .int (wn : Int), .int co, .int shr]) (by walk_at "ea") (by show 4 ≤ 100000; decide)) fun t H13 ht e13 h13 => ?_
      have F2 : Fr d.mut H H' := ((Fr.exN eN2).trans (ExF.ex (e3.trans e45)).fr).trans ((f510.trans f).fr)
      refine q H13 t ?_ (F2.trans (Fr.ex e13)) ((tabs_exF (T2.ext (e3.trans e45)) (f510.trans f) hC5.soft).ext e13) (hC'.ex e13) h13
      intro o ho
      cases o with
      | tbl ps => exact ⟨ps, rfl⟩
      | _ =>
        exfalso
        by_cases z : t ∈ d.mut
        · exact hC'.newMut ht z
        · have := F2 t _ ho (fun _ z => nomatch z) z
          rw [ht] at this
          cases this
end

end Su
namespace Su
/-! ### a round is closed -/
structure Good (M : CirM) : Prop where
  n1 : 1 ≤ M.seats.length
  n2 : M.seats.length ≤ 100
  ln : M.line.Nodup
  lw : ∀ i, i ∈ M.line ↔ ∃ s, M.seats[i]? = some s ∧ s.st = .w
  o1 : 1 ≤ M.opn
  o2 : M.opn ≤ (M.seats.length : Int) + 1
  r0 : 0 ≤ M.rests
  cnt : (M.line.length : Int) + M.rests = (M.seats.length : Int) + 1 - M.opn
  ff : (M.flows.length : Int) = M.opn - 1
  fl : ∀ r ∈ M.flows, r.length = M.seats.length
def midM (M : CirM) (paid : List Bool) : CirM := collectM (chargeM (fallM M (unpM M .w paid)) (unpM M .d paid))
def payersM (M : CirM) (paid : List Bool) : List Nat := payM (chargeM (fallM M (unpM M .w paid)) (unpM M .d paid))
def drawsM (M : CirM) (paid : List Bool) : Bool := decide ((midM M paid).rests > 0)
def endM (M : CirM) (paid : List Bool) (bids : List Int) : CirM := if drawsM M paid = true then restM (midM M paid) else drawM (midM M paid) (payersM M paid) bids
def subL (a b : List Int) : List Int := (a.zip b).map fun x => x.1 - x.2
def closeM (M : CirM) (paid : List Bool) (bids : List Int) : CirM := { endM M paid bids with flows := (endM M paid bids).flows ++ [subL (standM (endM M paid bids)) (standM M)], opn := (endM M paid bids).opn + 1 }
/-- the middle of the report -/
def midR (M : CirM) (paid : List Bool) (bids : List Int) : Str × Int × Int × Int :=
  if drawsM M paid = true then ("box", -1, M.stake * ((payersM M paid).length : Int), 0)
  else ("draw", ((bestM (midM M paid) bids).1 : Nat), potM M - shareM (bestM (midM M paid) bids).2 (othM (payersM M paid) (bestM (midM M paid) bids).1) * ((othM (payersM M paid) (bestM (midM M paid) bids).1).length : Int), shareM (bestM (midM M paid) bids).2 (othM (payersM M paid) (bestM (midM M paid) bids).1))
theorem fall_len {M : CirM} {fs : List Nat} : (fallM M fs).seats.length = M.seats.length := up_len
theorem charge_len {M : CirM} {ps : List Nat} : (chargeM M ps).seats.length = M.seats.length := up_len
theorem collect_len {M : CirM} : (collectM M).seats.length = M.seats.length := up_len
theorem mid_len {M : CirM} {paid : List Bool} : (midM M paid).seats.length = M.seats.length := by unfold midM; rw [collect_len, charge_len, fall_len]
theorem leave_len {M : CirM} {i : Nat} {t : SSt} : (M.leave i t).seats.length = M.seats.length := up_len
theorem draw_len {M : CirM} {l : List Nat} {bids : List Int} : (drawM M l bids).seats.length = M.seats.length := by unfold drawM; rw [up_len, up_len, leave_len]
theorem end_len {M : CirM} {paid : List Bool} {bids : List Int} : (endM M paid bids).seats.length = M.seats.length := by
  unfold endM
  by_cases c : drawsM M paid = true
  · rw [if_pos c]
    have : (restM (midM M paid)).seats = (midM M paid).seats := rfl
    rw [this, mid_len]
  · rw [if_neg c, draw_len, mid_len]
theorem draw_flows {M : CirM} {l : List Nat} {bids : List Int} : (drawM M l bids).flows = M.flows := by unfold drawM; rfl
theorem draw_opn {M : CirM} {l : List Nat} {bids : List Int} : (drawM M l bids).opn = M.opn := by unfold drawM; rfl
theorem mid_flows {M : CirM} {paid : List Bool} : (midM M paid).flows = M.flows := by unfold midM; rfl
theorem mid_opn0 {M : CirM} {paid : List Bool} : (midM M paid).opn = M.opn := by unfold midM; rfl
theorem end_flows {M : CirM} {paid : List Bool} {bids : List Int} : (endM M paid bids).flows = M.flows := by
  unfold endM
  by_cases c : drawsM M paid = true
  · rw [if_pos c]
    have : (restM (midM M paid)).flows = (midM M paid).flows := rfl
    rw [this, mid_flows]
  · rw [if_neg c, draw_flows, mid_flows]
theorem end_opn {M : CirM} {paid : List Bool} {bids : List Int} : (endM M paid bids).opn = M.opn := by
  unfold endM
  by_cases c : drawsM M paid = true
  · rw [if_pos c]
    have : (restM (midM M paid)).opn = (midM M paid).opn := rfl
    rw [this, mid_opn0]
  · rw [if_neg c, draw_opn, mid_opn0]
theorem mid_pot {M : CirM} {paid : List Bool} : potM (midM M paid) = potM M := by
  unfold potM
  rw [mid_len]
  rfl
theorem new_fr {F : List Addr} {H H' : Hp} {t : Addr} (f : Fr F H H') (h : H' t = none) (hm : t ∉ F) : Nw H t := fun o ho => by
  cases o with
  | tbl ps => exact ⟨ps, rfl⟩
  | _ => rw [f t _ ho (fun _ z => nomatch z) hm] at h; cases h
theorem stand_len {M : CirM} : (standM M).length = M.seats.length := List.length_map _
theorem unp_in {M : CirM} {t : SSt} {paid : List Bool} {i : Nat} : i ∈ unpM M t paid ↔ ∃ s, M.seats[i]? = some s ∧ s.st = t ∧ paid.getD i false = false := by
  unfold unpM isUnp
  rw [List.mem_filter, List.mem_range]
  constructor
  · rintro ⟨h1, h2⟩
    obtain ⟨s, hs⟩ := seat_at h1
    rw [hs, Bool.and_eq_true] at h2
    exact ⟨s, hs, of_decide_eq_true h2.1, by simpa using h2.2⟩
  · rintro ⟨s, hs, h1, h2⟩
    refine ⟨(List.getElem?_eq_some_iff.mp hs).1, ?_⟩
    rw [hs, h2]
    show (decide (s.st = t) && _) = true
    rw [decide_eq_true h1]
    rfl
theorem mid_line {M : CirM} {paid : List Bool} : (midM M paid).line = M.line.filter fun i => !decide (i ∈ unpM M .w paid) := rfl
theorem mid_rests {M : CirM} {paid : List Bool} : (midM M paid).rests = M.rests + ((unpM M .w paid).length : Int) := rfl
theorem mid_opn {M : CirM} {paid : List Bool} : (midM M paid).opn = M.opn := rfl
theorem part_len {p : Nat → Bool} : ∀ l : List Nat, (l.filter p).length + (l.filter fun i => !p i).length = l.length
  | [] => rfl
  | a :: r => by
    have := part_len (p := p) r
    cases h : p a with
    | true => rw [List.filter_cons_of_pos h, List.filter_cons_of_neg (by rw [h]; simp)]; simp only [List.length_cons]; omega
    | false => rw [List.filter_cons_of_neg (by rw [h]; simp), List.filter_cons_of_pos (by rw [h]; rfl)]; simp only [List.length_cons]; omega
theorem Good.fallIn {M : CirM} (h : Good M) {paid : List Bool} {i : Nat} (hi : i ∈ unpM M .w paid) : i ∈ M.line ∧ i < M.seats.length := by
  obtain ⟨s, hs, h1, _⟩ := unp_in.mp hi
  exact ⟨(h.lw i).mpr ⟨s, hs, h1⟩, (List.getElem?_eq_some_iff.mp hs).1⟩
theorem perm_subN : ∀ {S T : List Nat}, S.Nodup → T.Nodup → (∀ x, x ∈ S ↔ x ∈ T) → S.Perm T := fun hs ht h => (List.perm_ext_iff_of_nodup hs ht).mpr h
theorem Good.midLen {M : CirM} (h : Good M) {paid : List Bool} : ((midM M paid).line.length : Int) + (unpM M .w paid).length = M.line.length := by
  have h1 := part_len (p := fun i => decide (i ∈ unpM M .w paid)) M.line
  have h2 : (M.line.filter fun i => decide (i ∈ unpM M .w paid)).Perm (unpM M .w paid) := perm_subN (h.ln.filter _) range_nd fun x => by
    rw [List.mem_filter]
    exact ⟨fun z => of_decide_eq_true z.2, fun z => ⟨(h.fallIn z).1, decide_eq_true z⟩⟩
  rw [h2.length_eq] at h1
  rw [mid_line]
  omega
theorem Good.midOk {M : CirM} (h : Good M) {paid : List Bool} : (midM M paid).line.Nodup ∧ (∀ i ∈ (midM M paid).line, i ∈ M.line ∧ i < M.seats.length) ∧ ((midM M paid).line.length : Int) + (midM M paid).rests = (M.seats.length : Int) + 1 - M.opn := by
  refine ⟨by rw [mid_line]; exact h.ln.filter _, fun i hi => ?_, ?_⟩
  · rw [mid_line] at hi
    have hm := (List.mem_filter.mp hi).1
    obtain ⟨s, hs, _⟩ := (h.lw i).mp hm
    exact ⟨hm, (List.getElem?_eq_some_iff.mp hs).1⟩
  · have := h.midLen (paid := paid)
    have := h.cnt
    rw [mid_rests]
    omega
section
variable {P : Program} {w : World} {K : PySem.W.Frag} {mg : Str → Option Value} {base : Heap} {H : Hp} {d : CirD} {M : CirM}
def spClose (C S : Addr) (T : List (Addr × Str)) : Sp := fun vs H Q _ => ∃ (d : CirD) (M : CirM) (p b : Addr) (paid : List Bool) (bids : List Int), vs = [.ref d.c, .ref p, .ref b] ∧ CirAt C S H d M ∧ Good M ∧ M.opn ≤ M.seats.length ∧ H p = some (.lst (paid.map V.bl)) ∧ p ∉ d.mut ∧ H b = some (.lst (bids.map V.int)) ∧ b ∉ d.mut ∧ paid.length = M.seats.length ∧ bids.length = M.seats.length ∧ (∀ z ∈ bids, 0 ≤ z ∧ z ≤ potM M) ∧ LamX.Tabs T H ∧
  ∀ H' d' t pf pg q, d' = { d with fl := d.fl ++ [q] } → Nw H q → Fr d.mut H H' → LamX.Tabs T H' → CirAt C S H' d' (closeM M paid bids) → H' t = some (.tup [.int M.opn, .str (midR M paid bids).1, .int (midR M paid bids).2.1, .int (midR M paid bids).2.2.1, .int (midR M paid bids).2.2.2, .ref pf, .ref pg]) → H' pf = some (.lst ((natI (unpM M .w paid)).map V.int)) → H' pg = some (.lst ((natI (unpM M .d paid)).map V.int)) → Nw H t → Nw H pf → Nw H pg → pf ≠ pg → pf ∉ d'.all → pg ∉ d'.all → Q (.ref t) H'
theorem el_lcZ1 {σ : L2.St} {t : TT} {te te1 te2 : TE} {g : TG} {vs : List Nat} {b : Addr} {xs ys : List V} (f : Nat → Bool) (v : Nat → V) (h1 : EvL te1 σ H xs) (h2 : Ev te2 σ H (.ref b)) (hy : SqL K H b ys) (hl : xs.length = ys.length) (hz : xs.length ≤ 40000)
    (hs : ∀ (i : Nat) (x y : V) T Hb, Ex H Hb → xs[i]? = some x → ys[i]? = some y → Hb T = some (.tup [x, y]) → ∃ σ2, Tgt g (.ref T) (wipe σ vs) σ2 Hb ∧ wipe σ2 vs = wipe σ vs ∧ EvT t σ2 Hb (f i) ∧ (f i = true → Ev te σ2 Hb (v i))) :
    EvL (tLc (RZ.iZipA K (tCons te1 (tCons te2 tNil))) g t te vs) σ H (given xs.length f v) := fun H0 e Q q =>
  h1 H0 e _ fun p H1 hp e1 hp1 => h2 H1 (e.trans e1) _ fun H2 e2 => by
    have e02 := e1.trans e2
    have := el_lcZ (K := K) (σ := σ) (H := H2) (t := t) (te := te) (g := g) (vs := vs) (a := p) (b := b) (xs := xs) (ys := ys) (ta := fun _ H Q => Q [.ref p, .ref b] H) f v (fun H1 _ Q q => q H1 (Ex.refl H1)) (sq_of (e2 _ _ hp1)) (ex_l (e.trans e02) hy) hl hz (fun i x y T Hb eb => hs i x y T Hb ((e.trans e02).trans eb))
    exact this H2 (Ex.refl H2) Q fun r H3 hr e3 h3 => q r H3 (fresh_back e02 hr) (e02.trans e3) h3
set_option maxHeartbeats 8000000 in
theorem ok_Circle_close (T : Top K mg) (TB : LamX.TabB base mg T.c_Circle_best_bid T.P_Circle_best_bid) : FnOk P w K mg base CX0 5 T.f_Circle_close T.fd_Circle_close ["self", "paid", "bids"] (spClose T.f_Circle T.f_Seat T.tabs) := by
  have nd := sc_Circle_close.nd
  have G_Circle_ended := ok_Circle_ended (P := P) (w := w) (base := base) T (k := 0)
  have G_Circle_refuse_lists := ok_Circle_refuse_lists (P := P) (w := w) (base := base) T (k := 0)
  have G_Circle_standings := ok_Circle_standings (P := P) (w := w) (base := base) T (k := 0)
  have G_Circle_unpaid := ok_Circle_unpaid (P := P) (w := w) (base := base) T (k := 0)
  have G_Circle_let_fall := ok_Circle_let_fall (P := P) (w := w) (base := base) T (k := 0)
  have G_Circle_charge_pledges := ok_Circle_charge_pledges (P := P) (w := w) (base := base) T (k := 0)
  have G_Circle_collect := ok_Circle_collect (P := P) (w := w) (base := base) T (k := 0)
  have G_Circle_rest := ok_Circle_rest (P := P) (w := w) (base := base) T (k := 0)
  have G_Circle_draw := ok_Circle_draw (P := P) (w := w) (base := base) T TB
  refine T.F_Circle_close.ok sc_Circle_close (fun vs H Q E h => ?_) (fun cdv A outer s H vs Q E hr h => ?_)
  · obtain ⟨d, M, p, b, paid, bids, rfl, _⟩ := h
    rfl
  · obtain ⟨d, M, p, b, paid, bids, rfl, hC, hG, hopn, hp, hpm, hb, hbm, hpl, hbl, hbb, hT, q⟩ := h
    refine ⟨_, (pss_cons (ps_if (pt_val (pe_meth0 (pv 0) T.cl_Circle T.mt_Circle_ended G_Circle_ended (hr.mono (by omega)) T.b_Circle_ended .nil pass0 ))
        (pss_one ps_never)
        pss_nil)
      (pss_cons (ps_expr (pe_meth (pv 0) T.cl_Circle T.mt_Circle_refuse_lists G_Circle_refuse_lists (hr.mono (by omega)) T.b_Circle_refuse_lists .nil pass0 (pa_cons (pv 1) (pa_cons (pv 2) pa_nil))))
      (pss_cons (ps_set (i := 3) nd rfl (.inl rfl) (pe_meth0 (pv 0) T.cl_Circle T.mt_Circle_standings G_Circle_standings (hr.mono (by omega)) T.b_Circle_standings .nil pass0 ))
      (pss_cons (ps_set (i := 4) nd rfl (.inl rfl) (pe_meth (pv 0) T.cl_Circle T.mt_Circle_unpaid G_Circle_unpaid (hr.mono (by omega)) T.b_Circle_unpaid .nil pass0 (pa_cons (pe_glob (v := .str "waits") (by rfl) T.m_WAITS ⟨_, rfl⟩) (pa_cons (pv 1) pa_nil))))
      (pss_cons (ps_set (i := 5) nd rfl (.inl rfl) (pe_meth (pv 0) T.cl_Circle T.mt_Circle_unpaid G_Circle_unpaid (hr.mono (by omega)) T.b_Circle_unpaid .nil pass0 (pa_cons (pe_glob (v := .str "drew") (by rfl) T.m_DREW ⟨_, rfl⟩) (pa_cons (pv 1) pa_nil))))
      (pss_cons (ps_expr (pe_meth (pv 0) T.cl_Circle T.mt_Circle_let_fall G_Circle_let_fall (hr.mono (by omega)) T.b_Circle_let_fall .nil pass0 (pa_cons (pv 4) pa_nil)))
      (pss_cons (ps_expr (pe_meth (pv 0) T.cl_Circle T.mt_Circle_charge_pledges G_Circle_charge_pledges (hr.mono (by omega)) T.b_Circle_charge_pledges .nil pass0 (pa_cons (pv 5) pa_nil)))
      (pss_cons (ps_set (i := 6) nd rfl (.inl rfl) (pe_meth0 (pv 0) T.cl_Circle T.mt_Circle_collect G_Circle_collect (hr.mono (by omega)) T.b_Circle_collect .nil pass0 ))
      (pss_cons (ps_set (i := 7) nd rfl (.inl rfl) (pe_ifExp (pt_cmpR op_gt (pe_fldK (K := K) rfl (pv 0) rfl) pe_int (nomark _)) (pe_meth (pv 0) T.cl_Circle T.mt_Circle_rest G_Circle_rest (hr.mono (by omega)) T.b_Circle_rest .nil pass0 (pa_cons (pv 6) pa_nil)) (pe_meth (pv 0) T.cl_Circle T.mt_Circle_draw G_Circle_draw (hr.mono (by omega)) T.b_Circle_draw .nil pass0 (pa_cons (pv 6) (pa_cons (pv 2) pa_nil)))))
      (pss_cons (ps_expr (pe_bm PySem.F.plainAttrs_list PySem.F.slot_list_append PySem.F.type_list_append mt_append (pe_fldK (K := K) rfl (pv 0) rfl) (pa_cons (pe_lc (own := [("now", 9), ("before", 10)]) (g := gTup K 2 (gCons (gName 9) (gCons (gName 10) gNil))) (tt := tYes) rfl nd (RZ.pi_zipA (by rfl) T.m_zip (pa_cons (pe_meth0 (pv 0) T.cl_Circle T.mt_Circle_standings G_Circle_standings (hr.mono (by omega)) T.b_Circle_standings .nil pass0 ) (pa_cons (pv 3) pa_nil))) (blkOk_by (own := [("now", 9), ("before", 10)]) (N := Su.N_Circle_close) (sc := defScope s_Circle_close) (by decide +kernel)) (fun _ _ _ _ _ => (pg_tup rfl (pgs_cons (pg_name (i := 9) nd rfl (.inl rfl)) (pgs_cons (pg_name (i := 10) nd rfl (.inl rfl)) pgs_nil)))) (fun _ _ _ _ _ => pts_nil) (fun _ _ _ _ _ => (pe_op op_sub (pv 9) (pv 10)))) pa_nil)))
      (pss_cons (ps_set (i := 8) nd rfl (.inl rfl) (pe_tup (pa_cons (pe_fldK (K := K) rfl (pv 0) rfl) (StX.pa_star (pv 7) (pa_cons (pv 4) (pa_cons (pv 5) pa_nil))))))
      (pss_cons (ps_fldaugK (K := K) rfl (pv 0) pe_int in_add)
      (pss_one (ps_ret (pv 8))))))))))))))), ?_⟩
    have hn2 := hG.n2
    have hn : M.seats.length ≤ 1000 := by omega
    refine q_when (b := false) (et_is (et_B (ev_meth (ev_var rfl) hC.hc c_no ea_nil (spV_obs (g := endedM) hC hn))) (decide_eq_false (by omega))) (fun h => by cases h) fun _ H1 e1 => ?_
    refine q_drop (v := .non) (ev_meth (ev_var rfl) (hC.ex e1).hc c_no (ea_cons (ev_var rfl) (ea_cons (ev_var rfl) ea_nil)) (fun H2 e Q q _ => ⟨d, M, p, b, paid, bids, rfl, hC.ex (e1.trans e), sq_of ((e1.trans e) _ _ hp), sq_of ((e1.trans e) _ _ hb), hpl, hbl, hn, hbb, q⟩)) fun H2 e2 => ?_
    have e12 := e1.trans e2
    refine q_asgL (el_meth (ev_var rfl) (hC.ex e12).hc c_no ea_nil (spL_obs (g := fun M => (standM M).map V.int) (hC.ex e12) hn)) fun ps H3 hps e3 hps3 => ?_
    have e13 := e12.trans e3
    refine q_asgL (xs := (natI (unpM M .w paid)).map V.int) (el_meth (ev_var rfl) (hC.ex e13).hc c_no (ea_cons ev_c (ea_cons (ev_var rfl) ea_nil)) (spL_unpaid (t := .w) (hC.ex e13) (sq_of (e13 _ _ hp)) hpl hn)) fun pf H4 hpf e4 hpf4 => ?_
    have e14 := e13.trans e4
    refine q_asgL (xs := (natI (unpM M .d paid)).map V.int) (el_meth (ev_var rfl) (hC.ex e14).hc c_no (ea_cons ev_c (ea_cons (ev_var rfl) ea_nil)) (spL_unpaid (t := .d) (hC.ex e14) (sq_of (e14 _ _ hp)) hpl hn)) fun pg H5 hpg e5 hpg5 => ?_
    have e15 := e14.trans e5
    have hC5 := hC.ex e15
    have hps0 := fresh_back e12 hps
    have hpf0 := fresh_back e13 hpf
    have hpg0 := fresh_back e14 hpg
    have npfg : pf ≠ pg := fun z => by rw [← z, hpf4] at hpg; cases hpg
    have mps := hC.newMut hps0
    have mpf := hC.newMut hpf0
    have mpg := hC.newMut hpg0
    have hps5 := (e4.trans e5) _ _ hps3
    have hpf5 := e5 _ _ hpf4
    -- fall
    refine q_dropX (te_meth (ev_var rfl) hC5.hc c_no (ea_cons (ev_var rfl) ea_nil) fun H6 e6 => ?_)
    refine ⟨d, M, pf, _, rfl, hC5.ex e6, e6 _ _ hpf5, mpf, range_nd, fun i hi => hG.fallIn hi, hG.ln, Nat.le_trans filt_len (by omega), fun H7 f7 hC7 => ?_⟩
    have f57 := (ExF.ex e6).trans f7
    -- charge
    refine q_dropX (te_meth (ev_var rfl) hC7.hc c_no (ea_cons (ev_var rfl) ea_nil) fun H8 e8 => ?_)
    refine ⟨d, _, pg, _, rfl, hC7.ex e8, e8 _ _ (f57.l hpg5 mpg), range_nd, fun i hi => by rw [fall_len]; exact List.mem_range.mp (List.mem_filter.mp hi).1, Nat.le_trans filt_len (by omega), fun H9 f9 hC9 => ?_⟩
    have f59 := (f57.trans (ExF.ex e8)).trans f9
    have hn9 : (chargeM (fallM M (unpM M .w paid)) (unpM M .d paid)).seats.length = M.seats.length := by rw [charge_len, fall_len]
    -- collect
    refine q_asgX (te_meth (ev_var rfl) hC9.hc c_no ea_nil fun H10 e10 => ?_)
    refine ⟨d, _, rfl, hC9.ex e10, by rw [hn9]; exact hn, fun H11 pp mpp hpp f11 hC11 h11 => ?_⟩
    have f511 := (f59.trans (ExF.ex e10)).trans f11
    have hC11 : CirAt T.f_Circle T.f_Seat H11 d (midM M paid) := hC11
    have h11 : H11 pp = some (.lst ((natI (payersM M paid)).map V.int)) := h11
    have F11 : Fr d.mut H H11 := (Fr.ex e15).trans f511.fr
    have T11 : LamX.Tabs T.tabs H11 := tabs_exF (hT.ext e15) f511 hC5.soft
    obtain ⟨m1, m2, m3⟩ := hG.midOk (paid := paid)
    -- the middle
    have mid : ∀ {H12 : Hp} {t : Addr}, Fr d.mut H11 H12 → LamX.Tabs T.tabs H12 → CirAt T.f_Circle T.f_Seat H12 d (endM M paid bids) → H12 t = some (.tup [.str (midR M paid bids).1, .int (midR M paid bids).2.1, .int (midR M paid bids).2.2.1, .int (midR M paid bids).2.2.2]) →
        tSeq (tDrop (tBM K "list" rAppend (tFld K (tVar 0) "flows") (tCons (tLc (RZ.iZipA K (tCons (tMeth T.f_Circle "standings" (spObsL T.f_Circle T.f_Seat fun M => (standM M).map V.int) [] E0 (tVar 0) tNil) (tCons (tVar 3) tNil))) (gTup K 2 (gCons (gName 9) (gCons (gName 10) gNil))) tYes (tOp (rI0 fun i j => .int (i - j)) (tVar 9) (tVar 10)) [9, 10]) tNil))) (tSeq (tAsg (tTup (tCons (tFld K (tVar 0) "open_round") (StX.tStar K (tVar 7) (tCons (tVar 4) (tCons (tVar 5) tNil))))) (gName 8)) (tSeq (sFldAug K (tVar 0) (tC (.int 1)) (fun x y H Q => ∃ i j, x = .int i ∧ y = .int j ∧ Q (.int (i + j)) H) "open_round") (tRet (tVar 8)))) { nx := fun _ H' => Q .non H', rt := Q }
          [some (.ref d.c), some (.ref p), some (.ref b), some (.ref ps), some (.ref pf), some (.ref pg), some (.ref pp), some (.ref t), none, none, none] H12 := fun {H12 t} F12 T12 hC12 ht => by
      have F := F11.trans F12
      have hn12 : (endM M paid bids).seats.length ≤ 1000 := by rw [end_len]; exact hn
      have F512 : Fr d.mut H5 H12 := f511.fr.trans F12
      have hps12 := F512.l hps5 mps
      have hpf12 := F512.l hpf5 mpf
      have hpg12 := F512.l hpg5 mpg
      have hsl : (standM (endM M paid bids)).length = (standM M).length := by rw [stand_len, stand_len, end_len]
      -- the flows
      refine q_appX hC12.hf (T.c_flows hC12 (ev_var rfl)) fun H13 e13 => ?_
      have hC13 := hC12.ex e13
      refine (el_lcZ1 (K := K) (xs := (standM (endM M paid bids)).map V.int) (ys := (standM M).map V.int) (b := ps) (fun _ => true) (fun i => V.int ((standM (endM M paid bids)).getD i 0 - (standM M).getD i 0)) (el_meth (ev_var rfl) hC13.hc c_no ea_nil (spL_obs (g := fun M => (standM M).map V.int) hC13 hn12)) (ev_var rfl) (sq_of (e13 _ _ hps12)) (by rw [List.length_map, List.length_map, hsl]) (by rw [List.length_map, stand_len]; omega) fun i x y Tt Hb eb gx gy hT => ?_) H13 (Ex.refl _) _ fun q1 H14 hq1 e14 h14 => ?_
      · obtain ⟨a, rfl, ga⟩ := ints_get gx
        obtain ⟨c, rfl, gc⟩ := ints_get gy
        refine ⟨_, tg_two (st_of hT) tg_name tg_name, rfl, et_yes, fun _ => ev_is (ev_op (ev_var rfl) (ev_var rfl) rv_I0) ?_⟩
        rw [List.getD_eq_getElem?_getD, ga, List.getD_eq_getElem?_getD, gc]
        rfl
      have hC14 := hC13.ex e14
      have hrow : given ((standM (endM M paid bids)).map V.int).length (fun _ => true) (fun i => V.int ((standM (endM M paid bids)).getD i 0 - (standM M).getD i 0)) = (subL (standM (endM M paid bids)) (standM M)).map V.int := by
        rw [given_rng, List.length_map]
        unfold subL
        rw [List.map_map]
        apply List.ext_getElem?
        intro i
        rw [List.getElem?_map, List.getElem?_map]
        by_cases hi : i < (standM (endM M paid bids)).length
        · rw [List.getElem?_range hi, show ((standM (endM M paid bids)).zip (standM M))[i]? = some ((standM (endM M paid bids))[i], (standM M)[i]'(by omega)) from List.getElem?_zip_eq_some.mpr ⟨List.getElem?_eq_getElem hi, List.getElem?_eq_getElem (by omega)⟩]
          show some (V.int _) = some (V.int _)
          rw [List.getD_eq_getElem?_getD, List.getElem?_eq_getElem hi, List.getD_eq_getElem?_getD, List.getElem?_eq_getElem (by omega)]
          rfl
        · rw [List.getElem?_eq_none (by rw [List.length_range]; omega), List.getElem?_eq_none (by rw [List.length_zip]; omega)]
          rfl
      rw [hrow] at h14
      refine ⟨d.pf, d.fl.map V.ref, .ref q1, rfl, rfl, hC14.hf, sz_lt (by rw [List.length_map, hC14.hfl, end_flows]; have := hG.ff; omega), ?_⟩
      have nq1 : q1 ≠ d.pf := fun z => by rw [z, hC13.hf] at hq1; cases hq1
      have f1315 : ExF [d.pf] H13 (upd H14 d.pf (.lst (d.fl.map V.ref ++ [.ref q1]))) := (ExF.ex e14).upd (List.mem_singleton.mpr rfl)
      have hC15 := hC13.flo (row := subL (standM (endM M paid bids)) (standM M)) hq1 (H' := upd H14 d.pf (.lst (d.fl.map V.ref ++ [.ref q1]))) (by rw [upd_same, List.map_append]; rfl) (by rw [upd_ne nq1]; exact h14) f1315
      have mm : d.pf ∈ d.mut := CirD.mut_pf
      have F1215 : ExF d.mut H12 (upd H14 d.pf (.lst (d.fl.map V.ref ++ [.ref q1]))) := (ExF.ex e13).trans (f1315.mono (one_mut mm))
      generalize upd H14 d.pf (.lst (d.fl.map V.ref ++ [.ref q1])) = H15 at hC15 F1215
      have mt : t ∉ d.mut := fun z => by
        rcases hC12.soft t z with h | ⟨xs, h⟩ | ⟨C, dx, fs, h⟩ <;> rw [ht] at h <;> cases h
      -- the report
      have ht15 : H15 t = some (.tup [.str (midR M paid bids).1, .int (midR M paid bids).2.1, .int (midR M paid bids).2.2.1, .int (midR M paid bids).2.2.2]) := F1215 _ _ ht mt
      refine q_asgU (xs := [.int M.opn, .str (midR M paid bids).1, .int (midR M paid bids).2.1, .int (midR M paid bids).2.2.1, .int (midR M paid bids).2.2.2, .ref pf, .ref pg]) (eu_tup (ea_cons (ev_is (T.c_open_round hC15 (ev_var rfl)) (by show V.int (endM M paid bids).opn = _; rw [end_opn])) (ea_star (K := K) (ev_var rfl) (st_of ht15) (ea_cons (ev_var rfl) (ea_cons (ev_var rfl) ea_nil)))) (by show 7 ≤ 100000; decide)) fun tr H16 htr e16 h16 => ?_
      have hC16 := hC15.ex e16
      refine q_cfA (k := 6) hC16 (ev_var rfl) T.cl_Circle T.na_Circle_open_round rfl rfl ev_c (z := .int ((endM M paid bids).opn + 1)) (fun H1 Q hq => ⟨_, _, rfl, rfl, hq⟩) fun H17 f17 h17 => ?_
      have hC17 := hC16.self (o := (endM M paid bids).opn + 1) (r := (endM M paid bids).rests) (b := (endM M paid bids).chest) h17 f17
      have F1517 : ExF d.mut H15 H17 := (ExF.ex e16).trans (f17.mono (one_mut CirD.mut_c))
      have mtr : tr ∉ d.mut := fun z => by
        rcases hC16.soft tr z with h | ⟨xs, h⟩ | ⟨C, dx, fs, h⟩ <;> rw [h16] at h <;> cases h
      refine s_ret (ev_var rfl) fun H18 e18 => ?_
      have F1718 : ExF d.mut H17 H18 := ExF.ex e18
      have F1218 := (F1215.trans F1517).trans F1718
      have F018 : Fr d.mut H H18 := F.trans F1218.fr
      have old : ∀ {c : Addr}, Nw H c → c ≠ q1 → c ∉ ({ d with fl := d.fl ++ [q1] } : CirD).all := fun {c} hc hcq z => by
        refine hC.old hc ?_
        unfold CirD.all at z ⊢
        simp only [List.mem_cons, List.mem_append, List.not_mem_nil, or_false] at z ⊢
        rcases z with z | z | z | z | z | z | z | z | z
        · exact .inl z
        · exact .inr (.inl z)
        · exact .inr (.inr (.inl z))
        · exact .inr (.inr (.inr (.inl z)))
        · exact .inr (.inr (.inr (.inr (.inl z))))
        · exact .inr (.inr (.inr (.inr (.inr (.inl z)))))
        · exact .inr (.inr (.inr (.inr (.inr (.inr (.inl z))))))
        · exact .inr (.inr (.inr (.inr (.inr (.inr (.inr z))))))
        · exact absurd z hcq
      have npf : pf ≠ q1 := fun z => by rw [← z, e13 _ _ hpf12] at hq1; cases hq1
      have npg : pg ≠ q1 := fun z => by rw [← z, e13 _ _ hpg12] at hq1; cases hq1
      have mq1 := hC13.newMut hq1
      exact q H18 { d with fl := d.fl ++ [q1] } tr pf pg q1 rfl (new_fr (F.trans (Fr.ex e13)) hq1 mq1) F018 (tabs_exF T12 F1218 hC12.soft) (hC17.ex e18) (F1718 _ _ ((f17.mono (one_mut CirD.mut_c)) _ _ h16 mtr) mtr) (F1218.l hpf12 mpf) (F1218.l hpg12 mpg) (new_fr (F.trans F1215.fr) htr mtr) (Nw.of hpf0) (Nw.of hpg0) npfg (old (Nw.of hpf0) npf) (old (Nw.of hpg0) npg)
    -- rest or draw
    refine q_asgX (te_if (b := drawsM M paid) (et_test (ev_op (T.c_rests_due hC11 (ev_var rfl)) ev_c rv_I0)) (fun hd H12 e12' => ?_) (fun hd H12 e12' => ?_))
    · refine te_meth (ev_var rfl) (hC11.ex e12').hc c_no (ea_cons (ev_var rfl) ea_nil) fun H13 e13' => ?_
      have e1113 := e12'.trans e13'
      refine ⟨d, midM M paid, pp, payersM M paid, rfl, hC11.ex e1113, e1113 _ _ h11, mpp, Nat.le_trans filt_len (by rw [hn9]; exact hn), fun H14 t ht f14 hC14 ht14 => ?_⟩
      have f1114 := (ExF.ex e1113).trans f14
      refine mid f1114.fr (tabs_exF T11 f1114 hC11.soft) ?_ ?_
      · unfold endM
        rw [if_pos hd]
        exact hC14
      · unfold midR
        rw [if_pos hd]
        exact ht14
    · refine te_meth (ev_var rfl) (hC11.ex e12').hc c_no (ea_cons (ev_var rfl) (ea_cons (ev_var rfl) ea_nil)) fun H13 e13' => ?_
      have e1113 := e12'.trans e13'
      have hd' : ¬ (midM M paid).rests > 0 := of_decide_eq_false hd
      have hr0 := hG.r0
      rw [mid_rests] at hd' m3
      refine ⟨d, midM M paid, pp, b, payersM M paid, bids, rfl, hC11.ex e1113, e1113 _ _ h11, mpp, range_nd, fun i hi => ?_, Nat.le_trans filt_len (by rw [hn9]; exact hn), e1113 _ _ (F11.l hb hbm), by rw [mid_len]; exact hbl, by rw [mid_len]; exact hn, fun z => ?_, m1, ?_, fun i hi => by rw [mid_len]; exact (m2 i hi).2, by rw [mid_opn]; have := hG.o1; omega, by rw [mid_opn]; omega, T11.ext e1113, fun H14 t ht f14 T14 hC14 ht14 => ?_⟩
      · rw [mid_len]
        have := List.mem_range.mp (List.mem_filter.mp hi).1
        rw [hn9] at this
        exact this
      · rw [z] at m3
        have : (([] : List Nat).length : Int) = 0 := rfl
        omega
      · have h1 : (midM M paid).line.length ≤ M.line.length := by rw [mid_line]; exact List.length_filter_le _ _
        have := hG.cnt
        have := hG.o1
        omega
      · refine mid ((Fr.ex e1113).trans f14) T14 ?_ ?_
        · unfold endM
          rw [if_neg (by rw [hd]; exact Bool.false_ne_true)]
          exact hC14
        · unfold midR
          rw [if_neg (by rw [hd]; exact Bool.false_ne_true), ← mid_pot (paid := paid)]
          exact ht14
end

end Su
namespace Su
/-! ### what goes back at the end -/
section
variable {P : Program} {w : World} {K : PySem.W.Frag} {mg : Str → Option Value} {base : Heap} {H : Hp} {d : CirD} {M : CirM}
def refM (M : CirM) : List Int := M.seats.map fun s => s.pledge + (if s.st = .f then s.given else 0)
def spRefunds (C S : Addr) : Sp := fun vs H Q _ => ∃ d M, vs = [.ref d.c] ∧ CirAt C S H d M ∧ M.seats.length ≤ 1000 ∧ M.opn > (M.seats.length : Int) ∧ ∀ H' p, H p = none → Ex H H' → H' p = some (.lst ((refM M).map V.int)) → Q (.ref p) H'
theorem spL_refunds {C S : Addr} (h : CirAt C S H d M) (hn : M.seats.length ≤ 1000) (ho : M.opn > (M.seats.length : Int)) : SpL (spRefunds C S) [.ref d.c] H ((refM M).map V.int) := fun H1 e Q q _ => ⟨d, M, rfl, h.ex e, hn, ho, fun H2 p hp e2 h2 => q p H2 hp e2 h2⟩
end

end Su
namespace Su
/-! ### what a close makes of a circle -/
section
variable {M : CirM} {paid : List Bool} {bids : List Int} {i : Nat} {s : SeatM}
def midS (M : CirM) (paid : List Bool) (i : Nat) (s : SeatM) : SeatM := gl (payF M) (payersM M paid) i (gl (chargeF M) (unpM M .d paid) i (gl (fellF M) (unpM M .w paid) i s))
def wonM (M : CirM) (paid : List Bool) (bids : List Int) : Nat := (bestM (midM M paid) bids).1
def shrM (M : CirM) (paid : List Bool) (bids : List Int) : Int := shareM (bestM (midM M paid) bids).2 (othM (payersM M paid) (wonM M paid bids))
def coinM (M : CirM) (paid : List Bool) (bids : List Int) : Int := potM (midM M paid) - shrM M paid bids * ((othM (payersM M paid) (wonM M paid bids)).length : Int)
def endS (M : CirM) (paid : List Bool) (bids : List Int) (i : Nat) (s : SeatM) : SeatM :=
  if drawsM M paid = true then midS M paid i s
  else gl (fun s => { s with shared := s.shared + shrM M paid bids }) (othM (payersM M paid) (wonM M paid bids)) i (if i = wonM M paid bids then { (midS M paid i s) with st := .d, since := M.opn, drawn := coinM M paid bids } else midS M paid i s)
theorem mid_at : (midM M paid).seats[i]? = (M.seats[i]?).map (midS M paid i) := by
  have h1 : ∀ {X : CirM}, (collectM X).seats[i]? = (X.seats[i]?).map (gl (payF X) (payM X) i) := fun {X} => up_at (M := X) (g := gl (payF X) (payM X))
  have h2 : ∀ {X : CirM} {l : List Nat}, (chargeM X l).seats[i]? = (X.seats[i]?).map (gl (chargeF X) l i) := fun {X l} => up_at (M := X) (g := gl (chargeF X) l)
  have h3 : ∀ {X : CirM} {l : List Nat}, (fallM X l).seats[i]? = (X.seats[i]?).map (gl (fellF X) l i) := fun {X l} => up_at (M := X) (g := gl (fellF X) l)
  unfold midM
  rw [h1, h2, h3, Option.map_map, Option.map_map]
  rfl
theorem draw_at {l : List Nat} : (drawM M l bids).seats[i]? = (M.seats[i]?).map fun s => gl (fun s => { s with shared := s.shared + shareM (bestM M bids).2 (othM l (bestM M bids).1) }) (othM l (bestM M bids).1) i (if i = (bestM M bids).1 then { s with st := .d, since := M.opn, drawn := potM M - shareM (bestM M bids).2 (othM l (bestM M bids).1) * ((othM l (bestM M bids).1).length : Int) } else s) := by
  unfold drawM
  rw [up_at, up_at]
  have h3 : ∀ {X : CirM} {j : Nat} {t : SSt}, (X.leave j t).seats[i]? = (X.seats[i]?).map (fun s => if i = j then { s with st := t, since := X.opn } else s) := fun {X j t} => up_at (M := X) (g := fun k s => if k = j then { s with st := t, since := X.opn } else s)
  rw [h3, Option.map_map, Option.map_map]
  congr 1
  funext s
  simp only [Function.comp]
  by_cases c : i = (bestM M bids).1
  · rw [if_pos c, if_pos c, if_pos c]
  · rw [if_neg c, if_neg c, if_neg c]
theorem end_at : (endM M paid bids).seats[i]? = (M.seats[i]?).map (endS M paid bids i) := by
  by_cases c : drawsM M paid = true
  · have e1 : endM M paid bids = restM (midM M paid) := by unfold endM; rw [if_pos c]
    have e2 : endS M paid bids i = midS M paid i := by funext s; unfold endS; rw [if_pos c]
    have e3 : (restM (midM M paid)).seats = (midM M paid).seats := rfl
    rw [e1, e2, e3]
    exact mid_at
  · have e1 : endM M paid bids = drawM (midM M paid) (payersM M paid) bids := by unfold endM; rw [if_neg c]
    rw [e1, draw_at, mid_at, Option.map_map]
    congr 1
    funext s
    unfold endS
    rw [if_neg c]
    rfl
theorem close_at : (closeM M paid bids).seats[i]? = (M.seats[i]?).map (endS M paid bids i) := end_at
theorem close_len : (closeM M paid bids).seats.length = M.seats.length := end_len
theorem close_opn : (closeM M paid bids).opn = M.opn + 1 := by
  show (endM M paid bids).opn + 1 = _
  rw [end_opn]
def lineC (M : CirM) (paid : List Bool) (bids : List Int) : List Nat := if drawsM M paid = true then (midM M paid).line else (midM M paid).line.erase (wonM M paid bids)
theorem close_line : (closeM M paid bids).line = lineC M paid bids := by
  show (endM M paid bids).line = _
  unfold endM lineC
  by_cases c : drawsM M paid = true
  · rw [if_pos c, if_pos c]
    have : (restM (midM M paid)).line = (midM M paid).line := rfl
    exact this
  · rw [if_neg c, if_neg c]
    unfold wonM
    generalize midM M paid = N
    generalize payersM M paid = l
    unfold drawM
    rfl
theorem close_rests : (closeM M paid bids).rests = if drawsM M paid = true then (midM M paid).rests - 1 else (midM M paid).rests := by
  show (endM M paid bids).rests = _
  unfold endM
  by_cases c : drawsM M paid = true
  · rw [if_pos c, if_pos c]
    have : (restM (midM M paid)).rests = (midM M paid).rests - 1 := rfl
    exact this
  · rw [if_neg c, if_neg c]
    generalize midM M paid = N
    generalize payersM M paid = l
    unfold drawM
    rfl
theorem mid_chest : (midM M paid).chest = M.chest + M.stake * ((payersM M paid).length : Int) := rfl
theorem close_chest : (closeM M paid bids).chest = if drawsM M paid = true then (midM M paid).chest else (midM M paid).chest - potM M := by
  show (endM M paid bids).chest = _
  unfold endM
  by_cases c : drawsM M paid = true
  · rw [if_pos c, if_pos c]
    have : (restM (midM M paid)).chest = (midM M paid).chest := rfl
    exact this
  · rw [if_neg c, if_neg c, ← mid_pot (paid := paid)]
    generalize midM M paid = N
    generalize payersM M paid = l
    unfold drawM
    rfl
theorem close_stake : (closeM M paid bids).stake = M.stake := by
  show (endM M paid bids).stake = _
  have hm : (midM M paid).stake = M.stake := rfl
  unfold endM
  by_cases c : drawsM M paid = true
  · rw [if_pos c]
    exact hm
  · rw [if_neg c, ← hm]
    generalize midM M paid = N
    generalize payersM M paid = l
    unfold drawM
    rfl
theorem close_bid : (closeM M paid bids).bid = M.bid := by
  show (endM M paid bids).bid = _
  have hm : (midM M paid).bid = M.bid := rfl
  unfold endM
  by_cases c : drawsM M paid = true
  · rw [if_pos c]
    exact hm
  · rw [if_neg c, ← hm]
    generalize midM M paid = N
    generalize payersM M paid = l
    unfold drawM
    rfl
theorem close_flows : (closeM M paid bids).flows = M.flows ++ [subL (standM (endM M paid bids)) (standM M)] := by
  show (endM M paid bids).flows ++ _ = _
  rw [end_flows]
theorem gl_st {F : SeatM → SeatM} {l : List Nat} (h : ∀ s, (F s).st = s.st) : (gl F l i s).st = s.st := by
  unfold gl
  by_cases c : i ∈ l
  · rw [if_pos c, h]
  · rw [if_neg c]
theorem mid_st : (midS M paid i s).st = if i ∈ unpM M .w paid then .f else s.st := by
  unfold midS
  rw [gl_st (F := payF M) (fun _ => rfl), gl_st (F := chargeF M) (fun _ => rfl)]
  unfold gl
  by_cases c : i ∈ unpM M .w paid
  · rw [if_pos c, if_pos c]
    rfl
  · rw [if_neg c, if_neg c]
theorem end_st : (endS M paid bids i s).st = if drawsM M paid = false ∧ i = wonM M paid bids then .d else if i ∈ unpM M .w paid then .f else s.st := by
  unfold endS
  by_cases c : drawsM M paid = true
  · rw [if_pos c, if_neg (fun z => by rw [c] at z; exact absurd z.1 (by decide)), mid_st]
  · rw [if_neg c, gl_st (F := fun s => { s with shared := s.shared + shrM M paid bids }) (fun _ => rfl)]
    have c' : drawsM M paid = false := by simpa using c
    by_cases e : i = wonM M paid bids
    · rw [if_pos e, if_pos ⟨c', e⟩]
    · rw [if_neg e, if_neg (fun z => e z.2), mid_st]
theorem Good.midLw (h : Good M) : i ∈ (midM M paid).line ↔ i ∈ M.line ∧ i ∉ unpM M .w paid := by
  rw [mid_line, List.mem_filter]
  constructor
  · rintro ⟨h1, h2⟩
    exact ⟨h1, by simpa using h2⟩
  · rintro ⟨h1, h2⟩
    exact ⟨h1, by simpa using h2⟩
theorem Good.wonIn (h : Good M) (hd : drawsM M paid = false) (ho : M.opn ≤ M.seats.length) : wonM M paid bids ∈ (midM M paid).line := by
  refine best_in fun z => ?_
  have h3 := (h.midOk (paid := paid)).2.2
  rw [z] at h3
  have h0 : ¬ (midM M paid).rests > 0 := of_decide_eq_false hd
  have : (([] : List Nat).length : Int) = 0 := rfl
  omega
theorem Good.close (h : Good M) (ho : M.opn ≤ M.seats.length) : Good (closeM M paid bids) := by
  obtain ⟨m1, m2, m3⟩ := h.midOk (paid := paid)
  have hr : (midM M paid).rests ≥ 0 := by rw [mid_rests]; have := h.r0; omega
  refine ⟨by rw [close_len]; exact h.n1, by rw [close_len]; exact h.n2, ?_, fun i => ?_, by rw [close_opn]; have := h.o1; omega, by rw [close_opn, close_len]; omega, ?_, ?_, ?_, fun r hr => ?_⟩
  · rw [close_line]
    unfold lineC
    by_cases c : drawsM M paid = true
    · rw [if_pos c]; exact m1
    · rw [if_neg c]; exact m1.erase _
  · rw [close_line]
    have e1 : i ∈ lineC M paid bids ↔ (i ∈ M.line ∧ i ∉ unpM M .w paid) ∧ ¬ (drawsM M paid = false ∧ i = wonM M paid bids) := by
      unfold lineC
      by_cases c : drawsM M paid = true
      · rw [if_pos c, h.midLw]
        constructor
        · exact fun z => ⟨z, fun y => by rw [c] at y; exact absurd y.1 (by decide)⟩
        · exact fun z => z.1
      · rw [if_neg c, m1.mem_erase_iff, h.midLw]
        have c' : drawsM M paid = false := by simpa using c
        constructor
        · exact fun z => ⟨z.2, fun y => z.1 y.2⟩
        · exact fun z => ⟨fun y => z.2 ⟨c', y⟩, z.1⟩
    rw [e1, close_at]
    constructor
    · rintro ⟨⟨h1, h2⟩, h3⟩
      obtain ⟨s, hs, hw⟩ := (h.lw i).mp h1
      refine ⟨_, by rw [hs]; rfl, ?_⟩
      rw [end_st, if_neg h3, if_neg h2]
      exact hw
    · rintro ⟨s', hs', hw⟩
      obtain ⟨s, hs, rfl⟩ := Option.map_eq_some_iff.mp hs'
      rw [end_st] at hw
      by_cases c : drawsM M paid = false ∧ i = wonM M paid bids
      · rw [if_pos c] at hw; cases hw
      · rw [if_neg c] at hw
        by_cases c2 : i ∈ unpM M .w paid
        · rw [if_pos c2] at hw; cases hw
        · rw [if_neg c2] at hw
          exact ⟨⟨(h.lw i).mpr ⟨s, hs, hw⟩, c2⟩, c⟩
  · rw [close_rests]
    by_cases c : drawsM M paid = true
    · rw [if_pos c]
      have : (midM M paid).rests > 0 := of_decide_eq_true c
      omega
    · rw [if_neg c]; exact hr
  · rw [close_line, close_rests, close_len, close_opn]
    unfold lineC
    by_cases c : drawsM M paid = true
    · rw [if_pos c, if_pos c]
      omega
    · rw [if_neg c, if_neg c]
      have c' : drawsM M paid = false := by simpa using c
      have hw := h.wonIn (bids := bids) c' ho
      have := List.length_erase_of_mem hw
      have := List.length_pos_of_mem hw
      omega
  · rw [close_flows, close_opn, List.length_append, List.length_singleton]
    have := h.ff
    omega
  · rw [close_flows] at hr
    rw [close_len]
    rcases List.mem_append.mp hr with hr | hr
    · exact h.fl r hr
    · rw [List.mem_singleton.mp hr]
      unfold subL
      rw [List.length_map, List.length_zip, stand_len, stand_len, end_len, Nat.min_self]
theorem good0 {st : Int} {pl ws : List Int} {bd : Bool} {row : List Nat} (ho : OpenOk st pl ws) (hI : IsOrd (winsM st pl ws) row) : Good (cir0 st pl ws bd row) := by
  have hl : (winsM st pl ws).length = pl.length := wins_len ho.lw
  have hs : (cir0 st pl ws bd row).seats.length = pl.length := List.length_map _
  have n1 := ho.n1
  have n2 := ho.n2
  have hrl : row.length = pl.length := by rw [hI.1.length_eq, List.length_range, hl]
  refine ⟨by omega, by omega, hI.1.nodup_iff.mpr List.nodup_range, fun i => ?_, by show (1 : Int) ≤ 1; decide, by rw [hs]; show (1 : Int) ≤ _; omega, by show (0 : Int) ≤ 0; decide, ?_, rfl, fun r hr => absurd hr List.not_mem_nil⟩
  · show i ∈ row ↔ ∃ s, (pl.map seat0)[i]? = some s ∧ s.st = .w
    rw [hI.1.mem_iff, List.mem_range, hl]
    constructor
    · intro hi
      exact ⟨seat0 pl[i], by rw [List.getElem?_map, List.getElem?_eq_getElem hi]; rfl, rfl⟩
    · rintro ⟨s, hs, _⟩
      have := (List.getElem?_eq_some_iff.mp hs).1
      rwa [List.length_map] at this
  · rw [hs]
    show ((row.length : Nat) : Int) + 0 = (pl.length : Int) + 1 - 1
    omega
end
section
variable {M : CirM} {paid : List Bool} {bids : List Int} {i : Nat} {s : SeatM}
theorem gl_pr {α : Type} (π : SeatM → α) {F : SeatM → SeatM} {l : List Nat} : π (gl F l i s) = if i ∈ l then π (F s) else π s := by
  unfold gl
  by_cases c : i ∈ l
  · rw [if_pos c, if_pos c]
  · rw [if_neg c, if_neg c]
theorem chf_at : (chargeM (fallM M (unpM M .w paid)) (unpM M .d paid)).seats[i]? = (M.seats[i]?).map fun s => gl (chargeF M) (unpM M .d paid) i (gl (fellF M) (unpM M .w paid) i s) := by
  have h2 : ∀ {X : CirM} {l : List Nat}, (chargeM X l).seats[i]? = (X.seats[i]?).map (gl (chargeF X) l i) := fun {X l} => up_at (M := X) (g := gl (chargeF X) l)
  have h3 : ∀ {X : CirM} {l : List Nat}, (fallM X l).seats[i]? = (X.seats[i]?).map (gl (fellF X) l i) := fun {X l} => up_at (M := X) (g := gl (fellF X) l)
  rw [h2, h3, Option.map_map]
  rfl
theorem pay_in : i ∈ payersM M paid ↔ ∃ s, M.seats[i]? = some s ∧ s.st ≠ .f ∧ i ∉ unpM M .w paid := by
  unfold payersM payM
  rw [List.mem_filter, List.mem_range, charge_len, fall_len]
  unfold isPay
  rw [chf_at]
  constructor
  · rintro ⟨h1, h2⟩
    obtain ⟨s, hs⟩ := seat_at h1
    rw [hs] at h2
    have h3 : (!decide ((gl (chargeF M) (unpM M .d paid) i (gl (fellF M) (unpM M .w paid) i s)).st = .f)) = true := h2
    rw [gl_st (F := chargeF M) (fun _ => rfl), gl_pr (·.st)] at h3
    by_cases c : i ∈ unpM M .w paid
    · rw [if_pos c] at h3
      have h5 : (fellF M s).st = .f := rfl
      rw [h5, decide_eq_true rfl] at h3
      exact absurd h3 Bool.false_ne_true
    · rw [if_neg c] at h3
      exact ⟨s, hs, by simpa using h3, c⟩
  · rintro ⟨s, hs, h2, c⟩
    refine ⟨(List.getElem?_eq_some_iff.mp hs).1, ?_⟩
    rw [hs]
    show (!decide ((gl (chargeF M) (unpM M .d paid) i (gl (fellF M) (unpM M .w paid) i s)).st = .f)) = true
    rw [gl_st (F := chargeF M) (fun _ => rfl), gl_pr (·.st), if_neg c]
    simpa using h2
theorem mid_since : (midS M paid i s).since = if i ∈ unpM M .w paid then M.opn else s.since := by
  unfold midS
  rw [gl_pr (·.since)]
  simp only [payF, ite_self]
  rw [gl_pr (·.since)]
  simp only [chargeF, ite_self]
  rw [gl_pr (·.since)]
  simp only [fellF]
theorem mid_pledge : (midS M paid i s).pledge = if i ∈ unpM M .d paid then s.pledge - M.stake else s.pledge := by
  unfold midS
  rw [gl_pr (·.pledge)]
  simp only [payF, ite_self]
  rw [gl_pr (·.pledge)]
  simp only [chargeF]
  rw [gl_pr (·.pledge)]
  simp only [fellF, ite_self]
theorem mid_given : (midS M paid i s).given = if i ∈ payersM M paid then s.given + M.stake else s.given := by
  have h : (gl (chargeF M) (unpM M .d paid) i (gl (fellF M) (unpM M .w paid) i s)).given = s.given := by
    rw [gl_pr (·.given)]
    simp only [chargeF, ite_self]
    rw [gl_pr (·.given)]
    simp only [fellF, ite_self]
  unfold midS
  rw [gl_pr (·.given)]
  simp only [payF]
  rw [h]
theorem mid_pst : (midS M paid i s).pst = if i ∈ unpM M .d paid then s.pst + 1 else s.pst := by
  unfold midS
  rw [gl_pr (·.pst)]
  simp only [payF, ite_self]
  rw [gl_pr (·.pst)]
  simp only [chargeF]
  rw [gl_pr (·.pst)]
  simp only [fellF, ite_self]
theorem mid_drawn : (midS M paid i s).drawn = s.drawn := by
  unfold midS
  rw [gl_pr (·.drawn)]
  simp only [payF, ite_self]
  rw [gl_pr (·.drawn)]
  simp only [chargeF, ite_self]
  rw [gl_pr (·.drawn)]
  simp only [fellF, ite_self]
theorem mid_shared : (midS M paid i s).shared = s.shared := by
  unfold midS
  rw [gl_pr (·.shared)]
  simp only [payF, ite_self]
  rw [gl_pr (·.shared)]
  simp only [chargeF, ite_self]
  rw [gl_pr (·.shared)]
  simp only [fellF, ite_self]
/-- a part of a seat that the draw does not touch -/
theorem end_pr {α : Type} (π : SeatM → α) (h1 : ∀ s : SeatM, π { s with shared := s.shared + shrM M paid bids } = π s) (h2 : ∀ s : SeatM, π { s with st := .d, since := M.opn, drawn := coinM M paid bids } = π s) : π (endS M paid bids i s) = π (midS M paid i s) := by
  unfold endS
  by_cases c : drawsM M paid = true
  · rw [if_pos c]
  · rw [if_neg c, gl_pr π, h1, ite_self]
    by_cases e : i = wonM M paid bids
    · rw [if_pos e, h2]
    · rw [if_neg e]
theorem end_pledge : (endS M paid bids i s).pledge = if i ∈ unpM M .d paid then s.pledge - M.stake else s.pledge := by
  rw [end_pr (·.pledge) (fun _ => rfl) (fun _ => rfl), mid_pledge]
theorem end_given : (endS M paid bids i s).given = if i ∈ payersM M paid then s.given + M.stake else s.given := by
  rw [end_pr (·.given) (fun _ => rfl) (fun _ => rfl), mid_given]
theorem end_pst : (endS M paid bids i s).pst = if i ∈ unpM M .d paid then s.pst + 1 else s.pst := by
  rw [end_pr (·.pst) (fun _ => rfl) (fun _ => rfl), mid_pst]
theorem end_since : (endS M paid bids i s).since = if drawsM M paid = false ∧ i = wonM M paid bids then M.opn else if i ∈ unpM M .w paid then M.opn else s.since := by
  unfold endS
  by_cases c : drawsM M paid = true
  · rw [if_pos c, if_neg (fun z => by rw [c] at z; exact absurd z.1 (by decide)), mid_since]
  · have c' : drawsM M paid = false := by simpa using c
    rw [if_neg c, gl_pr (·.since), ite_self]
    by_cases e : i = wonM M paid bids
    · rw [if_pos e, if_pos ⟨c', e⟩]
    · rw [if_neg e, if_neg (fun z => e z.2), mid_since]
theorem end_drawn : (endS M paid bids i s).drawn = if drawsM M paid = false ∧ i = wonM M paid bids then coinM M paid bids else s.drawn := by
  unfold endS
  by_cases c : drawsM M paid = true
  · rw [if_pos c, if_neg (fun z => by rw [c] at z; exact absurd z.1 (by decide)), mid_drawn]
  · have c' : drawsM M paid = false := by simpa using c
    rw [if_neg c, gl_pr (·.drawn), ite_self]
    by_cases e : i = wonM M paid bids
    · rw [if_pos e, if_pos ⟨c', e⟩]
    · rw [if_neg e, if_neg (fun z => e z.2), mid_drawn]
theorem end_shared : (endS M paid bids i s).shared = if drawsM M paid = false ∧ i ∈ othM (payersM M paid) (wonM M paid bids) then s.shared + shrM M paid bids else s.shared := by
  have h : ∀ c : Prop, ∀ [Decidable c], (if c then { (midS M paid i s) with st := .d, since := M.opn, drawn := coinM M paid bids } else midS M paid i s : SeatM).shared = s.shared := fun c _ => by
    by_cases e : c
    · rw [if_pos e]; exact mid_shared
    · rw [if_neg e]; exact mid_shared
  unfold endS
  by_cases c : drawsM M paid = true
  · rw [if_pos c, if_neg (fun z => by rw [c] at z; exact absurd z.1 (by decide)), mid_shared]
  · have c' : drawsM M paid = false := by simpa using c
    rw [if_neg c, gl_pr (·.shared)]
    simp only [h]
    by_cases e : i ∈ othM (payersM M paid) (wonM M paid bids)
    · rw [if_pos e, if_pos ⟨c', e⟩]
    · rw [if_neg e, if_neg (fun z => e z.2)]
end

end Su
namespace Su
/-! ### every seat pays, nobody bids -/
structure Even (st : Int) (pl : List Int) (row : List Nat) (t : Nat) (M : CirM) : Prop where
  g : Good M
  stk : M.stake = st
  len : M.seats.length = pl.length
  line : M.line = row.drop t
  opn : M.opn = (t : Int) + 1
  rests : M.rests = 0
  chest : M.chest = 0
  at_ : ∀ i s, M.seats[i]? = some s → pl[i]? = some s.pledge ∧ s.st ≠ .f ∧ ∀ k : Nat, row[k]? = some i → (k < t → s.st = .d ∧ s.since = (k : Int) + 1) ∧ (t ≤ k → s.st = .w)
section
variable {M : CirM} {st : Int} {pl ws : List Int} {bd : Bool} {row : List Nat} {t n : Nat}
theorem unp_rep {x : SSt} (h : M.seats.length = n) : unpM M x (List.replicate n true) = [] := by
  apply List.eq_nil_iff_forall_not_mem.mpr
  intro i hi
  obtain ⟨s, hs, _, h2⟩ := unp_in.mp hi
  have := (List.getElem?_eq_some_iff.mp hs).1
  rw [List.getD_eq_getElem?_getD, List.getElem?_replicate, if_pos (by omega)] at h2
  exact absurd h2 (by decide)
theorem cnt_rep {N : CirM} : cntM N (List.replicate n 0) = [] := by
  have h : ∀ i, (List.replicate n (0 : Int)).getD i 0 = 0 := fun i => by
    rw [List.getD_eq_getElem?_getD, List.getElem?_replicate]
    split <;> rfl
  unfold cntM
  split
  · apply List.filter_eq_nil_iff.mpr
    intro i _
    rw [h]
    simp
  · rfl
theorem best_rep {N : CirM} : bestM N (List.replicate n 0) = (N.line.getD 0 0, 0) := by
  unfold bestM
  rw [cnt_rep, if_pos rfl]
theorem share0 {o : List Nat} : shareM 0 o = 0 := by
  unfold shareM
  split
  · rfl
  · exact Int.zero_ediv _
theorem shr_rep {paid : List Bool} : shrM M paid (List.replicate n 0) = 0 := by
  unfold shrM
  rw [best_rep]
  exact share0
theorem Even.draws (h : Even st pl row t M) : drawsM M (List.replicate pl.length true) = false := by
  unfold drawsM
  rw [mid_rests, unp_rep h.len, h.rests]
  rfl
theorem Even.won (h : Even st pl row t M) : wonM M (List.replicate pl.length true) (List.replicate pl.length 0) = row.getD t 0 := by
  unfold wonM
  rw [best_rep, mid_line, unp_rep h.len, h.line, List.filter_eq_self.mpr (fun a _ => by simp)]
  show (row.drop t).getD 0 0 = _
  rw [List.getD_eq_getElem?_getD, List.getElem?_drop, List.getD_eq_getElem?_getD]
  rfl
theorem Even.pay (h : Even st pl row t M) : (payersM M (List.replicate pl.length true)).length = pl.length := by
  have e : payersM M (List.replicate pl.length true) = (List.range (chargeM (fallM M (unpM M .w (List.replicate pl.length true))) (unpM M .d (List.replicate pl.length true))).seats.length).filter (isPay (chargeM (fallM M (unpM M .w (List.replicate pl.length true))) (unpM M .d (List.replicate pl.length true)))) := rfl
  have hl : (chargeM (fallM M (unpM M .w (List.replicate pl.length true))) (unpM M .d (List.replicate pl.length true))).seats.length = pl.length := by rw [charge_len, fall_len, h.len]
  have hin : ∀ i, i < pl.length → i ∈ payersM M (List.replicate pl.length true) := fun i hi => by
    obtain ⟨s, hs⟩ := seat_at (M := M) (i := i) (by rw [h.len]; exact hi)
    exact pay_in.mpr ⟨s, hs, (h.at_ i s hs).2.1, by rw [unp_rep h.len]; exact List.not_mem_nil⟩
  have hp : (payersM M (List.replicate pl.length true)).Perm (List.range pl.length) := perm_subN range_nd List.nodup_range fun x => by
    rw [List.mem_range]
    exact ⟨fun z => by obtain ⟨s, hs, _⟩ := pay_in.mp z; have := (List.getElem?_eq_some_iff.mp hs).1; rw [h.len] at this; exact this, hin x⟩
  rw [hp.length_eq, List.length_range]
theorem Even.mid (h : Even st pl row t M) : midR M (List.replicate pl.length true) (List.replicate pl.length 0) = (("draw" : Str), ((row.getD t 0 : Nat) : Int), st * (pl.length : Int), (0 : Int)) := by
  have hw := h.won
  unfold wonM at hw
  unfold midR
  rw [if_neg (by rw [h.draws]; decide), hw, best_rep]
  show (("draw" : Str), ((row.getD t 0 : Nat) : Int), potM M - shareM 0 _ * _, shareM 0 _) = _
  rw [share0, Int.zero_mul, Int.sub_zero]
  unfold potM
  rw [h.stk, h.len]
theorem Even.step (h : Even st pl row t M) (hr : row.Nodup) (ht : t < row.length) (hl : row.length = pl.length) : Even st pl row (t + 1) (closeM M (List.replicate pl.length true) (List.replicate pl.length 0)) := by
  have hd := h.draws
  have hg : row[t]? = some (row.getD t 0) := by rw [List.getD_eq_getElem?_getD, List.getElem?_eq_getElem ht]; rfl
  refine ⟨h.g.close (by rw [h.opn, h.len]; omega), by rw [close_stake, h.stk], by rw [close_len, h.len], ?_, by rw [close_opn, h.opn]; push_cast; omega, ?_, ?_, fun i s' hs' => ?_⟩
  · rw [close_line]
    unfold lineC
    rw [if_neg (by rw [hd]; decide), h.won, mid_line, unp_rep h.len, h.line]
    have e : (row.drop t).filter (fun i => !decide (i ∈ ([] : List Nat))) = row.drop t := List.filter_eq_self.mpr fun a _ => by simp
    rw [e, List.drop_eq_getElem_cons ht, show row.getD t 0 = row[t] from by rw [List.getD_eq_getElem?_getD, List.getElem?_eq_getElem ht]; rfl, List.erase_cons_head]
  · rw [close_rests, if_neg (by rw [hd]; decide), mid_rests, unp_rep h.len, h.rests]
    rfl
  · rw [close_chest, if_neg (by rw [hd]; decide), mid_chest, h.pay, h.chest, h.stk]
    unfold potM
    rw [h.stk, h.len]
    omega
  · rw [close_at] at hs'
    obtain ⟨s, hs, rfl⟩ := Option.map_eq_some_iff.mp hs'
    obtain ⟨a1, a2, a3⟩ := h.at_ i s hs
    rw [end_pledge, end_st, end_since, unp_rep h.len, unp_rep h.len, if_neg List.not_mem_nil, if_neg List.not_mem_nil, if_neg List.not_mem_nil, h.won]
    refine ⟨a1, ?_, fun k hk => ⟨fun hkt => ?_, fun hkt => ?_⟩⟩
    · split
      · exact fun z => by cases z
      · exact a2
    · by_cases c : k = t
      · subst c
        rw [hk] at hg
        have e := Option.some.inj hg
        rw [if_pos ⟨hd, e⟩, if_pos ⟨hd, e⟩]
        exact ⟨rfl, h.opn⟩
      · have ne : ¬ (drawsM M (List.replicate pl.length true) = false ∧ i = row.getD t 0) := fun z => by
          rw [← z.2] at hg
          have h1 := (List.getElem?_eq_some_iff.mp hk).1
          exact c ((List.getElem?_inj h1 hr).mp (by rw [hk, hg]))
        rw [if_neg ne, if_neg ne]
        exact (a3 k hk).1 (by omega)
    · have ne : ¬ (drawsM M (List.replicate pl.length true) = false ∧ i = row.getD t 0) := fun z => by
        rw [← z.2] at hg
        have h1 := (List.getElem?_eq_some_iff.mp hk).1
        have := (List.getElem?_inj h1 hr).mp (show row[k]? = row[t]? by rw [hk, hg])
        omega
      rw [if_neg ne]
      exact (a3 k hk).2 (by omega)
theorem even0 (ho : OpenOk st pl ws) (hI : IsOrd (winsM st pl ws) row) : Even st pl row 0 (cir0 st pl ws bd row) := by
  refine ⟨good0 ho hI, rfl, List.length_map _, rfl, rfl, rfl, rfl, fun i s hs => ?_⟩
  have hs : (pl.map seat0)[i]? = some s := hs
  rw [List.getElem?_map] at hs
  obtain ⟨p, hp, rfl⟩ := Option.map_eq_some_iff.mp hs
  exact ⟨hp, fun z => (nomatch z), fun k hk => ⟨fun h => absurd h (Nat.not_lt_zero _), fun _ => rfl⟩⟩
theorem Even.refs (h : Even st pl row t M) : refM M = pl := by
  unfold refM
  apply List.ext_getElem?
  intro i
  rw [List.getElem?_map]
  by_cases hi : i < M.seats.length
  · obtain ⟨s, hs⟩ := seat_at hi
    obtain ⟨h1, h2, _⟩ := h.at_ i s hs
    rw [hs, h1]
    show some (s.pledge + if s.st = .f then s.given else 0) = _
    rw [if_neg h2, Int.add_zero]
  · rw [List.getElem?_eq_none (by omega), List.getElem?_eq_none (by rw [← h.len]; omega)]
    rfl
theorem Even.owed (h : Even st pl row t M) {i : Nat} {s : SeatM} (hs : M.seats[i]? = some s) : owedM M i s = st * ((pl.length : Int) - (t : Int)) := by
  unfold owedM
  rw [if_neg (h.at_ i s hs).2.1, h.stk, h.len, h.opn]
  congr 1
  omega
theorem Even.exp (h : Even st pl row t M) (hr : row.Nodup) {i k : Nat} {s : SeatM} (hs : M.seats[i]? = some s) (hk : row[k]? = some i) : expM M i s = (k : Int) + 1 := by
  obtain ⟨_, _, a3⟩ := h.at_ i s hs
  obtain ⟨b1, b2⟩ := a3 k hk
  unfold expM
  by_cases c : k < t
  · obtain ⟨b3, b4⟩ := b1 c
    rw [b3]
    exact b4
  · rw [b2 (by omega)]
    show M.opn + M.rests + ((M.line.idxOf i : Nat) : Int) = _
    have hk' : (row.drop t)[k - t]? = some i := by
      rw [List.getElem?_drop, show t + (k - t) = k by omega]
      exact hk
    have hlt := (List.getElem?_eq_some_iff.mp hk').1
    have he : (row.drop t)[k - t] = i := (List.getElem?_eq_some_iff.mp hk').2
    have : (row.drop t).idxOf i = k - t := by
      have := List.Nodup.idxOf_getElem (xs := row.drop t) (hr.sublist (List.drop_sublist _ _)) (k - t) hlt
      rw [he] at this
      exact this
    rw [h.line, this, h.opn, h.rests]
    omega
theorem Even.expOk (h : Even st pl row t M) (i : Nat) : Su.expOk M i := fun s hs hw => (h.g.lw i).mpr ⟨s, hs, hw⟩
end
theorem nat_get {l : List Nat} {i : Nat} (h : i < l.length) : ((natI l).map V.int)[i]? = some (.int ((l.getD i 0 : Nat) : Int)) := by
  unfold natI
  rw [List.getElem?_map, List.getElem?_map, List.getElem?_eq_getElem h, List.getD_eq_getElem?_getD, List.getElem?_eq_getElem h]
  rfl
theorem atI_nat' {xs : List V} {z : Int} {i : Nat} {v : V} (h : z = (i : Int)) (hv : xs[i]? = some v) : atI xs z = some v := by
  rw [h]
  exact atI_nat hv
theorem el_slF {K : PySem.W.Frag} {σ : L2.St} {H : Hp} {ta tb : TE} {a : Addr} {l : List Nat} {k : Nat} (ha : Ev ta σ H (.ref a)) (hb : Ev tb σ H (.int ((k : Nat) : Int))) (hs : SqL K H a ((natI l).map V.int)) : EvL (tSl (rSlL K) ta (tPart tb) tNoPart) σ H ((natI (l.drop k)).map V.int) := by
  have := el_sl (K := K) ha (eo_some hb) eo_none hs
  rw [cut_from, ← List.map_drop] at this
  unfold natI at this ⊢
  rw [List.map_drop]
  exact this

end Su
namespace Su
/-! ### a circle is made -/
theorem CirD.mut_all {d : CirD} {a : Addr} (z : a ∈ d.mut) : a ∈ d.all := by
  unfold CirD.mut at z
  unfold CirD.all
  simp only [List.mem_cons, List.mem_append] at z ⊢
  rcases z with z | z | z | z
  · exact .inl z
  · exact .inr (.inl z)
  · exact .inr (.inr (.inr (.inr (.inr (.inl z)))))
  · exact .inr (.inr (.inr (.inr (.inr (.inr (.inl z))))))
theorem cir_made {C S : Addr} {T : List (Addr × Str)} {H6 H9 : Hp} {W : VK} {E : XK} {x dx pc q2 : Addr} {st : Int} {pl ws : List Int} {bd : Bool} {row : List Nat} (e69 : Ex H6 H9) (hx : H9 x = none) (hdx : H9 dx = none) (hne : dx ≠ x) (h8 : H9 pc = some (.lst (pl.map V.int))) (g2 : H9 q2 = some (.lst (ws.map V.int))) (ho : OpenOk st pl ws) (hT9 : LamX.Tabs T H9) (hg : greedy (winsM st pl ws) pl.length = some row)
    (k : ∀ H11 d, d.c = x → LamX.ExtN H6 H11 → LamX.Tabs T H11 → CirAt C S H11 d (cir0 st pl ws bd row) → (∀ c o, H6 c = some o → (∀ ps, o ≠ .tbl ps) → c ∉ d.all) → W .non H11) : spCir0 C S T [.ref x, .int st, .ref pc, .ref q2, .bl bd] (upd (upd H9 dx (.own x)) x (.ins C dx [])) W E := by
  have ex10 : Ex H9 (upd (upd H9 dx (.own x)) x (.ins C dx [])) := (Ex.new hdx).trans (Ex.new (by rw [upd_ne hne.symm]; exact hx))
  have ex := e69.trans ex10
  refine ⟨x, dx, st, pc, q2, pl, ws, bd, row, rfl, upd_same, ex10 _ _ h8, ex10 _ _ g2, ho, hT9.ext ex10, hg, fun H11 d hc hd hnw hfr hT11 hC => ?_⟩
  have hx6 : H6 x = none := fresh_back e69 hx
  subst hc
  refine k H11 d rfl (ext_of (exN_of ex) hfr fun c hc => by rw [List.mem_singleton.mp hc]; exact Nw.of hx6) hT11 hC fun c o hco hno z => ?_
  have h6 : Nw H6 c := by
    by_cases e : c = d.c
    · rw [e]; exact Nw.of hx6
    · exact Nw.back (exN_of ex) (hnw c z e)
  obtain ⟨ps, rfl⟩ := h6 _ hco
  exact hno ps rfl
theorem CirD.snoc {d : CirD} {c q : Addr} (h : c ∉ d.all) (hq : c ≠ q) : c ∉ ({ d with fl := d.fl ++ [q] } : CirD).all := fun z => by
  refine h ?_
  unfold CirD.all at z ⊢
  simp only [List.mem_cons, List.mem_append, List.not_mem_nil, or_false] at z ⊢
  rcases z with z | z | z | z | z | z | z | z | z
  · exact .inl z
  · exact .inr (.inl z)
  · exact .inr (.inr (.inl z))
  · exact .inr (.inr (.inr (.inl z)))
  · exact .inr (.inr (.inr (.inr (.inl z))))
  · exact .inr (.inr (.inr (.inr (.inr (.inl z)))))
  · exact .inr (.inr (.inr (.inr (.inr (.inr (.inl z))))))
  · exact .inr (.inr (.inr (.inr (.inr (.inr (.inr z))))))
  · exact absurd z hq

end Su
namespace Su
/-! ### a row of five values and two lists; two values are the same, raw -/
section
variable {K : PySem.W.Frag} {σ : L2.St} {H : Hp}
theorem te_row {t1 t2 t3 t4 t5 ta tb : TE} {v1 v2 v3 v4 v5 : V} {xs ys : List V} {Q : VK} (h1 : Ev t1 σ H v1) (h2 : Ev t2 σ H v2) (h3 : Ev t3 σ H v3) (h4 : Ev t4 σ H v4) (h5 : Ev t5 σ H v5) (ha : EvL ta σ H xs) (hb : EvL tb σ H ys)
    (k : ∀ p f g H1, H p = none → H f = none → H g = none → Ex H H1 → H1 p = some (.tup [v1, v2, v3, v4, v5, .ref f, .ref g]) → H1 f = some (.lst xs) → H1 g = some (.lst ys) → Q (.ref p) H1) : tTup (tCons t1 (tCons t2 (tCons t3 (tCons t4 (tCons t5 (tCons ta (tCons tb tNil))))))) σ H Q :=
  h1 H (Ex.refl H) _ fun H1 e1 => h2 H1 e1 _ fun H2 e2 => h3 H2 (e1.trans e2) _ fun H3 e3 => h4 H3 ((e1.trans e2).trans e3) _ fun H4 e4 => h5 H4 (((e1.trans e2).trans e3).trans e4) _ fun H5 e5 => by
    have e05 := (((e1.trans e2).trans e3).trans e4).trans e5
    refine ha H5 e05 _ fun f H6 hf e6 h6 => ?_
    have e06 := e05.trans e6
    refine hb H6 e06 _ fun g H7 hg e7 h7 => ?_
    exact ⟨sz_of (by show 7 ≤ 100000; decide), fun p hp => k p f g _ (fresh_back (e06.trans e7) hp) (fresh_back e05 hf) (fresh_back e06 hg) ((e06.trans e7).trans (Ex.new hp)) upd_same ((e7.trans (Ex.new hp)) _ _ h6) ((Ex.new hp) _ _ h7)⟩
theorem q_sameX {n : Nat} {tm tb : TE} {E : XK} {tA tz : TS} {D : Ends} (k : tm σ H fun v H1 => tb σ H1 fun w H2 => spSame K n [v, w] H2 (fun r H3 => ∃ c, r = .bl c ∧ (if (!c) = true then tA { D with nx := tz D } σ H3 else tz D σ H3)) E) : tSeq (tIfS (tNot (tB (tCall (spSame K n) [] E (tCons tm (tCons tb tNil))))) tA tNext) tz D σ H := k
theorem s_sameX {n : Nat} {tm tb : TE} {E : XK} {tA : TS} {D : Ends} (k : tm σ H fun v H1 => tb σ H1 fun w H2 => spSame K n [v, w] H2 (fun r H3 => ∃ c, r = .bl c ∧ (if (!c) = true then tA D σ H3 else D.nx σ H3)) E) : tIfS (tNot (tB (tCall (spSame K n) [] E (tCons tm (tCons tb tNil))))) tA tNext D σ H := k
theorem same_fin {n : Nat} {v w : V} {d : PyData} {E : XK} {A B : Hp → Prop} (hp : PlD n d) (h1 : Dp K H v d) (h2 : Dp K H w d) (k : ∀ H3, Ex H H3 → B H3) : spSame K n [v, w] H (fun r H3 => ∃ c, r = .bl c ∧ (if (!c) = true then A H3 else B H3)) E := ⟨v, w, d, rfl, hp, h1, h2, fun H3 e => ⟨true, rfl, k H3 e⟩⟩
theorem q_forL1 {tl : TE} {g : TG} {tb tz : TS} {D : Ends} {Pc : Addr → Hp → Prop} (hcall : ∀ Q : VK, (∀ p H1, Pc p H1 → Q (.ref p) H1) → tl σ H Q) (k : ∀ p H1, Pc p H1 → tSeq (tFor (iList K (tC (.ref p))) g tb) tz D σ H1) : tSeq (tFor (iList K tl) g tb) tz D σ H := hcall _ fun p H1 h => k p H1 h
end

end Su
namespace Su
theorem ev_ixN {K : PySem.W.Frag} {te tb : TE} {σ : L2.St} {H : Hp} {xs : List V} {z : Int} {v : V} (h : EvL te σ H xs) (hb : Ev tb σ H (.int z)) (hz : atI xs z = some v) : Ev (tOp (rIxL K) te tb) σ H v := fun H1 e Q q =>
  h H1 e _ fun p H2 _ e2 h2 => hb H2 (e.trans e2) _ fun H3 e3 => rv_ixL (sq_of (e3 _ _ h2)) hz H3 (Ex.refl _) _ fun H4 e4 => q H4 ((e2.trans e3).trans e4)

end Su
namespace Su
/-! ### a seat's tuple as data -/
section
variable {K : PySem.W.Frag}
def seatD (s : SeatM) : List PyData := [.str (stS s.st), .int s.since, .int s.pledge, .int s.given, .int s.drawn, .int s.shared, .int s.pst]
theorem dpa_seat {H : Hp} {s : SeatM} : DpAll K H (seatV s) (seatD s) := .cons (.str _) (.cons (.int _) (.cons (.int _) (.cons (.int _) (.cons (.int _) (.cons (.int _) (.cons (.int _) .nil))))))
theorem pld_seat {n : Nat} {s : SeatM} : PlD (n + 1) (.tuple (seatD s)) := .tuple (by show 7 ≤ 1000; decide) fun x hx => by
  unfold seatD at hx
  simp only [List.mem_cons, List.not_mem_nil, or_false] at hx
  rcases hx with rfl | rfl | rfl | rfl | rfl | rfl | rfl <;> constructor
end

end Su
namespace Su
/-! ### who pays by hand: any list of truth values of the asked length -/
section
variable {P : Program} {w : World} {K : PySem.W.Frag} {mg : Str → Option Value} {base : Heap}
def spBits : Sp := fun vs H Q _ => ∃ (x : Int) (n : Nat), vs = [.int x, .int (n : Int)] ∧ n ≤ 1000 ∧ ∀ (H' : Hp) (p : Addr) (bs : List Bool), H p = none → Ex H H' → H' p = some (.lst (bs.map V.bl)) → bs.length = n → Q (.ref p) H'
theorem ok__law_bits (T : Top K mg) : FnOk P w K mg base CX0 1 T.f__law_bits T.fd__law_bits ["_law_number", "_law_size"] spBits := by
  have nd := sc__law_bits.nd
  refine T.F__law_bits.ok sc__law_bits (fun vs H Q E h => ?_) (fun cdv A outer s H vs Q E hr h => ?_)
  · obtain ⟨x, n, rfl, _⟩ := h
    rfl
  · obtain ⟨x, n, rfl, hn, q⟩ := h
    refine ⟨_, (pss_cons (ps_set (i := 2) nd rfl (.inl rfl) (pe_lst pa_nil))
      (pss_cons (ps_for PassesOwn.never rfl (pi_range1 rfl T.m_range (pa_cons (pv 1) pa_nil)) (pg_name (i := 3) nd rfl (.inl rfl))
        (pss_cons (ps_expr (pe_bm PySem.F.plainAttrs_list PySem.F.slot_list_append PySem.F.type_list_append mt_append (pv 2) (pa_cons (pe_cmpR op_eq (pe_op op_mod (pv 0) pe_int) pe_int (nomark _)) pa_nil)))
          (pss_one (ps_set (i := 0) nd rfl (.inl rfl) (pe_op op_fdiv (pv 0) pe_int)))))
      (pss_one (ps_ret (pv 2))))), ?_⟩
    refine q_asgL (el_lst ea_nil (by decide)) fun pb H1 hpb e1 h1 => ?_
    refine q_forR1 (n := (n : Int)) (by walk_at "ea") (by omega) (fun i σ' H' => ∃ (z : Int) (bs : List Bool) (y3 : Option V), σ' = [some (.int z), some (.int (n : Int)), some (.ref pb), y3] ∧ Ex H H' ∧ H' pb = some (.lst (bs.map V.bl)) ∧ bs.length = i) ?_ ?_ ?_
    · intro H2 e2
      exact ⟨x, [], _, rfl, e1.trans e2, e2 _ _ h1, rfl⟩
    · rintro i σ' H2 hi ⟨z, bs, y3, rfl, ex, h2, hbl⟩
      refine q_app h2 (ev_var rfl) (ev_is (ev_op (ev_op (ev_var rfl) ev_c (Su.rv_mod (by decide))) ev_c (rv_eq rfl)) (congrArg V.bl int_eq)) (by rw [List.length_map]; omega) fun H3 e3 => ?_
      refine ((ev_op (ev_var rfl) ev_c (Su.rv_div (by decide) (by decide))) _ (Ex.refl _) _ fun H4 e4 => ?_)
      exact ⟨z / 2, bs ++ [decide (z % 2 = 1)], _, rfl, (Ex.mut (ex.trans e3) hpb).trans e4, by rw [e4 _ _ upd_same, List.map_append]; rfl, by rw [List.length_append, hbl]; rfl⟩
    · rintro σ' H2 ⟨z, bs, y3, rfl, ex, h2, hbl⟩
      refine s_ret (ev_var rfl) fun H3 e3 => ?_
      exact q H3 pb bs hpb (ex.trans e3) (e3 _ _ h2) (by omega)
def spPaid (K : PySem.W.Frag) : Sp := fun vs H Q _ => ∃ (a : Addr) (rows : List Int) (t n : Nat) (way : Int), vs = [.ref a, .int (t : Int), .int (n : Int), .int way] ∧ SqL K H a (rows.map V.int) ∧ 1 ≤ t ∧ 2 * t ≤ rows.length ∧ 1 ≤ n ∧ n ≤ 1000 ∧ ∀ (H' : Hp) (p : Addr) (bs : List Bool), H p = none → Ex H H' → H' p = some (.lst (bs.map V.bl)) → bs.length = n → Q (.ref p) H'
theorem ok__law_paid (T : Top K mg) : FnOk P w K mg base CX0 2 T.f__law_paid T.fd__law_paid ["_law_some", "_law_turn", "_law_size", "_law_way"] (spPaid K) := by
  have nd := sc__law_paid.nd
  have G__law_bits : FnOk P w K mg base CX0 1 T.f__law_bits T.fd__law_bits ["_law_number", "_law_size"] spBits := ok__law_bits T
  refine T.F__law_paid.ok sc__law_paid (fun vs H Q E h => ?_) (fun cdv A outer s H vs Q E hr h => ?_)
  · obtain ⟨a, rows, t, n, way, rfl, _⟩ := h
    rfl
  · obtain ⟨a, rows, t, n, way, rfl, hs, ht1, htl, hn1, hn, q⟩ := h
    refine ⟨_, (pss_cons (ps_set (i := 4) nd rfl (.inl rfl) (pe_ix ix_list (pv 0) (pe_op op_sub (pe_op op_mul pe_int (pv 1)) pe_int) (fun _ _ => rfl)))
      (pss_cons (ps_set (i := 5) nd rfl (.inl rfl) (pe_ix ix_list (pv 0) (pe_op op_sub (pe_op op_mul pe_int (pv 1)) pe_int) (fun _ _ => rfl)))
      (pss_cons (ps_if (pt_cmpR op_eq (pe_op op_mod (pv 3) pe_int) pe_int (nomark _))
        (pss_one (ps_ret (pe_call G__law_bits (hr.mono (by omega)) (by rfl) T.m__law_bits T.F__law_bits.kp T.b__law_bits .nil pass0 (pa_cons (pe_op op_or (pv 4) (pv 5)) (pa_cons (pv 2) pa_nil)))))
        pss_nil)
      (pss_cons (ps_if (pt_cmpR op_eq (pe_op op_mod (pv 3) pe_int) pe_int (nomark _))
        (pss_one (ps_ret (pe_call G__law_bits (hr.mono (by omega)) (by rfl) T.m__law_bits T.F__law_bits.kp T.b__law_bits .nil pass0 (pa_cons (pv 4) (pa_cons (pv 2) pa_nil)))))
        pss_nil)
      (pss_cons (ps_set (i := 6) nd rfl (.inl rfl) (pe_op op_rep (pe_lst (pa_cons pe_bl pa_nil)) (pv 2)))
      (pss_cons (ps_asg (pe_cmpR op_eq (pe_op op_mod (pv 5) pe_int) pe_int (nomark _)) (pg_sub (pv 6) (pe_op op_mod (pv 4) (pv 2)) set_list))
      (pss_cons (ps_if (pt_cmpR op_eq (pe_op op_mod (pv 3) pe_int) pe_int (nomark _))
        (pss_one (ps_asg pe_bl (pg_sub (pv 6) (pe_op op_mod (pv 5) (pv 2)) set_list)))
        pss_nil)
      (pss_one (ps_ret (pv 6)))))))))), ?_⟩
    have g0 : atI (rows.map V.int) (2 * (t : Int) - 2) = some (.int (rows.getD (2 * (t : Int) - 2).toNat 0)) := Su.at_rows (by omega) (by omega)
    have g1 : atI (rows.map V.int) (2 * (t : Int) - 1) = some (.int (rows.getD (2 * (t : Int) - 1).toNat 0)) := Su.at_rows (by omega) (by omega)
    generalize rows.getD (2 * (t : Int) - 2).toNat 0 = z0 at g0
    generalize rows.getD (2 * (t : Int) - 1).toNat 0 = z1 at g1
    refine q_asg (v := .int z0) (ev_op (ev_var rfl) (ev_op (ev_op ev_c (ev_var rfl) (Su.rv_mul (Su.CMul.l (by decide) (by decide)))) ev_c rv_I0) (rv_ixL hs g0)) fun H1 e1 => ?_
    refine q_asg (v := .int z1) (ev_op (ev_var rfl) (ev_op (ev_op ev_c (ev_var rfl) (Su.rv_mul (Su.CMul.l (by decide) (by decide)))) ev_c rv_I0) (rv_ixL (ex_l e1 hs) g1)) fun H2 e2 => ?_
    refine q_when (et_is (et_test (ev_op (ev_op (ev_var rfl) ev_c (Su.rv_mod (by decide))) ev_c (rv_eq rfl))) int_eq) (fun hb H3 e3 => ?_) (fun hb H3 e3 => ?_)
    · refine te_call (vs := [.int (Builtin.bitOr z0 z1), .int (n : Int)]) (ea_cons (ev_op (ev_var rfl) (ev_var rfl) rv_I0) (ea_cons (ev_var rfl) ea_nil)) fun H4 e4 => ?_
      exact ⟨_, n, rfl, hn, fun H5 p bs hp e5 h5 hl => q H5 p bs (fresh_back (((e1.trans e2).trans e3).trans e4) hp) ((((e1.trans e2).trans e3).trans e4).trans e5) h5 hl⟩
    refine q_when (et_is (et_test (ev_op (ev_op (ev_var rfl) ev_c (Su.rv_mod (by decide))) ev_c (rv_eq rfl))) int_eq) (fun hb H4 e4 => ?_) (fun hb H4 e4 => ?_)
    · refine te_call (vs := [.int z0, .int (n : Int)]) (ea_cons (ev_var rfl) (ea_cons (ev_var rfl) ea_nil)) fun H5 e5 => ?_
      exact ⟨_, n, rfl, hn, fun H6 p bs hp e6 h6 hl => q H6 p bs (fresh_back ((((e1.trans e2).trans e3).trans e4).trans e5) hp) (((((e1.trans e2).trans e3).trans e4).trans e5).trans e6) h6 hl⟩
    have e14 := ((e1.trans e2).trans e3).trans e4
    refine q_asgL (el_rep1 (k := (n : Int)) (el_lst (ea_cons ev_c ea_nil) (by show 1 ≤ 100000; decide)) (ev_var rfl) (by omega) (by omega)) fun pb H5 hpb e5 h5 => ?_
    rw [Int.toNat_natCast, ← List.map_replicate (f := V.bl)] at h5
    have hpb0 := fresh_back e14 hpb
    have mod : ∀ z : Int, ∃ k : Nat, z % (n : Int) = (k : Int) ∧ k < n := fun z => by
      have m0 := Int.emod_nonneg z (show (n : Int) ≠ 0 by omega)
      have m1 := Int.emod_lt_of_pos z (show (0 : Int) < n by omega)
      exact ⟨(z % (n : Int)).toNat, by omega, by omega⟩
    obtain ⟨k0, hk0, hk0n⟩ := mod z0
    obtain ⟨k1, hk1, hk1n⟩ := mod z1
    refine q_setL (j := k0) h5 (v := .bl (decide (z1 % 3 = 0))) (ev_is (ev_op (ev_op (ev_var rfl) ev_c (Su.rv_mod (by decide))) ev_c (rv_eq rfl)) (congrArg V.bl int_eq)) (ev_var rfl) (ev_is (ev_op (ev_var rfl) (ev_var rfl) (Su.rv_mod (by omega))) (by rw [hk0])) (by rw [List.length_map, List.length_replicate]; exact hk0n) fun H6 e6 => ?_
    have h6 : (upd H6 pb (.lst (((List.replicate n true).map V.bl).set k0 (.bl (decide (z1 % 3 = 0)))))) pb = some (.lst (((List.replicate n true).set k0 (decide (z1 % 3 = 0))).map V.bl)) := by rw [upd_same, List.map_set]
    have ex6 : Ex H (upd H6 pb (.lst (((List.replicate n true).map V.bl).set k0 (.bl (decide (z1 % 3 = 0)))))) := Ex.mut ((e14.trans e5).trans e6) hpb0
    generalize upd H6 pb (.lst (((List.replicate n true).map V.bl).set k0 (.bl (decide (z1 % 3 = 0))))) = H7 at h6 ex6
    have hl6 : ((List.replicate n true).set k0 (decide (z1 % 3 = 0))).length = n := by rw [List.length_set, List.length_replicate]
    generalize (List.replicate n true).set k0 (decide (z1 % 3 = 0)) = bs at h6 hl6
    refine q_if (et_is (et_test (ev_op (ev_op (ev_var rfl) ev_c (Su.rv_mod (by decide))) ev_c (rv_eq rfl))) int_eq) (fun hb H8 e8 => ?_) (fun hb H8 e8 => ?_)
    · refine s_setL (j := k1) (e8 _ _ h6) (v := .bl false) ev_c (ev_var rfl) (ev_is (ev_op (ev_var rfl) (ev_var rfl) (Su.rv_mod (by omega))) (by rw [hk1])) (by rw [List.length_map, hl6]; exact hk1n) fun H9 e9 => ?_
      have h9 : (upd H9 pb (.lst ((bs.map V.bl).set k1 (.bl false)))) pb = some (.lst ((bs.set k1 false).map V.bl)) := by rw [upd_same, List.map_set]
      refine s_ret (ev_var rfl) fun H10 e10 => ?_
      exact q H10 pb (bs.set k1 false) hpb0 ((Ex.mut ((ex6.trans e8).trans e9) hpb0).trans e10) (e10 _ _ h9) (by rw [List.length_set]; exact hl6)
    · refine s_ret (ev_var rfl) fun H10 e10 => ?_
      exact q H10 pb bs hpb0 ((ex6.trans e8).trans e10) ((e8.trans e10) _ _ h6) hl6
end

end Su
namespace Su
theorem pay_all (hl : M.seats.length = n) (h : ∀ i s, M.seats[i]? = some s → s.st ≠ .f ∧ i ∉ unpM M .w pd) : (payersM M pd).length = n := by
  have hp : (payersM M pd).Perm (List.range n) := perm_subN range_nd List.nodup_range fun x => by
    rw [List.mem_range, pay_in]
    constructor
    · rintro ⟨s, hs, _⟩
      have := (List.getElem?_eq_some_iff.mp hs).1
      omega
    · intro hx
      obtain ⟨s, hs⟩ := seat_at (M := M) (i := x) (by omega)
      exact ⟨s, hs, h x s hs⟩
  rw [hp.length_eq, List.length_range]

end Su
namespace Su
section
variable {st : Int} {pl ws : List Int} {row : List Nat}
/-- a planned place is covered by the pledge -/
theorem cover_of (ho : OpenOk st pl ws) (hI : IsOrd (winsM st pl ws) row) {k i : Nat} (hk : row[k]? = some i) : st * ((pl.length : Int) - (k : Int) - 1) ≤ pl.getD i 0 := by
  have hi : i < pl.length := by
    have := hI.1.mem_iff.mp (List.mem_of_getElem? hk)
    rw [List.mem_range, wins_len ho.lw] at this
    exact this
  obtain ⟨p, hp⟩ : ∃ p, pl[i]? = some p := ⟨_, List.getElem?_eq_getElem hi⟩
  obtain ⟨x, hx⟩ : ∃ x, ws[i]? = some x := ⟨_, List.getElem?_eq_getElem (by rw [ho.lw]; exact hi)⟩
  have h1 := (hI.2 k i hk).1
  unfold firstI at h1
  rw [wins_at hp hx] at h1
  have h2 : covM st (pl.length : Int) p ≤ (k : Int) + 1 := h1
  have h3 : (pl.length : Int) - p / st ≤ (k : Int) + 1 := by
    unfold covM at h2
    split at h2 <;> omega
  have s1 := ho.s1
  have hd : st * (p / st) ≤ p := Int.mul_ediv_self_le (by omega)
  have hm : st * ((pl.length : Int) - (k : Int) - 1) ≤ st * (p / st) := Int.mul_le_mul_of_nonneg_left (by omega) (by omega)
  rw [List.getD_eq_getElem?_getD, hp]
  show _ ≤ p
  omega
end

end Su
namespace Su
section
variable {K : PySem.W.Frag}
theorem rc_isi_tup {H : Hp} {t : Addr} {xs : List V} (h : H t = some (.tup xs)) : RC (rIsi K) [.ref t, .ty "tuple"] H (.bl true) := fun H1 e1 _ q => ⟨.ref t, .ty "tuple", .type "tuple", .type "tuple", true, rfl, .ty "tuple", .base (.tup (e1 _ _ h)), kit_ty (by decide +kernel), q H1 (Ex.refl H1)⟩
theorem ev_lenT {ta : TE} {σ : L2.St} {H : Hp} {t : Addr} {xs : List V} (ha : Ev ta σ H (.ref t)) (h : H t = some (.tup xs)) : Ev (tCB (rLenS K) (tCons ta tNil)) σ H (.int (xs.length : Int)) := ev_cb (ea_cons ha ea_nil) (rc_len (.inr (st_of h)))
end

end Su
namespace Su
/-! ### is_bar, good_paper -/
theorem inV_int {z : Int} {ns : List Int} : inV (.int z) (ns.map V.int) = decide (z ∈ ns) := by
  unfold inV
  induction ns with
  | nil => rfl
  | cons a r ih =>
    rw [List.map_cons, List.any_cons, ih]
    show ((a == z) || decide (z ∈ r)) = _
    by_cases h : z = a
    · subst h
      simp
    · rw [beq_eq_false_iff_ne.mpr (fun e => h e.symm)]
      simp [h]
theorem flat_ints {ns : List Int} : (ns.map V.int).all flatV = true := by
  rw [List.all_eq_true]
  intro x hx
  obtain ⟨z, _, rfl⟩ := List.mem_map.mp hx
  rfl
theorem given_filter (l : List Int) (p : Int → Bool) : given l.length (fun i => p (l.getD i 0)) (fun i => .int (l.getD i 0)) = (l.filter p).map V.int := by
  have h : (List.range l.length).map (fun i => l.getD i 0) = l := by
    apply List.ext_getElem?
    intro i
    rw [List.getElem?_map]
    by_cases hi : i < l.length
    · rw [List.getElem?_range hi, List.getElem?_eq_getElem hi]
      show some (l.getD i 0) = _
      rw [List.getD_eq_getElem?_getD, List.getElem?_eq_getElem hi]
      rfl
    · rw [List.getElem?_eq_none (by rw [List.length_range]; omega), List.getElem?_eq_none (by omega)]
      rfl
  conv => rhs; rw [← h]
  unfold given
  rw [List.filter_map, List.map_map]
  rfl

end Su
namespace Su
/-! ### the best bid by walking the queue -/
def stepB (cov : Nat → Bool) (bs : List Int) (a : Nat × Int) (i : Nat) : Nat × Int := if (decide (bs.getD i 0 > a.2) && cov i) = true then (i, bs.getD i 0) else a
theorem stepB_nn {cov : Nat → Bool} {bs : List Int} {a : Nat × Int} {i : Nat} (h : 0 ≤ a.2) : 0 ≤ (stepB cov bs a i).2 := by
  unfold stepB
  by_cases c : (decide (bs.getD i 0 > a.2) && cov i) = true
  · rw [if_pos c]
    have := of_decide_eq_true (Bool.and_eq_true .. ▸ c : _ ∧ _).1
    show 0 ≤ bs.getD i 0
    omega
  · rw [if_neg c]; exact h
theorem fold_filter {cov : Nat → Bool} {bs : List Int} : ∀ (l : List Nat) (a : Nat × Int), 0 ≤ a.2 → l.foldl (stepB cov bs) a = (l.filter fun i => decide (bs.getD i 0 > 0) && cov i).foldl (stepB cov bs) a
  | [], a, _ => rfl
  | i :: r, a, h => by
    rw [List.foldl_cons]
    by_cases c : (decide (bs.getD i 0 > 0) && cov i) = true
    · rw [List.filter_cons_of_pos (p := fun i => decide (bs.getD i 0 > 0) && cov i) c, List.foldl_cons, fold_filter r _ (stepB_nn h)]
    · rw [List.filter_cons_of_neg (p := fun i => decide (bs.getD i 0 > 0) && cov i) c]
      have : stepB cov bs a i = a := by
        unfold stepB
        rw [if_neg]
        intro z
        refine c ?_
        rw [Bool.and_eq_true] at z ⊢
        have := of_decide_eq_true z.1
        exact ⟨decide_eq_true (by omega), z.2⟩
      rw [this, fold_filter r a h]
theorem fold_congr {cov cov' : Nat → Bool} {bs : List Int} : ∀ (l : List Nat) (a : Nat × Int), (∀ i ∈ l, cov i = cov' i) → l.foldl (stepB cov bs) a = l.foldl (stepB cov' bs) a
  | [], _, _ => rfl
  | i :: r, a, h => by
    rw [List.foldl_cons, List.foldl_cons]
    have : stepB cov bs a i = stepB cov' bs a i := by
      unfold stepB
      rw [h i List.mem_cons_self]
    rw [this]
    exact fold_congr r _ fun j hj => h j (List.mem_cons_of_mem _ hj)
theorem fold_arg {cov : Nat → Bool} {bs : List Int} {c : List Nat} {x0 : Nat} (hc : ∀ i ∈ c, bs.getD i 0 > 0 ∧ cov i = true) : ∀ j, j < c.length → (c.take (j + 1)).foldl (stepB cov bs) (x0, 0) = (c.getD (argBest (fun i k => decide (bidAt c bs k < bidAt c bs i)) j) 0, bs.getD (c.getD (argBest (fun i k => decide (bidAt c bs k < bidAt c bs i)) j) 0) 0)
  | 0, hj => by
    have e : c.take 1 = [c.getD 0 0] := by
      cases c with
      | nil => exact absurd hj (Nat.lt_irrefl 0)
      | cons a r => rfl
    have hm : c.getD 0 0 ∈ c := by rw [List.getD_eq_getElem?_getD, List.getElem?_eq_getElem hj]; exact List.getElem_mem hj
    rw [e]
    show stepB cov bs (x0, 0) (c.getD 0 0) = _
    unfold stepB
    rw [if_pos (by rw [Bool.and_eq_true]; exact ⟨decide_eq_true (hc _ hm).1, (hc _ hm).2⟩)]
    rfl
  | j + 1, hj => by
    have hg : c[j + 1]? = some (c.getD (j + 1) 0) := by rw [List.getD_eq_getElem?_getD, List.getElem?_eq_getElem hj]; rfl
    have hm : c.getD (j + 1) 0 ∈ c := List.mem_of_getElem? hg
    rw [List.take_add_one, hg, Option.toList_some, List.foldl_append, fold_arg hc j (by omega)]
    show stepB cov bs _ (c.getD (j + 1) 0) = _
    have e : argBest (fun i k => decide (bidAt c bs k < bidAt c bs i)) (j + 1) = if decide (bidAt c bs (argBest (fun i k => decide (bidAt c bs k < bidAt c bs i)) j) < bidAt c bs (j + 1)) = true then j + 1 else argBest (fun i k => decide (bidAt c bs k < bidAt c bs i)) j := rfl
    rw [e]
    generalize argBest (fun i k => decide (bidAt c bs k < bidAt c bs i)) j = g
    unfold stepB bidAt
    rw [(hc _ hm).2, Bool.and_true]
    by_cases z : bs.getD (c.getD g 0) 0 < bs.getD (c.getD (j + 1) 0) 0
    · rw [if_pos (decide_eq_true z), if_pos (decide_eq_true z)]
    · rw [if_neg (by rw [decide_eq_false (by omega)]; decide), if_neg (by rw [decide_eq_false z]; decide)]
theorem best_fold {M : CirM} {bids : List Int} : bestM M bids = M.line.foldl (stepB (fun i => M.bid && covB M i M.opn) bids) (M.line.getD 0 0, 0) := by
  have hf : (M.line.filter fun i => decide (bids.getD i 0 > 0) && (M.bid && covB M i M.opn)) = cntM M bids := by
    unfold cntM
    by_cases c : M.bid = true
    · rw [if_pos c, c]
      rfl
    · have c : M.bid = false := by simpa using c
      rw [c, if_neg (by decide)]
      apply List.filter_eq_nil_iff.mpr
      intro i _
      simp
  rw [fold_filter _ _ (Int.le_refl 0), hf]
  have hc : ∀ i ∈ cntM M bids, bids.getD i 0 > 0 ∧ (M.bid && covB M i M.opn) = true := fun i hi => by
    rw [← hf, List.mem_filter, Bool.and_eq_true] at hi
    exact ⟨of_decide_eq_true hi.2.1, hi.2.2⟩
  unfold bestM
  by_cases c : cntM M bids = []
  · rw [if_pos c, c]
    rfl
  · rw [if_neg c]
    have hl := List.length_pos_iff.mpr c
    have := fold_arg (x0 := M.line.getD 0 0) hc ((cntM M bids).length - 1) (by omega)
    rw [List.take_of_length_le (by omega)] at this
    exact this.symm
theorem oth_len {l : List Nat} {w : Nat} (hn : l.Nodup) (hw : w ∈ l) : ((othM l w).length : Int) = (l.length : Int) - 1 := by
  have h1 := part_len (p := fun i => decide (i = w)) l
  have h2 : l.filter (fun i => decide (i = w)) = [w] := by
    have : (l.filter (fun i => decide (i = w))).Perm [w] := perm_subN (hn.filter _) (by simp) fun x => by
      rw [List.mem_filter, List.mem_singleton]
      exact ⟨fun z => of_decide_eq_true z.2, fun z => ⟨by rw [z]; exact hw, decide_eq_true z⟩⟩
    exact List.perm_singleton.mp this
  rw [h2] at h1
  have : [w].length = 1 := rfl
  unfold othM
  omega
theorem oth_in {l : List Nat} {w i : Nat} : i ∈ othM l w ↔ i ∈ l ∧ i ≠ w := by
  unfold othM
  rw [List.mem_filter]
  constructor
  · rintro ⟨h1, h2⟩
    exact ⟨h1, by simpa using h2⟩
  · rintro ⟨h1, h2⟩
    exact ⟨h1, by simpa using h2⟩

end Su
namespace Su
/-! ### sums along lists, and over a circle's seats -/
def sumL {α : Type} (L : List α) (f : α → Int) : Int := (L.map f).sum
section
variable {α : Type} {f g : α → Int}
theorem sumL_nil : sumL ([] : List α) f = 0 := rfl
theorem sumL_cons {a : α} {L : List α} : sumL (a :: L) f = f a + sumL L f := by unfold sumL; rw [List.map_cons, List.sum_cons]
theorem sumL_add : ∀ L : List α, sumL L (fun x => f x + g x) = sumL L f + sumL L g
  | [] => rfl
  | a :: L => by rw [sumL_cons, sumL_cons, sumL_cons, sumL_add L]; omega
theorem sumL_sub : ∀ L : List α, sumL L (fun x => f x - g x) = sumL L f - sumL L g
  | [] => rfl
  | a :: L => by rw [sumL_cons, sumL_cons, sumL_cons, sumL_sub L]; omega
theorem sumL_congr : ∀ {L : List α}, (∀ x ∈ L, f x = g x) → sumL L f = sumL L g
  | [], _ => rfl
  | a :: L, h => by rw [sumL_cons, sumL_cons, h a List.mem_cons_self, sumL_congr fun x hx => h x (List.mem_cons_of_mem _ hx)]
theorem sumL_app {M : List α} : ∀ L : List α, sumL (L ++ M) f = sumL L f + sumL M f
  | [] => by rw [List.nil_append, sumL_nil, Int.zero_add]
  | a :: L => by rw [List.cons_append, sumL_cons, sumL_cons, sumL_app L]; omega
theorem sumL_if {p : α → Bool} {c : Int} : ∀ L : List α, sumL L (fun x => if p x = true then c else 0) = c * ((L.filter p).length : Int)
  | [] => by rw [sumL_nil, List.filter_nil]; exact (Int.mul_zero c).symm
  | a :: L => by
    rw [sumL_cons, sumL_if L]
    by_cases h : p a = true
    · rw [if_pos h, List.filter_cons_of_pos h, List.length_cons]
      push_cast
      rw [Int.mul_add, Int.mul_one]
      omega
    · rw [if_neg h, List.filter_cons_of_neg h, Int.zero_add]
theorem sumL_nn : ∀ {L : List α}, (∀ x ∈ L, 0 ≤ f x) → 0 ≤ sumL L f
  | [], _ => Int.le_refl 0
  | a :: L, h => by
    rw [sumL_cons]
    have := h a List.mem_cons_self
    have := sumL_nn fun x hx => h x (List.mem_cons_of_mem _ hx)
    omega
end
theorem sum_in {n : Nat} {l : List Nat} {c : Int} (hn : l.Nodup) (hl : ∀ i ∈ l, i < n) : sumL (List.range n) (fun i => if i ∈ l then c else 0) = c * (l.length : Int) := by
  have h1 : sumL (List.range n) (fun i => if i ∈ l then c else 0) = sumL (List.range n) (fun i => if decide (i ∈ l) = true then c else 0) := sumL_congr fun x _ => by
    by_cases h : x ∈ l
    · rw [if_pos h, if_pos (decide_eq_true h)]
    · rw [if_neg h, if_neg (by rw [decide_eq_false h]; decide)]
  have h2 : ((List.range n).filter fun i => decide (i ∈ l)).Perm l := perm_subN range_nd hn fun x => by
    rw [List.mem_filter, List.mem_range]
    exact ⟨fun z => of_decide_eq_true z.2, fun z => ⟨hl x z, decide_eq_true z⟩⟩
  rw [h1, sumL_if, h2.length_eq]
theorem sum_one {n w : Nat} {c : Int} (hw : w < n) : sumL (List.range n) (fun i => if i = w then c else 0) = c := by
  have h1 : sumL (List.range n) (fun i => if i = w then c else 0) = sumL (List.range n) (fun i => if i ∈ [w] then c else 0) := sumL_congr fun x _ => by
    by_cases h : x = w
    · rw [if_pos h, if_pos (List.mem_singleton.mpr h)]
    · rw [if_neg h, if_neg fun z => h (List.mem_singleton.mp z)]
  rw [h1, sum_in (by simp) fun i hi => by rw [List.mem_singleton.mp hi]; exact hw]
  exact Int.mul_one c
theorem sum_range {n : Nat} {f : Nat → Int} : sumL (List.range (n + 1)) f = sumL (List.range n) f + f n := by
  rw [List.range_succ, sumL_app, sumL_cons, sumL_nil, Int.add_zero]
theorem sum_const {n : Nat} {c : Int} : sumL (List.range n) (fun _ => c) = c * (n : Int) := by
  induction n with
  | zero => exact (Int.mul_zero c).symm
  | succ n ih => rw [sum_range, ih]; push_cast; rw [Int.mul_add, Int.mul_one]
def atS (M : CirM) (π : SeatM → Int) (i : Nat) : Int := match M.seats[i]? with
  | some s => π s
  | none => 0
def sumS (M : CirM) (π : SeatM → Int) : Int := sumL (List.range M.seats.length) (atS M π)
def stA (s : SeatM) : Int := s.drawn + s.shared - s.given
def fgA (s : SeatM) : Int := if s.st = .f then s.given else 0
def fcA (s : SeatM) : Int := if s.st = .f then 1 else 0
section
variable {M : CirM} {paid : List Bool} {bids : List Int} {i : Nat} {s : SeatM} {π ρ : SeatM → Int}
theorem atS_some (h : M.seats[i]? = some s) : atS M π i = π s := by unfold atS; rw [h]
theorem stand_sum : (standM M).sum = sumS M stA := by
  unfold standM sumS sumL
  congr 1
  apply List.ext_getElem?
  intro i
  rw [List.getElem?_map, List.getElem?_map]
  by_cases c : i < M.seats.length
  · obtain ⟨s, hs⟩ := seat_at c
    rw [hs, List.getElem?_range c]
    show some _ = some (atS M stA i)
    rw [atS_some hs]
    rfl
  · rw [List.getElem?_eq_none (by omega), List.getElem?_eq_none (by rw [List.length_range]; omega)]
    rfl
/-- how a sum changes by a close -/
theorem sumS_close {dl : Nat → Int} (h : ∀ i s, M.seats[i]? = some s → π (endS M paid bids i s) = π s + dl i) : sumS (closeM M paid bids) π = sumS M π + sumL (List.range M.seats.length) dl := by
  unfold sumS
  rw [close_len, ← sumL_add]
  refine sumL_congr fun i hi => ?_
  obtain ⟨s, hs⟩ := seat_at (List.mem_range.mp hi)
  rw [atS_some hs, atS_some (by rw [close_at, hs]; rfl), h i s hs]
theorem pay_nd : (payersM M paid).Nodup := by unfold payersM payM; exact range_nd
theorem pay_lt (h : i ∈ payersM M paid) : i < M.seats.length := by
  obtain ⟨s, hs, _⟩ := pay_in.mp h
  exact (List.getElem?_eq_some_iff.mp hs).1
theorem unp_nd {t : SSt} : (unpM M t paid).Nodup := by unfold unpM; exact range_nd
theorem unp_lt {t : SSt} (h : i ∈ unpM M t paid) : i < M.seats.length := by
  obtain ⟨s, hs, _⟩ := unp_in.mp h
  exact (List.getElem?_eq_some_iff.mp hs).1
/-- who draws waits, and has not fallen in this round -/
theorem Good.wonW (h : Good M) (hd : drawsM M paid = false) (ho : M.opn ≤ M.seats.length) : (∃ s, M.seats[wonM M paid bids]? = some s ∧ s.st = .w) ∧ wonM M paid bids ∉ unpM M .w paid := by
  have := h.midLw.mp (h.wonIn (paid := paid) (bids := bids) hd ho)
  exact ⟨(h.lw _).mp this.1, this.2⟩
theorem Good.wonPay (h : Good M) (hd : drawsM M paid = false) (ho : M.opn ≤ M.seats.length) : wonM M paid bids ∈ payersM M paid := by
  obtain ⟨⟨s, hs, hw⟩, hn⟩ := h.wonW (bids := bids) hd ho
  exact pay_in.mpr ⟨s, hs, by rw [hw]; exact (by decide), hn⟩
theorem stand_close (h : Good M) (ho : M.opn ≤ M.seats.length) (h0 : ∀ (i : Nat) (s : SeatM), M.seats[i]? = some s → s.st = .w → s.drawn = 0) : sumS (closeM M paid bids) stA = sumS M stA - M.stake * ((payersM M paid).length : Int) + if drawsM M paid = true then 0 else potM M := by
  by_cases c : drawsM M paid = true
  · have c0 : ¬ drawsM M paid = false := by rw [c]; decide
    rw [if_pos c, sumS_close (dl := fun i => 0 - if i ∈ payersM M paid then M.stake else 0), sumL_sub, sum_in pay_nd fun i hi => pay_lt hi, sum_const, Int.zero_mul]
    · omega
    · intro i s hs
      unfold stA
      rw [end_drawn, end_shared, end_given, if_neg (fun z => c0 z.1), if_neg (fun z => c0 z.1)]
      by_cases e : i ∈ payersM M paid
      · rw [if_pos e, if_pos e]; omega
      · rw [if_neg e, if_neg e]; omega
  · have c0 : drawsM M paid = false := by simpa using c
    obtain ⟨⟨sw, hsw, hww⟩, hnu⟩ := h.wonW (bids := bids) c0 ho
    have hwl : wonM M paid bids < M.seats.length := (List.getElem?_eq_some_iff.mp hsw).1
    have ond : (othM (payersM M paid) (wonM M paid bids)).Nodup := by unfold othM; exact pay_nd.filter _
    rw [if_neg c, sumS_close (dl := fun i => ((if i = wonM M paid bids then coinM M paid bids else 0) + if i ∈ othM (payersM M paid) (wonM M paid bids) then shrM M paid bids else 0) - if i ∈ payersM M paid then M.stake else 0), sumL_sub, sumL_add, sum_in pay_nd fun i hi => pay_lt hi, sum_one hwl, sum_in ond fun i hi => pay_lt (oth_in.mp hi).1]
    · unfold coinM
      rw [mid_pot]
      omega
    · intro i s hs
      unfold stA
      rw [end_drawn, end_shared, end_given]
      by_cases e1 : i = wonM M paid bids
      · have hsd : s.drawn = 0 := by
          rw [e1, hsw] at hs
          cases hs
          exact h0 _ _ hsw hww
        rw [if_pos ⟨c0, e1⟩, if_pos e1, if_neg (fun z => (oth_in.mp z.2).2 e1), if_neg (fun z => (oth_in.mp z).2 e1), hsd]
        by_cases e : i ∈ payersM M paid
        · rw [if_pos e, if_pos e]; omega
        · rw [if_neg e, if_neg e]; omega
      · rw [if_neg (fun z => e1 z.2), if_neg e1]
        by_cases e2 : i ∈ othM (payersM M paid) (wonM M paid bids)
        · rw [if_pos ⟨c0, e2⟩, if_pos e2]
          by_cases e : i ∈ payersM M paid
          · rw [if_pos e, if_pos e]; omega
          · rw [if_neg e, if_neg e]; omega
        · rw [if_neg (fun z => e2 z.2), if_neg e2]
          by_cases e : i ∈ payersM M paid
          · rw [if_pos e, if_pos e]; omega
          · rw [if_neg e, if_neg e]; omega
theorem fell_close (h : Good M) (ho : M.opn ≤ M.seats.length) : sumS (closeM M paid bids) fcA = sumS M fcA + ((unpM M .w paid).length : Int) := by
  rw [sumS_close (dl := fun i => if i ∈ unpM M .w paid then 1 else 0), sum_in unp_nd fun i hi => unp_lt hi, Int.one_mul]
  intro i s hs
  unfold fcA
  rw [end_st]
  by_cases e1 : drawsM M paid = false ∧ i = wonM M paid bids
  · obtain ⟨⟨sw, hsw, hww⟩, hnu⟩ := h.wonW (bids := bids) e1.1 ho
    rw [e1.2, hsw] at hs
    cases hs
    rw [if_pos e1, if_neg (by decide), hww, if_neg (by decide), e1.2, if_neg hnu]
    rfl
  · rw [if_neg e1]
    by_cases e : i ∈ unpM M .w paid
    · obtain ⟨s', hs', hw, _⟩ := unp_in.mp e
      rw [hs] at hs'
      cases hs'
      rw [if_pos e, if_pos rfl, hw, if_neg (by decide), if_pos e]
      rfl
    · rw [if_neg e, if_neg e, Int.add_zero]
theorem fgiv_close {v : Int} (h : Good M) (ho : M.opn ≤ M.seats.length) (hv : ∀ (i : Nat) (s : SeatM), M.seats[i]? = some s → s.st = .w → s.given = v) : sumS (closeM M paid bids) fgA = sumS M fgA + v * ((unpM M .w paid).length : Int) := by
  rw [sumS_close (dl := fun i => if i ∈ unpM M .w paid then v else 0), sum_in unp_nd fun i hi => unp_lt hi]
  intro i s hs
  unfold fgA
  rw [end_st, end_given]
  by_cases e1 : drawsM M paid = false ∧ i = wonM M paid bids
  · obtain ⟨⟨sw, hsw, hww⟩, hnu⟩ := h.wonW (bids := bids) e1.1 ho
    rw [e1.2, hsw] at hs
    cases hs
    rw [if_pos e1, if_neg (by decide), hww, if_neg (by decide), e1.2, if_neg hnu]
    rfl
  · rw [if_neg e1]
    by_cases e : i ∈ unpM M .w paid
    · obtain ⟨s', hs', hw, _⟩ := unp_in.mp e
      rw [hs] at hs'
      cases hs'
      have hnp : i ∉ payersM M paid := fun z => by
        obtain ⟨_, _, _, z2⟩ := pay_in.mp z
        exact z2 e
      rw [if_pos e, if_pos rfl, hw, if_neg (show ¬ SSt.w = SSt.f by decide), if_pos e, if_neg hnp, hv i s hs hw, Int.zero_add]
    · rw [if_neg e, if_neg e, Int.add_zero]
      by_cases c : s.st = .f
      · have hnp : i ∉ payersM M paid := fun z => by
          obtain ⟨s', hs', z1, _⟩ := pay_in.mp z
          rw [hs] at hs'
          cases hs'
          exact z1 c
        rw [if_pos c, if_pos c, if_neg hnp]
      · rw [if_neg c, if_neg c]
theorem pay_cnt (h : Good M) (ho : M.opn ≤ M.seats.length) : ((payersM M paid).length : Int) = (M.seats.length : Int) - sumS (closeM M paid bids) fcA := by
  have h1 := sum_in (c := 1) (n := M.seats.length) (pay_nd (M := M) (paid := paid)) fun i hi => pay_lt hi
  have h2 : sumL (List.range M.seats.length) (fun i => if i ∈ payersM M paid then (1 : Int) else 0) = sumL (List.range M.seats.length) (fun i => 1 - atS (closeM M paid bids) fcA i) := sumL_congr fun i hi => by
    obtain ⟨s, hs⟩ := seat_at (M := M) (List.mem_range.mp hi)
    rw [atS_some (s := endS M paid bids i s) (by rw [close_at, hs]; rfl)]
    unfold fcA
    rw [end_st]
    by_cases e1 : drawsM M paid = false ∧ i = wonM M paid bids
    · rw [if_pos e1, if_neg (show ¬ SSt.d = SSt.f by decide), if_pos (show i ∈ payersM M paid by rw [e1.2]; exact h.wonPay e1.1 ho)]
      rfl
    · rw [if_neg e1]
      by_cases e : i ∈ unpM M .w paid
      · have hnp : i ∉ payersM M paid := fun z => by
          obtain ⟨_, _, _, z2⟩ := pay_in.mp z
          exact z2 e
        rw [if_pos e, if_pos rfl, if_neg hnp]
        rfl
      · rw [if_neg e]
        by_cases c : s.st = .f
        · have hnp : i ∉ payersM M paid := fun z => by
            obtain ⟨s', hs', z1, _⟩ := pay_in.mp z
            rw [hs] at hs'
            cases hs'
            exact z1 c
          rw [if_pos c, if_neg hnp]
          rfl
        · rw [if_neg c, if_pos (pay_in.mpr ⟨s, hs, c, e⟩)]
          rfl
  have h3 : sumS (closeM M paid bids) fcA = sumL (List.range M.seats.length) (atS (closeM M paid bids) fcA) := by unfold sumS; rw [close_len]
  rw [h2, sumL_sub, sum_const, Int.one_mul, Int.one_mul, ← h3] at h1
  omega
end

end Su
namespace Su
/-! ### nobody empties a circle -/
def CovL (st : Int) (f : Nat → Int) : List Nat → Prop
  | [] => True
  | i :: r => st * (r.length : Int) ≤ f i ∧ CovL st f r
theorem CovL.sub {st : Int} {f : Nat → Int} (s1 : 0 ≤ st) {l l' : List Nat} (h : l'.Sublist l) : CovL st f l → CovL st f l' := by
  induction h with
  | slnil => exact id
  | cons a _ ih => exact fun z => ih z.2
  | cons_cons a hs ih =>
    intro z
    refine ⟨Int.le_trans (Int.mul_le_mul_of_nonneg_left ?_ s1) z.1, ih z.2⟩
    have := hs.length_le
    omega
structure Sound (st : Int) (pl : List Int) (t : Nat) (M : CirM) : Prop where
  g : Good M
  stk : M.stake = st
  len : M.seats.length = pl.length
  opn : M.opn = (t : Int) + 1
  box : M.chest = 0 - sumS M stA
  form : M.chest = sumS M fgA + st * (sumS M fcA * ((pl.length : Int) - (t : Int)) - M.rests * (pl.length : Int))
  box0 : 0 ≤ M.chest
  cov : CovL st (fun i => pl.getD i 0) M.line
  at_ : ∀ (i : Nat) (s : SeatM), M.seats[i]? = some s → s.pledge = pl.getD i 0 - st * s.pst ∧ 0 ≤ s.pledge ∧ 0 ≤ s.given ∧ (s.st ≠ .f → s.given = st * (t : Int)) ∧ (s.st = .w → s.drawn = 0 ∧ s.since = 0 ∧ s.pst = 0) ∧ (s.st = .d → 1 ≤ s.since ∧ s.since ≤ (t : Int) ∧ st * ((pl.length : Int) - (t : Int)) ≤ s.pledge)
section
variable {M : CirM} {paid : List Bool} {bids : List Int} {st : Int} {pl ws : List Int} {bd : Bool} {row : List Nat} {t : Nat}
theorem best_two {N : CirM} : ((bestM N bids).1 = N.line.getD 0 0 ∧ (bestM N bids).2 = 0) ∨ (N.bid = true ∧ covB N (bestM N bids).1 N.opn = true ∧ (bestM N bids).2 = bids.getD (bestM N bids).1 0) := by
  unfold bestM
  split
  · exact .inl ⟨rfl, rfl⟩
  · rename_i h
    have hpos := List.length_pos_iff.mpr h
    have hle := (arg_max (bidAt (cntM N bids) bids) ((cntM N bids).length - 1)).2
    generalize argBest (fun i j => decide (bidAt (cntM N bids) bids j < bidAt (cntM N bids) bids i)) ((cntM N bids).length - 1) = g at hle
    have hm : (cntM N bids).getD g 0 ∈ cntM N bids := by
      rw [List.getD_eq_getElem?_getD, List.getElem?_eq_getElem (by omega)]
      exact List.getElem_mem _
    refine .inr ⟨?_, ?_, rfl⟩
    · unfold cntM at hm
      split at hm
      · assumption
      · exact absurd hm List.not_mem_nil
    · show covB N ((cntM N bids).getD g 0) N.opn = true
      generalize (cntM N bids).getD g 0 = y at hm
      unfold cntM at hm
      split at hm
      · have := (List.mem_filter.mp hm).2
        rw [Bool.and_eq_true] at this
        exact this.2
      · exact absurd hm List.not_mem_nil
theorem Sound.n0 (h : Sound st pl t M) (ht : t < pl.length) : M.opn ≤ M.seats.length := by rw [h.opn, h.len]; omega
theorem Sound.won (h : Sound st pl t M) (s1 : 0 ≤ st) (ht : t < pl.length) (hd : drawsM M paid = false) {s : SeatM} (hs : M.seats[wonM M paid bids]? = some s) (hw : s.st = .w) : st * ((pl.length : Int) - (t : Int) - 1) ≤ s.pledge := by
  obtain ⟨a1, _, _, _, a5, _⟩ := h.at_ _ s hs
  obtain ⟨_, _, a8⟩ := a5 hw
  have hple : s.pledge = pl.getD (wonM M paid bids) 0 := by rw [a1, a8, Int.mul_zero, Int.sub_zero]
  rcases best_two (N := midM M paid) (bids := bids) with z | z
  · have hin := h.g.wonIn (bids := bids) hd (h.n0 ht)
    have hc : CovL st (fun i => pl.getD i 0) (midM M paid).line := h.cov.sub s1 (by rw [mid_line]; exact List.filter_sublist)
    have hl := (h.g.midOk (paid := paid)).2.2
    have hr : ¬ (midM M paid).rests > 0 := of_decide_eq_false hd
    have hr0 : (midM M paid).rests ≥ 0 := by rw [mid_rests]; have := h.g.r0; omega
    have e : wonM M paid bids = (midM M paid).line.getD 0 0 := z.1
    rw [hple, e]
    rw [h.len, h.opn] at hl
    cases hx : (midM M paid).line with
    | nil => rw [hx] at hin; exact absurd hin List.not_mem_nil
    | cons a r =>
      rw [hx] at hc hl
      rw [List.length_cons] at hl
      have h1 : st * (r.length : Int) ≤ pl.getD a 0 := hc.1
      show st * _ ≤ pl.getD a 0
      have : (pl.length : Int) - (t : Int) - 1 = (r.length : Int) := by push_cast at hl; omega
      rw [this]
      exact h1
  · have hc := z.2.1
    unfold covB at hc
    have hm : (midM M paid).seats[(bestM (midM M paid) bids).1]? = some (midS M paid (wonM M paid bids) s) := by
      have := mid_at (M := M) (paid := paid) (i := wonM M paid bids)
      rw [hs] at this
      exact this
    rw [hm] at hc
    have hc := of_decide_eq_true hc
    have hst : (midM M paid).stake = st := h.stk
    rw [mid_pledge, mid_opn, mid_len, hst, h.len, h.opn, if_neg (fun z => by
      obtain ⟨s', hs', hx, _⟩ := unp_in.mp z
      rw [hs] at hs'
      cases hs'
      rw [hw] at hx
      cases hx)] at hc
    have : (pl.length : Int) - (t : Int) - 1 = (pl.length : Int) - ((t : Int) + 1) := by omega
    rw [this]
    exact hc
theorem Sound.step (h : Sound st pl t M) (s1 : 0 ≤ st) (ht : t < pl.length) : Sound st pl (t + 1) (closeM M paid bids) := by
  have ho := h.n0 ht
  have hst := stand_close (paid := paid) (bids := bids) h.g ho fun i s hs hw => ((h.at_ i s hs).2.2.2.2.1 hw).1
  have hfc := fell_close (paid := paid) (bids := bids) h.g ho
  have hfg := fgiv_close (v := st * (t : Int)) (paid := paid) (bids := bids) h.g ho fun i s hs hw => (h.at_ i s hs).2.2.2.1 (by rw [hw]; decide)
  have hpc := pay_cnt (paid := paid) (bids := bids) h.g ho
  have hch := close_chest (M := M) (paid := paid) (bids := bids)
  have hcr := close_rests (M := M) (paid := paid) (bids := bids)
  have hpot : potM M = st * (pl.length : Int) := by unfold potM; rw [h.stk, h.len]
  have hf0 : 0 ≤ sumS M fcA := sumL_nn fun i hi => by
    obtain ⟨s, hs⟩ := seat_at (M := M) (List.mem_range.mp hi)
    rw [atS_some hs]
    unfold fcA
    split <;> decide
  have hg0 : 0 ≤ sumS M fgA := sumL_nn fun i hi => by
    obtain ⟨s, hs⟩ := seat_at (M := M) (List.mem_range.mp hi)
    rw [atS_some hs]
    unfold fgA
    split
    · exact (h.at_ i s hs).2.2.1
    · exact Int.le_refl 0
  rw [mid_chest, h.stk, hpot] at hch
  rw [mid_rests] at hcr
  rw [h.stk, hpot] at hst
  rw [h.len] at hpc
  have hr0 := h.g.r0
  have hdr : drawsM M paid = decide (M.rests + ((unpM M .w paid).length : Int) > 0) := by unfold drawsM; rw [mid_rests]
  have hform : (closeM M paid bids).chest = sumS (closeM M paid bids) fgA + st * (sumS (closeM M paid bids) fcA * ((pl.length : Int) - ((t + 1 : Nat) : Int)) - (closeM M paid bids).rests * (pl.length : Int)) := by
    rw [hfc] at hpc
    rw [hfg, hfc, hch, hcr, hpc, h.form]
    push_cast
    by_cases c : drawsM M paid = true
    · rw [if_pos c, if_pos c]
      generalize sumS M fgA = g
      generalize sumS M fcA = f
      generalize ((unpM M .w paid).length : Int) = u
      generalize (pl.length : Int) = n
      generalize M.rests = r
      grind
    · rw [if_neg c, if_neg c]
      have c' : ¬ (M.rests + ((unpM M .w paid).length : Int) > 0) := by
        rw [hdr] at c
        simpa using c
      have hu0 : ((unpM M .w paid).length : Int) = 0 := by omega
      have hm0 : M.rests = 0 := by omega
      rw [hu0, hm0]
      generalize sumS M fgA = g
      generalize sumS M fcA = f
      generalize (pl.length : Int) = n
      grind
  refine ⟨h.g.close ho, by rw [close_stake, h.stk], by rw [close_len, h.len], by rw [close_opn, h.opn]; push_cast; omega, ?_, hform, ?_, ?_, fun i s' hs' => ?_⟩
  · rw [hst, hch, h.box]
    split <;> omega
  · by_cases c : drawsM M paid = true
    · rw [hch, if_pos c]
      have h1 : 0 ≤ st * ((payersM M paid).length : Int) := Int.mul_nonneg s1 (by omega)
      have := h.box0
      omega
    · have c' : ¬ (M.rests + ((unpM M .w paid).length : Int) > 0) := by
        rw [hdr] at c
        simpa using c
      have hz : (closeM M paid bids).rests = 0 := by rw [hcr, if_neg c]; omega
      rw [hform, hz, Int.zero_mul, Int.sub_zero, hfg, hfc]
      have h1 : 0 ≤ st * ((sumS M fcA + ((unpM M .w paid).length : Int)) * ((pl.length : Int) - ((t + 1 : Nat) : Int))) := Int.mul_nonneg s1 (Int.mul_nonneg (by omega) (by omega))
      have h2 : 0 ≤ st * (t : Int) * ((unpM M .w paid).length : Int) := Int.mul_nonneg (Int.mul_nonneg s1 (by omega)) (by omega)
      omega
  · rw [close_line]
    unfold lineC
    have hs : (midM M paid).line.Sublist M.line := by rw [mid_line]; exact List.filter_sublist
    split
    · exact h.cov.sub s1 hs
    · exact h.cov.sub s1 ((List.erase_sublist).trans hs)
  · rw [close_at] at hs'
    obtain ⟨s, hs, rfl⟩ := Option.map_eq_some_iff.mp hs'
    obtain ⟨a1, a2, a3, a4, a5, a6⟩ := h.at_ i s hs
    have hd : i ∈ unpM M .d paid → s.st = .d := fun z => by
      obtain ⟨s', hs', b, _⟩ := unp_in.mp z
      rw [hs] at hs'
      cases hs'
      exact b
    have hw : i ∈ unpM M .w paid → s.st = .w := fun z => by
      obtain ⟨s', hs', b, _⟩ := unp_in.mp z
      rw [hs] at hs'
      cases hs'
      exact b
    have hp : s.st ≠ .f → i ∉ unpM M .w paid → i ∈ payersM M paid := fun z1 z2 => pay_in.mpr ⟨s, hs, z1, z2⟩
    have htn : st * ((pl.length : Int) - ((t + 1 : Nat) : Int)) = st * ((pl.length : Int) - (t : Int)) - st := by push_cast; grind
    have hgt : st * ((t + 1 : Nat) : Int) = st * (t : Int) + st := by push_cast; grind
    have hle : st ≤ st * ((pl.length : Int) - (t : Int)) := by
      have : st * 1 ≤ st * ((pl.length : Int) - (t : Int)) := Int.mul_le_mul_of_nonneg_left (by omega) s1
      omega
    have hps : st * (s.pst + 1) = st * s.pst + st := by grind
    rw [end_pledge, end_pst, end_given, end_st, end_drawn, end_since, h.stk, h.opn]
    refine ⟨?_, ?_, ?_, fun z => ?_, fun z => ?_, fun z => ?_⟩
    · split <;> omega
    · split
      · rename_i c
        have := (a6 (hd c)).2.2
        omega
      · exact a2
    · split <;> omega
    · by_cases e1 : drawsM M paid = false ∧ i = wonM M paid bids
      · have hpw := h.g.wonPay (bids := bids) e1.1 ho
        rw [← e1.2] at hpw
        obtain ⟨s', hs', b1, _⟩ := pay_in.mp hpw
        rw [hs] at hs'
        cases hs'
        rw [if_pos hpw, a4 b1, hgt]
      · rw [if_neg e1] at z
        by_cases e2 : i ∈ unpM M .w paid
        · rw [if_pos e2] at z
          exact absurd rfl z
        · rw [if_neg e2] at z
          rw [if_pos (hp z e2), a4 z, hgt]
    · by_cases e1 : drawsM M paid = false ∧ i = wonM M paid bids
      · rw [if_pos e1] at z
        cases z
      · rw [if_neg e1] at z ⊢
        by_cases e2 : i ∈ unpM M .w paid
        · rw [if_pos e2] at z
          cases z
        · rw [if_neg e2] at z ⊢
          obtain ⟨b1, b2, b3⟩ := a5 z
          rw [if_neg e1, if_neg fun y => by rw [hd y] at z; cases z]
          exact ⟨b1, b2, b3⟩
    · by_cases e1 : drawsM M paid = false ∧ i = wonM M paid bids
      · obtain ⟨⟨sw, hsw, hww⟩, _⟩ := h.g.wonW (paid := paid) (bids := bids) e1.1 ho
        have hcv := h.won s1 ht e1.1 hsw hww
        rw [← e1.2, hs] at hsw
        cases hsw
        rw [if_pos e1, if_neg fun y => by rw [hd y] at hww; cases hww]
        refine ⟨by omega, by push_cast; omega, ?_⟩
        have : (pl.length : Int) - ((t + 1 : Nat) : Int) = (pl.length : Int) - (t : Int) - 1 := by push_cast; omega
        rw [this]
        exact hcv
      · rw [if_neg e1] at z ⊢
        by_cases e2 : i ∈ unpM M .w paid
        · rw [if_pos e2] at z
          cases z
        · rw [if_neg e2] at z ⊢
          obtain ⟨b1, b2, b3⟩ := a6 z
          refine ⟨b1, by push_cast; omega, ?_⟩
          split <;> omega
theorem covL_of {f : Nat → Int} : ∀ {l : List Nat}, (∀ (k i : Nat), l[k]? = some i → st * ((l.length : Int) - (k : Int) - 1) ≤ f i) → CovL st f l
  | [], _ => trivial
  | a :: l, h => by
    refine ⟨?_, covL_of fun k i hk => ?_⟩
    · have := h 0 a rfl
      rw [List.length_cons] at this
      have e : ((l.length + 1 : Nat) : Int) - ((0 : Nat) : Int) - 1 = (l.length : Int) := by push_cast; omega
      rw [e] at this
      exact this
    · have := h (k + 1) i hk
      rw [List.length_cons] at this
      have e : ((l.length + 1 : Nat) : Int) - ((k + 1 : Nat) : Int) - 1 = (l.length : Int) - (k : Int) - 1 := by push_cast; omega
      rw [e] at this
      exact this
theorem sum_zero {M : CirM} {π : SeatM → Int} (h : ∀ (i : Nat) (s : SeatM), M.seats[i]? = some s → π s = 0) : sumS M π = 0 := by
  unfold sumS
  have : sumL (List.range M.seats.length) (atS M π) = sumL (List.range M.seats.length) (fun _ => 0) := sumL_congr fun i hi => by
    obtain ⟨s, hs⟩ := seat_at (M := M) (List.mem_range.mp hi)
    rw [atS_some hs, h i s hs]
  rw [this, sum_const, Int.zero_mul]
theorem sound0 (ho : OpenOk st pl ws) (hI : IsOrd (winsM st pl ws) row) : Sound st pl 0 (cir0 st pl ws bd row) := by
  have hrl : row.length = pl.length := by rw [hI.1.length_eq, List.length_range, wins_len ho.lw]
  have hsl : (cir0 st pl ws bd row).seats.length = pl.length := List.length_map _
  have hsa : ∀ (i : Nat) (s : SeatM), (cir0 st pl ws bd row).seats[i]? = some s → s = seat0 (pl.getD i 0) := fun i s hs => by
    have hs : (pl.map seat0)[i]? = some s := hs
    rw [List.getElem?_map] at hs
    obtain ⟨p, hp, rfl⟩ := Option.map_eq_some_iff.mp hs
    rw [List.getD_eq_getElem?_getD, hp]
    rfl
  have z1 : sumS (cir0 st pl ws bd row) stA = 0 := sum_zero fun i s hs => by rw [hsa i s hs]; rfl
  have z2 : sumS (cir0 st pl ws bd row) fgA = 0 := sum_zero fun i s hs => by rw [hsa i s hs]; rfl
  have z3 : sumS (cir0 st pl ws bd row) fcA = 0 := sum_zero fun i s hs => by rw [hsa i s hs]; rfl
  refine ⟨good0 ho hI, rfl, hsl, rfl, ?_, ?_, Int.le_refl 0, covL_of fun k i hk => ?_, fun i s hs => ?_⟩
  · rw [z1]; rfl
  · rw [z2, z3]
    show (0 : Int) = 0 + st * (0 * _ - 0 * _)
    rw [Int.zero_mul, Int.zero_mul]
    show (0 : Int) = 0 + st * 0
    rw [Int.mul_zero]
    rfl
  · have hk : row[k]? = some i := hk
    have := cover_of ho hI hk
    show st * ((row.length : Int) - _ - 1) ≤ _
    rw [hrl]
    exact this
  · have hi : i < pl.length := by rw [← hsl]; exact (List.getElem?_eq_some_iff.mp hs).1
    rw [hsa i s hs]
    have hp0 : 0 ≤ pl.getD i 0 := by
      rw [List.getD_eq_getElem?_getD, List.getElem?_eq_getElem hi]
      exact (ho.hp _ (List.getElem_mem hi)).1
    refine ⟨?_, hp0, Int.le_refl 0, fun _ => ?_, fun _ => ⟨rfl, rfl, rfl⟩, fun z => by cases z⟩
    · show pl.getD i 0 = pl.getD i 0 - st * 0
      rw [Int.mul_zero, Int.sub_zero]
    · show (0 : Int) = st * ((0 : Nat) : Int)
      rw [Int.natCast_zero, Int.mul_zero]
end

end Su
namespace Su
/-! ### for i, x in enumerate(xs), within a suite -/
theorem q_forE {K : PySem.W.Frag} {a : Addr} {xs : List V} {g : TG} {tb tz : TS} {D : Ends} {σ : L2.St} {H : Hp} {ta : TA} (h : EvA ta σ H [.ref a]) (hx : SqL K H a xs) (Pv : Nat → L2.St → Hp → Prop) (h0 : ∀ H1, Ex H H1 → Pv 0 σ H1) (hl : ∀ i σ' H', i ≤ xs.length → Pv i σ' H' → SqL K H' a xs)
    (hs : ∀ i x T σ' Hc, xs[i]? = some x → Pv i σ' Hc → Hc T = none → ∃ σ2, Tgt g (.ref T) σ' σ2 (upd Hc T (.tup [.int (i : Nat), x])) ∧ tb { D with nx := Pv (i + 1), ct := Pv (i + 1), bk := tz D } σ2 (upd Hc T (.tup [.int (i : Nat), x])))
    (hd : ∀ σ' H', Pv xs.length σ' H' → tz D σ' H') : tSeq (tFor (iEnum K ta) g tb) tz D σ H := s_forE (D := { D with nx := tz D }) h hx Pv h0 hl hs hd

end Su
namespace Su
theorem none_back {F : List Addr} {H H' : Hp} {p : Addr} (f : ExF F H H') (hp : H' p = none) (hd : ∀ a ∈ F, ∃ o, H' a = some o) : H p = none := by
  cases hx : H p with
  | none => rfl
  | some o =>
    exfalso
    by_cases c : p ∈ F
    · obtain ⟨o', ho⟩ := hd p c
      rw [hp] at ho
      cases ho
    · rw [f p o hx c] at hp
      cases hp

end Su
namespace Su
/-! ### terms unfolded by one step -/
section
variable {K : PySem.W.Frag} {σ : L2.St} {H : Hp} {D : Ends} {tz tA : TS}
theorem te_op {r : R2} {ta tb : TE} {Q : VK} (k : ta σ H fun x H1 => tb σ H1 fun y H2 => r x y H2 Q) : tOp r ta tb σ H Q := k
theorem te_lst {ta : TA} {Q : VK} (k : ta σ H fun xs H1 => xs.length ≤ sizeLine ∧ ∀ p, H1 p = none → Q (.ref p) (upd H1 p (.lst xs))) : tLst ta σ H Q := k
theorem s_retG {te : TE} (k : te σ H fun v H1 => D.rt v H1) : tRet te D σ H := k
theorem el_go {te : TE} {xs : List V} {Q : VK} (h : EvL te σ H xs) (k : ∀ p H1, H p = none → Ex H H1 → H1 p = some (.lst xs) → Q (.ref p) H1) : te σ H Q := h H (Ex.refl H) _ k
theorem cat_go {p q : Addr} {xs ys : List V} {Q : VK} (h1 : H p = some (.lst xs)) (h2 : H q = some (.lst ys)) (hz : xs.length + ys.length ≤ 100000) (k : ∀ r, H r = none → Q (.ref r) (upd H r (.lst (xs ++ ys)))) : rCat (.ref p) (.ref q) H Q := ⟨p, q, xs, ys, rfl, rfl, h1, h2, sz_of hz, k⟩
theorem q_setI {l : Addr} {xs : List V} {z : Int} {j : Nat} {te ta tb : TE} {v : V} (hl : H l = some (.lst xs)) (h : Ev te σ H v) (ho : Ev ta σ H (.ref l)) (hi : Ev tb σ H (.int z)) (hz : ixN xs.length z = some j) (k : ∀ H1, Ex H H1 → tz D σ (upd H1 l (.lst (xs.set j v)))) : tSeq (tAsg te (gSub ta tb rSetL)) tz D σ H :=
  h H (Ex.refl H) _ fun H1 e1 => ho H1 e1 _ fun H2 e2 => hi H2 (e1.trans e2) _ fun H3 e3 => ⟨l, xs, z, j, rfl, rfl, ((e1.trans e2).trans e3) _ _ hl, hz, k H3 ((e1.trans e2).trans e3)⟩
theorem s_retSame {n : Nat} {tm tb : TE} {E : XK} (k : tm σ H fun v H1 => tb σ H1 fun w H2 => spSame K n [v, w] H2 (fun r H3 => D.rt r H3) E) : tRet (tCall (spSame K n) [] E (tCons tm (tCons tb tNil))) D σ H := k
theorem te_callX {sp : Sp} {dvs : List V} {E : XK} {ta : TA} {Q : VK} (k : ta σ H fun vs H1 => sp (vs ++ dvs) H1 Q E) : tCall sp dvs E ta σ H Q := k
theorem te_tup {ta : TA} {Q : VK} (k : ta σ H fun xs H1 => xs.length ≤ sizeLine ∧ ∀ p, H1 p = none → Q (.ref p) (upd H1 p (.tup xs))) : tTup ta σ H Q := k
theorem ta_nilX {Q : List V → Hp → Prop} (k : Q [] H) : tNil σ H Q := k
theorem eu_go {te : TE} {xs : List V} {Q : VK} (h : EvU te σ H xs) (k : ∀ p H1, H p = none → Ex H H1 → H1 p = some (.tup xs) → Q (.ref p) H1) : te σ H Q := h H (Ex.refl H) _ k
theorem s_notX {te : TE} (k : te σ H fun r H3 => ∃ c, r = .bl c ∧ (if (!c) = true then tA D σ H3 else D.nx σ H3)) : tIfS (tNot (tB te)) tA tNext D σ H := k
theorem te_sl {r : V → Option Int → Option Int → Hp → VK → Prop} {te : TE} {tl th : TO} {Q : VK} (k : te σ H fun x H1 => tl σ H1 fun lo H2 => th σ H2 fun hi H3 => r x lo hi H3 Q) : tSl r te tl th σ H Q := k
end

end Su
namespace Su
/-! ### where a circle stands by its reports -/
structure LedM where
  stake : Int
  pl : List Int
  line : List Int
  bid : Bool
  drew : List Int
  opn : Int
  due : Int
structure RepM where
  turn : Int
  kind : Str
  who : Int
  coins : Int
  share : Int
  fal : List Int
  hlp : List Int
structure LedD where
  c : Addr
  dx : Addr
  pp : Addr
  pq : Addr
  pr : Addr
def lNs : List Str := ["stake", "pledges_left", "line", "bidding", "drawers", "open_round", "rests_due"]
theorem lNs_nd : lNs.Nodup := by decide +kernel
def ledV (d : LedD) (L : LedM) : List V := [.int L.stake, .ref d.pp, .ref d.pq, .bl L.bid, .ref d.pr, .int L.opn, .int L.due]
structure LedAt (C : Addr) (H : Hp) (d : LedD) (L : LedM) : Prop where
  hc : H d.c = some (.ins C d.dx (lNs.zip (ledV d L)))
  hp : H d.pp = some (.lst (L.pl.map V.int))
  hq : H d.pq = some (.lst (L.line.map V.int))
  hr : H d.pr = some (.lst (L.drew.map V.int))
  n1 : d.pp ≠ d.pq
  n2 : d.pp ≠ d.pr
  n3 : d.pq ≠ d.pr
structure RepAt (H : Hp) (t pf pg : Addr) (r : RepM) : Prop where
  ht : H t = some (.tup [.int r.turn, .str r.kind, .int r.who, .int r.coins, .int r.share, .ref pf, .ref pg])
  hf : H pf = some (.lst (r.fal.map V.int))
  hg : H pg = some (.lst (r.hlp.map V.int))
  ks : PyData.strOk r.kind = true
theorem RepAt.ex {H H' : Hp} {t pf pg : Addr} {r : RepM} (h : RepAt H t pf pg r) (e : Ex H H') : RepAt H' t pf pg r := ⟨e _ _ h.ht, e _ _ h.hf, e _ _ h.hg, h.ks⟩
theorem LedAt.ex {C : Addr} {H H' : Hp} {d : LedD} {L : LedM} (h : LedAt C H d L) (e : Ex H H') : LedAt C H' d L := ⟨e _ _ h.hc, e _ _ h.hp, e _ _ h.hq, e _ _ h.hr, h.n1, h.n2, h.n3⟩
structure LedOk (L : LedM) : Prop where
  s1 : 1 ≤ L.stake
  s2 : L.stake ≤ 1000000
  n2 : L.pl.length ≤ 100
  lr : ∀ x ∈ L.line, 0 ≤ x ∧ x < (L.pl.length : Int)
  dr : ∀ x ∈ L.drew, 0 ≤ x ∧ x < (L.pl.length : Int)
  ld : L.line.length + L.drew.length ≤ L.pl.length
  o1 : -1000 ≤ L.opn
  o2 : L.opn ≤ 1000
def growB (l : List Int) : Bool := (List.range (l.length - 1)).all fun i => decide (l.getD i 0 < l.getD (i + 1) 0)
def payL (L : LedM) (k : Nat) : Int := (L.line.length : Int) + (L.drew.length : Int) - (k : Int)
def dcoin (L : LedM) (share : Int) : Int := L.stake * (L.pl.length : Int) - share * (payL L 0 - 1)
def canP (L : LedM) (x : Int) : Bool := decide (x ∈ L.drew) && decide (L.pl.getD x.toNat 0 ≥ L.stake)
def canD (L : LedM) (who share : Int) : Bool :=
  if who ∉ L.line then false
  else if ¬ (L.pl.getD who.toNat 0 ≥ L.stake * ((L.pl.length : Int) - L.opn)) then false
  else if L.bid = false then decide (who = L.line.getD 0 0) && decide (share = 0)
  else if payL L 0 = 1 then decide (share = 0)
  else decide (share ≥ 0) && decide (dcoin L share ≥ 0)
def boxB (L : LedM) (r : RepM) : Bool := decide (r.kind = ("box" : Str)) && (decide (r.who = -1) && (decide (r.coins = L.stake * payL L r.fal.length) && decide (r.share = 0)))
def folM (L : LedM) (r : RepM) : Bool :=
  if r.turn ≠ L.opn ∨ r.turn > (L.pl.length : Int) then false
  else if (growB r.fal && r.fal.all (fun x => decide (x ∈ L.line))) = false then false
  else if (growB r.hlp && r.hlp.all (canP L)) = false then false
  else if L.due + (r.fal.length : Int) > 0 then boxB L r
  else decide (r.kind = ("draw" : Str)) && (canD L r.who r.share && decide (r.coins = dcoin L r.share))
def plsub (st : Int) (pl : List Int) (l : List Int) : List Int := l.foldl (fun p x => p.set x.toNat (p.getD x.toNat 0 - st)) pl
def afterL (L : LedM) (r : RepM) : LedM where
  stake := L.stake
  pl := plsub L.stake L.pl r.hlp
  line := L.line.filter fun x => decide (x ∉ r.fal) && decide (x ≠ r.who)
  bid := L.bid
  drew := if r.kind = ("box" : Str) then L.drew else L.drew ++ [r.who]
  opn := r.turn + 1
  due := L.due + (r.fal.length : Int) - (if r.kind = ("box" : Str) then 1 else 0)
def firstL : LedM → List RepM → Int → Int
  | _, [], _ => -1
  | L, r :: rs, k => if folM L r = true then firstL (afterL L r) rs (k + 1) else k
theorem plsub_len {st : Int} : ∀ {l : List Int} {pl : List Int}, (plsub st pl l).length = pl.length
  | [], _ => rfl
  | x :: l, pl => by
    show (plsub st (pl.set x.toNat (pl.getD x.toNat 0 - st)) l).length = _
    rw [plsub_len, List.length_set]
theorem plsub_snoc {st : Int} {pl l : List Int} {x : Int} : plsub st pl (l ++ [x]) = (plsub st pl l).set x.toNat ((plsub st pl l).getD x.toNat 0 - st) := by
  unfold plsub
  rw [List.foldl_append]
  rfl
/-- what stays behind a report that follows -/
theorem LedOk.after {L : LedM} {r : RepM} (h : LedOk L) (hf : folM L r = true) : LedOk (afterL L r) := by
  unfold folM at hf
  by_cases c1 : r.turn ≠ L.opn ∨ r.turn > (L.pl.length : Int)
  · rw [if_pos c1] at hf; cases hf
  rw [if_neg c1] at hf
  have ht : r.turn = L.opn := Decidable.not_not.mp fun z => c1 (.inl z)
  have htn : r.turn ≤ (L.pl.length : Int) := by
    by_cases z : r.turn > (L.pl.length : Int)
    · exact absurd (.inr z) c1
    · omega
  have hn := h.n2
  have hlen : (afterL L r).pl.length = L.pl.length := plsub_len
  have hsub : ∀ x ∈ (afterL L r).line, x ∈ L.line := fun x hx => (List.mem_filter.mp hx).1
  have hll : (afterL L r).line.length ≤ L.line.length := List.length_filter_le _ _
  have ho : -1000 ≤ (afterL L r).opn ∧ (afterL L r).opn ≤ 1000 := by
    show -1000 ≤ r.turn + 1 ∧ r.turn + 1 ≤ 1000
    have := h.o1
    omega
  have hld := h.ld
  have dr : (∀ x ∈ (afterL L r).drew, 0 ≤ x ∧ x < (L.pl.length : Int)) ∧ (afterL L r).line.length + (afterL L r).drew.length ≤ L.pl.length := by
    by_cases ck : r.kind = ("box" : Str)
    · have e : (afterL L r).drew = L.drew := if_pos ck
      rw [e]
      exact ⟨h.dr, by omega⟩
    · have e : (afterL L r).drew = L.drew ++ [r.who] := if_neg ck
      have hin : r.who ∈ L.line := by
        by_cases c2 : (growB r.fal && r.fal.all (fun x => decide (x ∈ L.line))) = false
        · rw [if_pos c2] at hf; cases hf
        rw [if_neg c2] at hf
        by_cases c3 : (growB r.hlp && r.hlp.all (canP L)) = false
        · rw [if_pos c3] at hf; cases hf
        rw [if_neg c3] at hf
        by_cases c4 : L.due + (r.fal.length : Int) > 0
        · rw [if_pos c4] at hf
          unfold boxB at hf
          rw [Bool.and_eq_true, decide_eq_true_eq] at hf
          exact absurd hf.1 ck
        · rw [if_neg c4] at hf
          rw [Bool.and_eq_true, Bool.and_eq_true] at hf
          have := hf.2.1
          unfold canD at this
          by_cases c5 : r.who ∉ L.line
          · rw [if_pos c5] at this; cases this
          · exact Decidable.not_not.mp c5
      rw [e]
      refine ⟨fun x hx => ?_, ?_⟩
      · rcases List.mem_append.mp hx with hx | hx
        · exact h.dr x hx
        · rw [List.mem_singleton.mp hx]
          exact h.lr _ hin
      · have hlt : (afterL L r).line.length < L.line.length := by
          show (L.line.filter fun x => decide (x ∉ r.fal) && decide (x ≠ r.who)).length < _
          refine List.length_filter_lt_length_iff_exists.mpr ⟨r.who, hin, ?_⟩
          simp
        rw [List.length_append, List.length_singleton]
        omega
  exact ⟨h.s1, h.s2, by rw [hlen]; exact h.n2, fun x hx => by rw [hlen]; exact h.lr x (hsub x hx), by rw [hlen]; exact dr.1, by rw [hlen]; exact dr.2, ho.1, ho.2⟩
section
variable {K : PySem.W.Frag} {σ : L2.St} {H : Hp} {t : TT} {te : TE}
/-- a comprehension over range(lo, n) -/
theorem el_lcR2 {ta : TA} {j : Nat} {vs : List Nat} {lo n : Int} (f : Nat → Bool) (v : Nat → V) (h : EvA ta σ H [.int lo, .int n]) (hn : 0 ≤ lo ∧ lo ≤ 1000 ∧ -1000 ≤ n ∧ n ≤ 40000) (hw : ∀ x, wipe ((wipe σ vs).set j (some x)) vs = wipe σ vs)
    (ht : ∀ (i : Nat) H1, Ex H H1 → lo + (i : Int) < n → EvT t ((wipe σ vs).set j (some (.int (lo + (i : Int))))) H1 (f i)) (he : ∀ (i : Nat) H1, Ex H H1 → lo + (i : Int) < n → f i = true → Ev te ((wipe σ vs).set j (some (.int (lo + (i : Int))))) H1 (v i)) :
    EvL (tLc (iRng2 ta) (gName j) t te vs) σ H (given (n - lo).toNat f v) := fun H0 e0 Q q => h H0 e0 _ fun H1 e1 => ⟨lo, n, rfl, ⟨by omega, by omega, by omega, by omega⟩, fun D hD =>
  lc_range (lo := lo) (n := (n - lo).toNat) (Cw H1 f v D) ⟨hD, Ex.new hD, upd_same⟩ (fun i H2 hi p => ⟨hw _, cw_turn p (by omega) (ht i H1 (e0.trans e1) (by omega)) fun hf => he i H1 (e0.trans e1) (by omega) hf⟩) (fun H2 p => q D H2 (fresh_back e1 p.1) (e1.trans p.2.1) p.2.2)⟩
theorem tg_7 {T : Addr} {x1 x2 x3 x4 x5 x6 x7 : V} {i1 i2 i3 i4 i5 i6 i7 : Nat} (h : SqT K H T [x1, x2, x3, x4, x5, x6, x7]) : Tgt (gTup K 7 (gCons (gName i1) (gCons (gName i2) (gCons (gName i3) (gCons (gName i4) (gCons (gName i5) (gCons (gName i6) (gCons (gName i7) gNil)))))))) (.ref T) σ (((((((σ.set i1 (some x1)).set i2 (some x2)).set i3 (some x3)).set i4 (some x4)).set i5 (some x5)).set i6 (some x6)).set i7 (some x7)) H := fun H2 e Q q =>
  ⟨T, _, rfl, ex_t e h, rfl, x1, _, rfl, x2, _, rfl, x3, _, rfl, x4, _, rfl, x5, _, rfl, x6, _, rfl, x7, [], rfl, rfl, q⟩
theorem int_at2 {l : List Int} {i : Nat} {z : Int} (h : z = (i : Int)) (hi : i < l.length) : atI (l.map V.int) z = some (.int (l.getD i 0)) := atI_nat' (i := i) h (int_nat hi)
theorem all_given {l : List Int} {p : Int → Bool} : (l.map p).map V.bl = given (l.map V.int).length (fun _ => true) (fun j => V.bl (p (l.getD j 0))) := by
  rw [given_rng, List.length_map, List.map_map]
  apply List.ext_getElem?
  intro j
  rw [List.getElem?_map, List.getElem?_map]
  by_cases hj : j < l.length
  · rw [List.getElem?_range hj, List.getElem?_eq_getElem hj]
    show some (V.bl _) = some (V.bl _)
    rw [List.getD_eq_getElem?_getD, List.getElem?_eq_getElem hj]
    rfl
  · rw [List.getElem?_eq_none (by omega), List.getElem?_eq_none (by rw [List.length_range]; omega)]
    rfl
theorem all_map {l : List Int} {p : Int → Bool} : (l.map p).all id = l.all p := by
  rw [List.all_map]
  rfl
end
section
variable {P : Program} {w : World} {K : PySem.W.Frag} {mg : Str → Option Value} {base : Heap} {H : Hp} {d : LedD} {L : LedM} {σ : L2.St} {ta : TE}
theorem ev_lf {C : Addr} {f : Str} {i : Nat} {v : V} (h : LedAt C H d L) (ha : Ev ta σ H (.ref d.c)) (c : Cls K C) (n : NoAttr K C f) (hf : lNs[i]? = some f) (hv : (ledV d L)[i]? = some v) : Ev (tFld K ta f) σ H v := ev_fld ha h.hc c n (zip_lookup lNs_nd hf hv)
theorem Top.l_stake (T : Top K mg) (h : LedAt T.f_Ledger H d L) (ha : Ev ta σ H (.ref d.c)) : Ev (tFld K ta "stake") σ H (.int L.stake) := ev_lf (i := 0) h ha T.cl_Ledger T.na_Ledger_stake rfl rfl
theorem Top.l_pl (T : Top K mg) (h : LedAt T.f_Ledger H d L) (ha : Ev ta σ H (.ref d.c)) : Ev (tFld K ta "pledges_left") σ H (.ref d.pp) := ev_lf (i := 1) h ha T.cl_Ledger T.na_Ledger_pledges_left rfl rfl
theorem Top.l_line (T : Top K mg) (h : LedAt T.f_Ledger H d L) (ha : Ev ta σ H (.ref d.c)) : Ev (tFld K ta "line") σ H (.ref d.pq) := ev_lf (i := 2) h ha T.cl_Ledger T.na_Ledger_line rfl rfl
theorem Top.l_bid (T : Top K mg) (h : LedAt T.f_Ledger H d L) (ha : Ev ta σ H (.ref d.c)) : Ev (tFld K ta "bidding") σ H (.bl L.bid) := ev_lf (i := 3) h ha T.cl_Ledger T.na_Ledger_bidding rfl rfl
theorem Top.l_drew (T : Top K mg) (h : LedAt T.f_Ledger H d L) (ha : Ev ta σ H (.ref d.c)) : Ev (tFld K ta "drawers") σ H (.ref d.pr) := ev_lf (i := 4) h ha T.cl_Ledger T.na_Ledger_drawers rfl rfl
theorem Top.l_opn (T : Top K mg) (h : LedAt T.f_Ledger H d L) (ha : Ev ta σ H (.ref d.c)) : Ev (tFld K ta "open_round") σ H (.int L.opn) := ev_lf (i := 5) h ha T.cl_Ledger T.na_Ledger_open_round rfl rfl
theorem Top.l_due (T : Top K mg) (h : LedAt T.f_Ledger H d L) (ha : Ev ta σ H (.ref d.c)) : Ev (tFld K ta "rests_due") σ H (.int L.due) := ev_lf (i := 6) h ha T.cl_Ledger T.na_Ledger_rests_due rfl rfl
theorem l_no {m : Str} {vs : List V} (h : m ∉ lNs := by decide +kernel) : (lNs.zip vs).lookup m = none := zip_none h
def spGrows (K : PySem.W.Frag) : Sp := fun vs H Q _ => ∃ (a : Addr) (l : List Int), vs = [.ref a] ∧ SqL K H a (l.map V.int) ∧ l.length ≤ 1000 ∧ ∀ H', Ex H H' → Q (.bl (growB l)) H'
theorem ok_grows (T : Top K mg) {k : Nat} : FnOk P w K mg base CX0 (k + 1) T.f_grows T.fd_grows ["row"] (spGrows K) := by
  have nd := sc_grows.nd
  refine T.F_grows.ok sc_grows (fun vs H Q E h => ?_) (fun cdv A outer s H vs Q E hr h => ?_)
  · obtain ⟨a, l, rfl, _⟩ := h
    rfl
  · obtain ⟨a, l, rfl, ha, hl, q⟩ := h
    refine ⟨_, (pss_one (ps_ret (pe_callB (cr_all rfl) (by rfl) T.m_all (by decide +kernel) (pa_cons (pe_lc (own := [("at", 1)]) (g := gName 1) (tt := tYes) rfl nd (pi_range2 rfl T.m_range (pa_cons pe_int (pa_cons (pe_callB call_len_seq (by rfl) T.m_len PySem.boot_len (pa_cons (pv 0) pa_nil)) pa_nil))) (blkOk_by (own := [("at", 1)]) (N := Su.N_grows) (sc := defScope s_grows) (by decide +kernel)) (fun _ _ _ _ _ => (pg_name (i := 1) nd rfl (.inl rfl))) (fun _ _ _ _ _ => pts_nil) (fun _ _ _ _ _ => (pe_cmpR op_lt (pe_ix (ix_listK (K := K) rfl) (pv 0) (pe_op op_sub (pv 1) pe_int) (fun _ _ => rfl)) (pe_ix (ix_listK (K := K) rfl) (pv 0) (pv 1) (fun _ _ => rfl)) (nomark _)))) pa_nil)))), ?_⟩
    have hbs : ((List.range (l.length - 1)).map fun i => decide (l.getD i 0 < l.getD (i + 1) 0)).map V.bl = given ((l.length : Int) - 1).toNat (fun _ => true) (fun j => V.bl (decide (l.getD j 0 < l.getD (j + 1) 0))) := by
      rw [given_rng, List.map_map, show ((l.length : Int) - 1).toNat = l.length - 1 by omega]
      rfl
    refine s_ret (ev_is (ev_allB (bs := (List.range (l.length - 1)).map fun i => decide (l.getD i 0 < l.getD (i + 1) 0)) ?_) ?_) fun H1 e1 => q H1 e1
    · rw [hbs]
      exact el_lcR2 _ _ (ea_cons ev_c (ea_cons (ev_is (ev_len (ev_var rfl) ha) (by rw [List.length_map])) ea_nil)) ⟨by decide, by decide, by omega, by omega⟩ (fun x => rfl) (fun j Hb eb hj => et_yes) (fun j Hb eb hj _ => ev_op (ev_op (ev_var rfl) (ev_op (ev_var rfl) ev_c rv_I0) (rv_ixL (ex_l eb ha) (int_at2 (i := j) (by omega) (by omega)))) (ev_op (ev_var rfl) (ev_var rfl) (rv_ixL (ex_l eb ha) (int_at2 (i := j + 1) (by push_cast; omega) (by omega)))) rv_I0)
    · unfold growB
      rw [List.all_map]
      rfl
def spCanP (C : Addr) : Sp := fun vs H Q _ => ∃ (d : LedD) (L : LedM) (x : Int), vs = [.ref d.c, .int x] ∧ LedAt C H d L ∧ LedOk L ∧ ∀ H', Ex H H' → Q (.bl (canP L x)) H'
theorem ok_canP (T : Top K mg) {k : Nat} : FnOk P w K mg base CX0 (k + 1) T.f_Ledger_pledge_can_pay T.fd_Ledger_pledge_can_pay ["self", "at"] (spCanP T.f_Ledger) := by
  have nd := sc_Ledger_pledge_can_pay.nd
  refine T.F_Ledger_pledge_can_pay.ok sc_Ledger_pledge_can_pay (fun vs H Q E h => ?_) (fun cdv A outer s H vs Q E hr h => ?_)
  · obtain ⟨d, L, x, rfl, _⟩ := h
    rfl
  · obtain ⟨d, L, x, rfl, h, hO, q⟩ := h
    refine ⟨_, (pss_one (ps_ret (pe_and (pe_cmpR op_in_seq (pv 1) (pe_fldK (K := K) rfl (pv 0) rfl) rfl) (pe_one (pe_cmpR op_ge (pe_ix ix_list (pe_fldK (K := K) rfl (pv 0) rfl) (pv 1) (fun _ _ => rfl)) (pe_fldK (K := K) rfl (pv 0) rfl) (nomark _)))))), ?_⟩
    refine s_ret (ev_andV (ev_is (ev_op (ev_var rfl) (T.l_drew h (ev_var rfl)) (rv_isL (sq_of h.hr) rfl flat_ints)) (by rw [inV_int])) fun hb => ?_) fun H1 e1 => q H1 e1
    have := hO.dr x (of_decide_eq_true hb)
    exact ev_op (ev_op (T.l_pl h (ev_var rfl)) (ev_var rfl) (rv_ixL (sq_of h.hp) (int_at2 (i := x.toNat) (by omega) (by omega)))) (T.l_stake h (ev_var rfl)) rv_I0
def spPayers (C : Addr) : Sp := fun vs H Q _ => ∃ (d : LedD) (L : LedM) (a : Addr) (l : List V), vs = [.ref d.c, .ref a] ∧ LedAt C H d L ∧ H a = some (.lst l) ∧ ∀ H', Ex H H' → Q (.int (payL L l.length)) H'
theorem ok_payers (T : Top K mg) {k : Nat} : FnOk P w K mg base CX0 (k + 1) T.f_Ledger_payers T.fd_Ledger_payers ["self", "fallen"] (spPayers T.f_Ledger) := by
  have nd := sc_Ledger_payers.nd
  refine T.F_Ledger_payers.ok sc_Ledger_payers (fun vs H Q E h => ?_) (fun cdv A outer s H vs Q E hr h => ?_)
  · obtain ⟨d, L, a, l, rfl, _⟩ := h
    rfl
  · obtain ⟨d, L, a, l, rfl, h, ha, q⟩ := h
    refine ⟨_, (pss_one (ps_ret (pe_op op_sub (pe_op op_add (pe_callB call_len_seq (by rfl) T.m_len PySem.boot_len (pa_cons (pe_fldK (K := K) rfl (pv 0) rfl) pa_nil)) (pe_callB call_len_seq (by rfl) T.m_len PySem.boot_len (pa_cons (pe_fldK (K := K) rfl (pv 0) rfl) pa_nil))) (pe_callB call_len_seq (by rfl) T.m_len PySem.boot_len (pa_cons (pv 1) pa_nil))))), ?_⟩
    exact s_ret (ev_op (ev_op (ev_is (ev_len (T.l_line h (ev_var rfl)) (sq_of h.hq)) (by rw [List.length_map])) (ev_is (ev_len (T.l_drew h (ev_var rfl)) (sq_of h.hr)) (by rw [List.length_map])) rv_I0) (ev_len (ev_var rfl) (sq_of ha)) rv_I0) fun H1 e1 => q H1 e1
theorem ev_payers0 {C : Addr} {E : XK} (h : LedAt C H d L) (ha : Ev ta σ H (.ref d.c)) : Ev (tMeth C "payers" (spPayers C) [] E ta (tCons (tLst tNil) tNil)) σ H (.int (payL L 0)) := fun H1 e Q q =>
  ha H1 e _ fun H2 e2 => ⟨d.c, d.dx, _, rfl, (e.trans e2) _ _ h.hc, l_no, (el_lst ea_nil (by decide)) H2 (Ex.refl _) _ fun p H3 hp e3 h3 => ⟨d, L, p, [], rfl, (h.ex (e.trans e2)).ex e3, h3, fun H4 e4 => q H4 ((e2.trans e3).trans e4)⟩⟩
def spDcoin (C : Addr) : Sp := fun vs H Q _ => ∃ (d : LedD) (L : LedM) (z : Int), vs = [.ref d.c, .int z] ∧ LedAt C H d L ∧ LedOk L ∧ ∀ H', Ex H H' → Q (.int (dcoin L z)) H'
theorem ok_dcoin (T : Top K mg) {k : Nat} : FnOk P w K mg base CX0 (k + 2) T.f_Ledger_draw_coins T.fd_Ledger_draw_coins ["self", "share"] (spDcoin T.f_Ledger) := by
  have nd := sc_Ledger_draw_coins.nd
  have G_Ledger_payers := ok_payers (P := P) (w := w) (base := base) T (k := 0)
  refine T.F_Ledger_draw_coins.ok sc_Ledger_draw_coins (fun vs H Q E h => ?_) (fun cdv A outer s H vs Q E hr h => ?_)
  · obtain ⟨d, L, z, rfl, _⟩ := h
    rfl
  · obtain ⟨d, L, z, rfl, h, hO, q⟩ := h
    refine ⟨_, (pss_one (ps_ret (pe_op op_sub (pe_op op_mul (pe_fldK (K := K) rfl (pv 0) rfl) (pe_callB call_len_seq (by rfl) T.m_len PySem.boot_len (pa_cons (pe_fldK (K := K) rfl (pv 0) rfl) pa_nil))) (pe_op op_mul (pv 1) (pe_op op_sub (pe_meth (pv 0) T.cl_Ledger T.mt_Ledger_payers G_Ledger_payers (hr.mono (by omega)) T.b_Ledger_payers .nil pass0 (pa_cons (pe_lst pa_nil) pa_nil)) pe_int))))), ?_⟩
    have h1 := hO.ld
    have h2 := hO.n2
    refine s_ret (ev_op (ev_op (T.l_stake h (ev_var rfl)) (ev_is (ev_len (T.l_pl h (ev_var rfl)) (sq_of h.hp)) (by rw [List.length_map])) (Su.rv_mul (Su.CMul.r (by omega) (by omega)))) (ev_op (ev_var rfl) (ev_op (ev_payers0 h (ev_var rfl)) ev_c rv_I0) (Su.rv_mul (Su.CMul.r (by unfold payL; omega) (by unfold payL; omega)))) rv_I0) fun H1 e1 => q H1 e1
def spCanD (C : Addr) : Sp := fun vs H Q _ => ∃ (d : LedD) (L : LedM) (x z : Int), vs = [.ref d.c, .int x, .int z] ∧ LedAt C H d L ∧ LedOk L ∧ ∀ H', Ex H H' → Q (.bl (canD L x z)) H'
theorem ok_canD (T : Top K mg) {k : Nat} : FnOk P w K mg base CX0 (k + 3) T.f_Ledger_can_draw T.fd_Ledger_can_draw ["self", "drawer", "share"] (spCanD T.f_Ledger) := by
  have nd := sc_Ledger_can_draw.nd
  have G_Ledger_payers := ok_payers (P := P) (w := w) (base := base) T (k := 0)
  have G_Ledger_draw_coins := ok_dcoin (P := P) (w := w) (base := base) T (k := 0)
  have G_is_covered := ok_is_covered (P := P) (w := w) (base := base) T (k := 0)
  refine T.F_Ledger_can_draw.ok sc_Ledger_can_draw (fun vs H Q E h => ?_) (fun cdv A outer s H vs Q E hr h => ?_)
  · obtain ⟨d, L, x, z, rfl, _⟩ := h
    rfl
  · obtain ⟨d, L, x, z, rfl, h, hO, q⟩ := h
    refine ⟨_, (pss_cons (ps_if (pt_cmpR op_notIn_seq (pv 1) (pe_fldK (K := K) rfl (pv 0) rfl) rfl)
        (pss_one (ps_ret pe_bl))
        pss_nil)
      (pss_cons (ps_if (pt_not (pt_val (pe_call G_is_covered (hr.mono (by omega)) (by rfl) T.m_is_covered T.F_is_covered.kp T.b_is_covered .nil pass0 (pa_cons (pe_fldK (K := K) rfl (pv 0) rfl) (pa_cons (pe_callB call_len_seq (by rfl) T.m_len PySem.boot_len (pa_cons (pe_fldK (K := K) rfl (pv 0) rfl) pa_nil)) (pa_cons (pe_ix ix_list (pe_fldK (K := K) rfl (pv 0) rfl) (pv 1) (fun _ _ => rfl)) (pa_cons (pe_fldK (K := K) rfl (pv 0) rfl) pa_nil)))))))
        (pss_one (ps_ret pe_bl))
        pss_nil)
      (pss_cons (ps_if (pt_not (pt_val (pe_fldK (K := K) rfl (pv 0) rfl)))
        (pss_one (ps_ret (pe_and (pe_cmpR op_eq (pv 1) (pe_ix ix_list (pe_fldK (K := K) rfl (pv 0) rfl) pe_int (fun _ _ => rfl)) (nomark _)) (pe_one (pe_cmpR op_eq (pv 2) pe_int (nomark _))))))
        pss_nil)
      (pss_cons (ps_if (pt_cmpR op_eq (pe_meth (pv 0) T.cl_Ledger T.mt_Ledger_payers G_Ledger_payers (hr.mono (by omega)) T.b_Ledger_payers .nil pass0 (pa_cons (pe_lst pa_nil) pa_nil)) pe_int (nomark _))
        (pss_one (ps_ret (pe_cmpR op_eq (pv 2) pe_int (nomark _))))
        pss_nil)
      (pss_one (ps_ret (pe_and (pe_cmpR op_ge (pv 2) pe_int (nomark _)) (pe_one (pe_cmpR op_ge (pe_meth (pv 0) T.cl_Ledger T.mt_Ledger_draw_coins G_Ledger_draw_coins (hr.mono (by omega)) T.b_Ledger_draw_coins .nil pass0 (pa_cons (pv 2) pa_nil)) pe_int (nomark _)))))))))), ?_⟩
    have o1 := hO.o1
    have o2 := hO.o2
    have n2 := hO.n2
    unfold canD at q
    refine q_when (b := decide (x ∉ L.line)) (et_is (et_test (ev_op (ev_var rfl) (T.l_line h (ev_var rfl)) (rv_niL (sq_of h.hq) rfl flat_ints))) (by rw [inV_int]; by_cases c : x ∈ L.line <;> simp [c])) (fun hb H1 e1 => ?_) (fun hb H1 e1 => ?_)
    · rw [if_pos (of_decide_eq_true hb)] at q
      exact s_ret ev_c fun H2 e2 => q H2 (e1.trans e2)
    have hin := Decidable.not_not.mp (of_decide_eq_false hb)
    rw [if_neg (Decidable.not_not.mpr hin)] at q
    have hx := hO.lr x hin
    have h1 := h.ex e1
    refine q_when (b := !decide (L.pl.getD x.toNat 0 ≥ L.stake * ((L.pl.length : Int) - L.opn))) (et_not (et_B (ev_call (ea_cons (T.l_stake h1 (ev_var rfl)) (ea_cons (ev_is (ev_len (T.l_pl h1 (ev_var rfl)) (sq_of h1.hp)) (by rw [List.length_map])) (ea_cons (ev_op (T.l_pl h1 (ev_var rfl)) (ev_var rfl) (rv_ixL (sq_of h1.hp) (int_at2 (i := x.toNat) (by omega) (by omega)))) (ea_cons (T.l_opn h1 (ev_var rfl)) ea_nil)))) (fun Hx e Q q _ => ⟨L.stake, (L.pl.length : Int), L.pl.getD x.toNat 0, L.opn, rfl, by omega, by omega, q⟩)))) (fun hb2 H2 e2 => ?_) (fun hb2 H2 e2 => ?_)
    · rw [if_pos (by intro z; rw [decide_eq_true z] at hb2; cases hb2)] at q
      exact s_ret ev_c fun H3 e3 => q H3 ((e1.trans e2).trans e3)
    rw [if_neg (by
      intro z
      rw [decide_eq_false z] at hb2
      cases hb2)] at q
    have h2 := h1.ex e2
    refine q_when (b := !L.bid) (et_not (et_B (T.l_bid h2 (ev_var rfl)))) (fun hb3 H3 e3 => ?_) (fun hb3 H3 e3 => ?_)
    · have hbf : L.bid = false := by cases hc : L.bid <;> rw [hc] at hb3 <;> first | rfl | cases hb3
      rw [if_pos hbf] at q
      have h3 := h2.ex e3
      have hpos := List.length_pos_of_mem hin
      exact s_ret (ev_andV (ev_is (ev_op (ev_var rfl) (ev_op (T.l_line h3 (ev_var rfl)) ev_c (rv_ixL (sq_of h3.hq) (int_at2 (i := 0) rfl hpos))) (rv_eq rfl)) (by rw [int_eq])) fun _ => ev_is (ev_op (ev_var rfl) ev_c (rv_eq rfl)) (by rw [int_eq])) fun H4 e4 => q H4 (((e1.trans e2).trans e3).trans e4)
    rw [if_neg (by intro z; rw [z] at hb3; cases hb3)] at q
    have h3 := h2.ex e3
    refine q_when (b := decide (payL L 0 = 1)) (et_is (et_test (ev_op (ev_payers0 h3 (ev_var rfl)) ev_c (rv_eq rfl))) int_eq) (fun hb4 H4 e4 => ?_) (fun hb4 H4 e4 => ?_)
    · rw [if_pos (of_decide_eq_true hb4)] at q
      exact s_ret (ev_is (ev_op (ev_var rfl) ev_c (rv_eq rfl)) (by rw [int_eq])) fun H5 e5 => q H5 ((((e1.trans e2).trans e3).trans e4).trans e5)
    rw [if_neg (of_decide_eq_false hb4)] at q
    have h4 := h3.ex e4
    exact s_ret (ev_andV (ev_op (ev_var rfl) ev_c rv_I0) fun _ => ev_op (ev_meth (ev_var rfl) h4.hc l_no (ea_cons (ev_var rfl) ea_nil) (fun Hx e Q q _ => ⟨d, L, z, rfl, h4.ex e, hO, q⟩)) ev_c rv_I0) fun H5 e5 => q H5 ((((e1.trans e2).trans e3).trans e4).trans e5)
theorem box_eq {k : Str} {a b c e : Int} : PyData.eqv (.tuple [.str k, .int a, .int b, .int c]) (.tuple [.str "box", .int (-1), .int e, .int 0]) = (decide (k = ("box" : Str)) && (decide (a = -1) && (decide (b = e) && decide (c = 0)))) := by
  rw [Bool.eq_iff_iff]
  simp [PyData.eqv, PyData.eqvAll]
theorem tup4_sh {k : Str} {a b c : Int} (hk : PyData.strOk k = true) : SeqAt.shaped (.tuple [.str k, .int a, .int b, .int c]) = true := by
  unfold SeqAt.shaped
  simp [PyData.canLay0, PyData.canLayAll0, PyData.depth, PyData.depthAll, hk]
def spFollows (C : Addr) : Sp := fun vs H Q _ => ∃ (d : LedD) (L : LedM) (t pf pg : Addr) (r : RepM), vs = [.ref d.c, .ref t] ∧ LedAt C H d L ∧ LedOk L ∧ RepAt H t pf pg r ∧ r.fal.length ≤ 1000 ∧ r.hlp.length ≤ 1000 ∧ ∀ H', Ex H H' → Q (.bl (folM L r)) H'
set_option maxHeartbeats 2000000 in
theorem ok_follows (T : Top K mg) {k : Nat} : FnOk P w K mg base CX0 (k + 4) T.f_Ledger_follows T.fd_Ledger_follows ["self", "report"] (spFollows T.f_Ledger) := by
  have nd := sc_Ledger_follows.nd
  have G_grows := ok_grows (P := P) (w := w) (base := base) T (k := 0)
  have G_Ledger_pledge_can_pay := ok_canP (P := P) (w := w) (base := base) T (k := 0)
  have G_Ledger_payers := ok_payers (P := P) (w := w) (base := base) T (k := 0)
  have G_Ledger_can_draw := ok_canD (P := P) (w := w) (base := base) T (k := 0)
  have G_Ledger_draw_coins := ok_dcoin (P := P) (w := w) (base := base) T (k := 0)
  refine T.F_Ledger_follows.ok sc_Ledger_follows (fun vs H Q E h => ?_) (fun cdv A outer s H vs Q E hr h => ?_)
  · obtain ⟨d, L, t, pf, pg, r, rfl, _⟩ := h
    rfl
  · obtain ⟨d, L, t, pf, pg, r, rfl, h, hO, hR, hl1, hl2, q⟩ := h
    refine ⟨_, (pss_cons (ps_asg (pv 1) (pg_tup rfl (pgs_cons (pg_name (i := 2) nd rfl (.inl rfl)) (pgs_cons (pg_name (i := 3) nd rfl (.inl rfl)) (pgs_cons (pg_name (i := 4) nd rfl (.inl rfl)) (pgs_cons (pg_name (i := 5) nd rfl (.inl rfl)) (pgs_cons (pg_name (i := 6) nd rfl (.inl rfl)) (pgs_cons (pg_name (i := 7) nd rfl (.inl rfl)) (pgs_cons (pg_name (i := 8) nd rfl (.inl rfl)) pgs_nil)))))))))
      (pss_cons (ps_if (PW.pt (pw_or (pt_cmpR op_ne (pv 2) (pe_fldK (K := K) rfl (pv 0) rfl) (nomark _)) (pw_or1 (pt_cmpR op_gt (pv 2) (pe_callB call_len_seq (by rfl) T.m_len PySem.boot_len (pa_cons (pe_fldK (K := K) rfl (pv 0) rfl) pa_nil)) (nomark _)))))
        (pss_one (ps_ret pe_bl))
        pss_nil)
      (pss_cons (ps_if (pt_not (PW.pt (pw_and (pt_val (pe_call G_grows (hr.mono (by omega)) (by rfl) T.m_grows T.F_grows.kp T.b_grows .nil pass0 (pa_cons (pv 7) pa_nil))) (pw_and1 (pt_val (pe_callB (cr_all rfl) (by rfl) T.m_all (by decide +kernel) (pa_cons (pe_lc (own := [("at", 9)]) (g := gName 9) (tt := tYes) rfl nd (pi_list (pv 7)) (blkOk_by (own := [("at", 9)]) (N := Su.N_Ledger_follows) (sc := defScope s_Ledger_follows) (by decide +kernel)) (fun _ _ _ _ _ => (pg_name (i := 9) nd rfl (.inl rfl))) (fun _ _ _ _ _ => pts_nil) (fun _ _ _ _ _ => (pe_cmpR (op_in_seqK (K := K) rfl) (pv 9) (pe_fldK (K := K) rfl (pv 0) rfl) rfl))) pa_nil)))))))
        (pss_one (ps_ret pe_bl))
        pss_nil)
      (pss_cons (ps_if (pt_not (PW.pt (pw_and (pt_val (pe_call G_grows (hr.mono (by omega)) (by rfl) T.m_grows T.F_grows.kp T.b_grows .nil pass0 (pa_cons (pv 8) pa_nil))) (pw_and1 (pt_val (pe_callB (cr_all rfl) (by rfl) T.m_all (by decide +kernel) (pa_cons (pe_lc (own := [("at", 9)]) (g := gName 9) (tt := tYes) rfl nd (pi_list (pv 8)) (blkOk_by (own := [("at", 9)]) (N := Su.N_Ledger_follows) (sc := defScope s_Ledger_follows) (by decide +kernel)) (fun _ _ _ _ _ => (pg_name (i := 9) nd rfl (.inl rfl))) (fun _ _ _ _ _ => pts_nil) (fun _ _ _ _ _ => (pe_meth (pv 0) T.cl_Ledger T.mt_Ledger_pledge_can_pay G_Ledger_pledge_can_pay (hr.mono (by omega)) T.b_Ledger_pledge_can_pay .nil pass0 (pa_cons (pv 9) pa_nil)))) pa_nil)))))))
        (pss_one (ps_ret pe_bl))
        pss_nil)
      (pss_cons (ps_if (pt_cmpR op_gt (pe_op op_add (pe_fldK (K := K) rfl (pv 0) rfl) (pe_callB call_len_seq (by rfl) T.m_len PySem.boot_len (pa_cons (pv 7) pa_nil))) pe_int (nomark _))
        (pss_one (ps_ret (pe_cmpR (op_eqD hr.units) (pe_tup (pa_cons (pv 3) (pa_cons (pv 4) (pa_cons (pv 5) (pa_cons (pv 6) pa_nil))))) (pe_tup (pa_cons pe_str (pa_cons (pe_un un_neg pe_int) (pa_cons (pe_op op_mul (pe_fldK (K := K) rfl (pv 0) rfl) (pe_meth (pv 0) T.cl_Ledger T.mt_Ledger_payers G_Ledger_payers (hr.mono (by omega)) T.b_Ledger_payers .nil pass0 (pa_cons (pv 7) pa_nil))) (pa_cons pe_int pa_nil))))) (nomark _))))
        pss_nil)
      (pss_one (ps_ret (pe_and (pe_cmpR op_eq (pv 3) pe_str (nomark _)) (pe_and (pe_meth (pv 0) T.cl_Ledger T.mt_Ledger_can_draw G_Ledger_can_draw (hr.mono (by omega)) T.b_Ledger_can_draw .nil pass0 (pa_cons (pv 4) (pa_cons (pv 6) pa_nil))) (pe_one (pe_cmpR op_eq (pv 5) (pe_meth (pv 0) T.cl_Ledger T.mt_Ledger_draw_coins G_Ledger_draw_coins (hr.mono (by omega)) T.b_Ledger_draw_coins .nil pass0 (pa_cons (pv 6) pa_nil)) (nomark _)))))))))))), ?_⟩
    have n2 := hO.n2
    have ld := hO.ld
    unfold folM at q
    refine q_asgXg ((ev_var rfl) H (Ex.refl _) _ fun H1 e1 => tg_7 (K := K) (st_of (e1 _ _ hR.ht)) H1 (Ex.refl _) _ ?_)
    have h1 := h.ex e1
    have hR1 := hR.ex e1
    refine q_when (b := !decide (r.turn = L.opn) || decide (r.turn > (L.pl.length : Int))) (et_or (et_is (et_test (ev_op (ev_var rfl) (T.l_opn h1 (ev_var rfl)) (rv_ne rfl))) (by rw [int_eq])) fun _ => et_test (ev_op (ev_var rfl) (ev_is (ev_len (T.l_pl h1 (ev_var rfl)) (sq_of h1.hp)) (by rw [List.length_map])) rv_I0)) (fun hb H2 e2 => ?_) (fun hb H2 e2 => ?_)
    · rw [if_pos (by
        by_cases c : r.turn = L.opn
        · rw [decide_eq_true c] at hb
          exact .inr (of_decide_eq_true hb)
        · exact .inl c)] at q
      exact s_ret ev_c fun H3 e3 => q H3 ((e1.trans e2).trans e3)
    rw [if_neg (by
      rintro (c | c)
      · rw [decide_eq_false c] at hb; cases hb
      · rw [decide_eq_true c, Bool.or_true] at hb; cases hb)] at q
    have h2 := h1.ex e2
    have hR2 := hR1.ex e2
    have e12 := e1.trans e2
    refine q_when (b := !(growB r.fal && r.fal.all (fun x => decide (x ∈ L.line)))) (et_not (et_and (et_B (ev_call (ea_cons (ev_var rfl) ea_nil) (fun Hx e Q q _ => ⟨pf, r.fal, rfl, sq_of (e _ _ hR2.hf), hl1, q⟩))) fun _ => et_is (et_B (ev_allB (bs := r.fal.map fun x => decide (x ∈ L.line)) ?_)) all_map)) (fun hb2 H3 e3 => ?_) (fun hb2 H3 e3 => ?_)
    · rw [all_given]
      refine el_lcL _ _ (ev_var rfl) (sq_of hR2.hf) (by rw [List.length_map]; omega) (fun x => rfl) (fun j x Hb eb gx => et_yes) (fun j x Hb eb gx _ => ?_)
      obtain ⟨z, rfl, gz⟩ := ints_get gx
      rw [show r.fal.getD j 0 = z by rw [List.getD_eq_getElem?_getD, gz]; rfl]
      have hb := h2.ex eb
      exact ev_is (ev_op (ev_var rfl) (T.l_line hb (ev_var rfl)) (rv_isL (sq_of hb.hq) rfl flat_ints)) (by rw [inV_int])
    · rw [if_pos (by cases hc : (growB r.fal && r.fal.all (fun x => decide (x ∈ L.line))) <;> rw [hc] at hb2 <;> first | rfl | cases hb2)] at q
      exact s_ret ev_c fun H4 e4 => q H4 ((e12.trans e3).trans e4)
    rw [if_neg (by intro hc; rw [hc] at hb2; cases hb2)] at q
    have h3 := h2.ex e3
    have hR3 := hR2.ex e3
    have e13 := e12.trans e3
    refine q_when (b := !(growB r.hlp && r.hlp.all (canP L))) (et_not (et_and (et_B (ev_call (ea_cons (ev_var rfl) ea_nil) (fun Hx e Q q _ => ⟨pg, r.hlp, rfl, sq_of (e _ _ hR3.hg), hl2, q⟩))) fun _ => et_is (et_B (ev_allB (bs := r.hlp.map (canP L)) ?_)) all_map)) (fun hb3 H4 e4 => ?_) (fun hb3 H4 e4 => ?_)
    · rw [all_given]
      refine el_lcL _ _ (ev_var rfl) (sq_of hR3.hg) (by rw [List.length_map]; omega) (fun x => rfl) (fun j x Hb eb gx => et_yes) (fun j x Hb eb gx _ => ?_)
      obtain ⟨z, rfl, gz⟩ := ints_get gx
      rw [show r.hlp.getD j 0 = z by rw [List.getD_eq_getElem?_getD, gz]; rfl]
      have hb := h3.ex eb
      exact ev_meth (ev_var rfl) hb.hc l_no (ea_cons (ev_var rfl) ea_nil) (fun Hx e Q q _ => ⟨d, L, z, rfl, hb.ex e, hO, q⟩)
    · rw [if_pos (by cases hc : (growB r.hlp && r.hlp.all (canP L)) <;> rw [hc] at hb3 <;> first | rfl | cases hb3)] at q
      exact s_ret ev_c fun H5 e5 => q H5 ((e13.trans e4).trans e5)
    rw [if_neg (by intro hc; rw [hc] at hb3; cases hb3)] at q
    have h4 := h3.ex e4
    have hR4 := hR3.ex e4
    have e14 := e13.trans e4
    refine q_when (b := decide (L.due + (r.fal.length : Int) > 0)) (et_test (ev_op (ev_op (T.l_due h4 (ev_var rfl)) (ev_is (ev_len (ev_var rfl) (sq_of hR4.hf)) (by rw [List.length_map])) rv_I0) ev_c rv_I0)) (fun hb4 H5 e5 => ?_) (fun hb4 H5 e5 => ?_)
    · rw [if_pos (of_decide_eq_true hb4)] at q
      have h5 := h4.ex e5
      have hR5 := hR4.ex e5
      refine s_ret (v := .bl (boxB L r)) (ev_opUU (eu_tup (vs := [.str r.kind, .int r.who, .int r.coins, .int r.share]) (ea_cons (ev_var rfl) (ea_cons (ev_var rfl) (ea_cons (ev_var rfl) (ea_cons (ev_var rfl) ea_nil)))) (by show 4 ≤ 100000; decide)) (eu_tup (vs := [.str "box", .int (-1), .int (L.stake * payL L r.fal.length), .int 0]) (ea_cons ev_c (ea_cons (ev_un ev_c ru_neg) (ea_cons (ev_op (T.l_stake h5 (ev_var rfl)) (ev_is (ev_meth (z := .int (payL L (r.fal.map V.int).length)) (ev_var rfl) h5.hc l_no (ea_cons (ev_var rfl) ea_nil) (fun Hx e Q q _ => ⟨d, L, pf, _, rfl, h5.ex e, e _ _ hR5.hf, q⟩)) (by rw [List.length_map])) (Su.rv_mul (Su.CMul.r (by unfold payL; omega) (by unfold payL; omega)))) (ea_cons ev_c ea_nil)))) (by show 4 ≤ 100000; decide)) fun p5 q5 Hx hp5 hq5 ex => rv_eqDD (d := .tuple [.str r.kind, .int r.who, .int r.coins, .int r.share]) (e := .tuple [.str "box", .int (-1), .int (L.stake * payL L r.fal.length), .int 0]) (.tup (st_of hp5) (.cons (.str _) (.cons (.int _) (.cons (.int _) (.cons (.int _) .nil))))) (.tup (st_of hq5) (.cons (.str _) (.cons (.int _) (.cons (.int _) (.cons (.int _) .nil))))) (tup4_sh hR.ks) (tup4_sh (by decide +kernel)) box_eq) fun H6 e6 => q H6 ((e14.trans e5).trans e6)
    rw [if_neg (of_decide_eq_false hb4)] at q
    have h5 := h4.ex e5
    have str_eqd : decide (V.str r.kind = V.str "draw") = decide (r.kind = ("draw" : Str)) := by
      by_cases c : r.kind = ("draw" : Str)
      · rw [c, decide_eq_true rfl, decide_eq_true rfl]
      · rw [decide_eq_false c, decide_eq_false fun z => c (V.str.inj z)]
    exact s_ret (ev_andV (ev_is (ev_op (ev_var rfl) ev_c (rv_eq rfl)) (congrArg V.bl str_eqd)) fun _ => ev_andV (ev_meth (ev_var rfl) h5.hc l_no (ea_cons (ev_var rfl) (ea_cons (ev_var rfl) ea_nil)) (fun Hx e Q q _ => ⟨d, L, r.who, r.share, rfl, h5.ex e, hO, q⟩)) fun _ => ev_is (ev_op (ev_var rfl) (ev_meth (ev_var rfl) h5.hc l_no (ea_cons (ev_var rfl) ea_nil) (fun Hx e Q q _ => ⟨d, L, r.share, rfl, h5.ex e, hO, q⟩)) (rv_eq rfl)) (by rw [int_eq])) fun H6 e6 => q H6 ((e14.trans e5).trans e6)
end

end Su
namespace Su
/-! ### a ledger opened, and a report taken in -/
section
variable {P : Program} {w : World} {K : PySem.W.Frag} {mg : Str → Option Value} {base : Heap} {H : Hp} {d : LedD} {L : LedM} {σ : L2.St} {ta : TE}
theorem s_dropL {D : Ends} {te : TE} (k : te σ H fun _ H1 => D.nx σ H1) : tDrop te D σ H := k
def led0 (st : Int) (pl line : List Int) (bd : Bool) : LedM := ⟨st, pl, line, bd, [], 1, 0⟩
def spLed0 (C : Addr) : Sp := fun vs H Q _ => ∃ (x dx : Addr) (st : Int) (a b : Addr) (pl line : List Int) (bd : Bool), vs = [.ref x, .int st, .ref a, .ref b, .bl bd] ∧ H x = some (.ins C dx []) ∧ H a = some (.lst (pl.map V.int)) ∧ H b = some (.lst (line.map V.int)) ∧ ∀ (H' : Hp) (d : LedD), d.c = x → H d.pp = none → H d.pq = none → H d.pr = none → ExF [x] H H' → LedAt C H' d (led0 st pl line bd) → Q .non H'
theorem none_x {H H' : Hp} {x p : Addr} {C dx : Addr} {fs : List (Str × V)} (f : ExF [x] H H') (hp : H' p = none) (hx : H' x = some (.ins C dx fs)) : H p = none := by
  cases h : H p with
  | none => rfl
  | some o =>
    by_cases c : p = x
    · rw [c, hx] at hp; cases hp
    · rw [f p o h fun z => c (List.mem_singleton.mp z)] at hp; cases hp
theorem ok_Ledger_init (T : Top K mg) {k : Nat} : FnOk P w K mg base CX0 (k + 1) T.f_Ledger___init__ T.fd_Ledger___init__ ["self", "stake", "pledges", "queue", "bidding"] (spLed0 T.f_Ledger) := by
  have nd := sc_Ledger___init__.nd
  refine T.F_Ledger___init__.ok sc_Ledger___init__ (fun vs H Q E h => ?_) (fun cdv A outer s H vs Q E hr h => ?_)
  · obtain ⟨x, dx, st, a, b, pl, line, bd, rfl, _⟩ := h
    rfl
  · obtain ⟨x, dx, st, a, b, pl, line, bd, rfl, hx, ha, hb, q⟩ := h
    refine ⟨_, (pss_cons (ps_fldK (K := K) rfl (pv 0) (pv 1) rfl)
      (pss_cons (ps_fldK (K := K) rfl (pv 0) (pe_callTy call_list_of (by rfl) T.m_list (by decide +kernel) (pa_cons (pv 2) pa_nil)) rfl)
      (pss_cons (ps_fldK (K := K) rfl (pv 0) (pe_callTy call_list_of (by rfl) T.m_list (by decide +kernel) (pa_cons (pv 3) pa_nil)) rfl)
      (pss_cons (ps_fldK (K := K) rfl (pv 0) (pv 4) rfl)
      (pss_cons (ps_fldK (K := K) rfl (pv 0) (pe_lst pa_nil) rfl)
      (pss_cons (ps_fldK (K := K) rfl (pv 0) pe_int rfl)
      (pss_one (ps_fldK (K := K) rfl (pv 0) pe_int rfl)))))))), ?_⟩
    have nax : a ≠ x := fun z => by rw [z, hx] at ha; cases ha
    have nbx : b ≠ x := fun z => by rw [z, hx] at hb; cases hb
    refine q_fldN (ev_var rfl) (ev_var rfl) hx T.cl_Ledger T.na_Ledger_stake (by decide) fun H1 f1 h1 => ?_
    rw [show putF ("stake" : Str) (V.int st) [] = ([("stake" : Str)] : List Str).zip [V.int st] from rfl] at h1
    refine q_fldLN (el_list (ev_var rfl) (sq_of (f1 _ _ ha (nx' nax)))) (ev_var rfl) h1 T.cl_Ledger T.na_Ledger_pledges_left (by show 1 < 1000; decide) fun pp H2 hpp f2 h2p h2 np => ?_
    rw [zips] at h2
    have f12 := f1.trans f2
    refine q_fldLN (el_list (ev_var rfl) (sq_of (f12 _ _ hb (nx' nbx)))) (ev_var rfl) h2 T.cl_Ledger T.na_Ledger_line (by show 2 < 1000; decide) fun pq H3 hpq f3 h3q h3 nq => ?_
    rw [zips] at h3
    have f13 := f12.trans f3
    refine q_fldN (ev_var rfl) (ev_var rfl) h3 T.cl_Ledger T.na_Ledger_bidding (by show 3 < 1000; decide) fun H4 f4 h4 => ?_
    rw [zips] at h4
    have f14 := f13.trans f4
    refine q_fldLN (el_lst ea_nil (by decide)) (ev_var rfl) h4 T.cl_Ledger T.na_Ledger_drawers (by show 4 < 1000; decide) fun pr H5 hpr f5 h5r h5 nr => ?_
    rw [zips] at h5
    have f15 := f14.trans f5
    refine q_fldN ev_c (ev_var rfl) h5 T.cl_Ledger T.na_Ledger_open_round (by show 5 < 1000; decide) fun H6 f6 h6 => ?_
    rw [zips] at h6
    refine s_fldN ev_c (ev_var rfl) h6 T.cl_Ledger T.na_Ledger_rests_due (by show 6 < 1000; decide) fun H7 f7 h7 => ?_
    rw [zips] at h7
    have f57 := f6.trans f7
    have g2 := (f3.trans (f4.trans f5)).trans f57
    have npq : pp ≠ pq := fun z => by rw [← z, h2p] at hpq; cases hpq
    have npr : pp ≠ pr := fun z => by rw [← z, (f3.trans f4) _ _ h2p (nx' np)] at hpr; cases hpr
    have nqr : pq ≠ pr := fun z => by rw [← z, f4 _ _ h3q (nx' nq)] at hpr; cases hpr
    refine q H7 ⟨x, dx, pp, pq, pr⟩ rfl (none_x f1 hpp h1) (none_x f12 hpq h2) (none_x f14 hpr h4) (f15.trans f57) ⟨h7, g2 _ _ h2p (nx' np), (f4.trans (f5.trans f57)) _ _ h3q (nx' nq), f57 _ _ h5r (nx' nr), npq, npr, nqr⟩
theorem LedAt.aug {C : Addr} {H' : Hp} {o r : Int} {L' : LedM} (h : LedAt C H d L) (hL : L' = { L with opn := o, due := r }) (hH : H' d.c = some (.ins C d.dx (lNs.zip (ledV d L')))) (f : ExF [d.c] H H') : LedAt C H' d L' := by
  subst hL
  have ne : ∀ {a : Addr} {xs : List V}, H a = some (.lst xs) → a ∉ [d.c] := fun ha z => by
    rw [List.mem_singleton.mp z, h.hc] at ha
    cases ha
  exact ⟨hH, f _ _ h.hp (ne h.hp), f _ _ h.hq (ne h.hq), f _ _ h.hr (ne h.hr), h.n1, h.n2, h.n3⟩
theorem q_lfA {rd : V → V → Hp → VK → Prop} {C : Addr} {k : Nat} {f : Str} {ta tv : TE} {w v z : V} {D : Ends} {tz : TS} (hL : LedAt C H d L) (h : Ev ta σ H (.ref d.c)) (c : Cls K C) (n : NoAttr K C f) (hf : lNs[k]? = some f) (hw : (ledV d L)[k]? = some w) (hv : Ev tv σ H v) (hr : ∀ H1 (Q : VK), Q z H1 → rd w v H1 Q)
    (q : ∀ H1, ExF [d.c] H H1 → H1 d.c = some (.ins C d.dx (lNs.zip ((ledV d L).set k z))) → tz D σ H1) : tSeq (sFldAug K ta tv rd f) tz D σ H :=
  s_fldaug (D := { D with nx := tz D }) h hL.hc c n (zip_lookup lNs_nd hf hw) hv (fun H1 Q _ hq => hr H1 Q hq) (by show 7 < 1000; decide) fun H1 e1 => q _ ((ExF.ex e1).upd (List.mem_singleton.mpr rfl)) (by rw [upd_same, zip_put lNs_nd hf (List.getElem?_eq_some_iff.mp hw).1])
theorem s_lfA {rd : V → V → Hp → VK → Prop} {C : Addr} {k : Nat} {f : Str} {ta tv : TE} {w v z : V} {D : Ends} (hL : LedAt C H d L) (h : Ev ta σ H (.ref d.c)) (c : Cls K C) (n : NoAttr K C f) (hf : lNs[k]? = some f) (hw : (ledV d L)[k]? = some w) (hv : Ev tv σ H v) (hr : ∀ H1 (Q : VK), Q z H1 → rd w v H1 Q)
    (q : ∀ H1, ExF [d.c] H H1 → H1 d.c = some (.ins C d.dx (lNs.zip ((ledV d L).set k z))) → D.nx σ H1) : sFldAug K ta tv rd f D σ H :=
  s_fldaug h hL.hc c n (zip_lookup lNs_nd hf hw) hv (fun H1 Q _ hq => hr H1 Q hq) (by show 7 < 1000; decide) fun H1 e1 => q _ ((ExF.ex e1).upd (List.mem_singleton.mpr rfl)) (by rw [upd_same, zip_put lNs_nd hf (List.getElem?_eq_some_iff.mp hw).1])
theorem fol_hlp {L : LedM} {r : RepM} (hf : folM L r = true) : ∀ x ∈ r.hlp, x ∈ L.drew := fun x hx => by
  unfold folM at hf
  by_cases c1 : r.turn ≠ L.opn ∨ r.turn > (L.pl.length : Int)
  · rw [if_pos c1] at hf; cases hf
  rw [if_neg c1] at hf
  by_cases c2 : (growB r.fal && r.fal.all (fun x => decide (x ∈ L.line))) = false
  · rw [if_pos c2] at hf; cases hf
  rw [if_neg c2] at hf
  by_cases c3 : (growB r.hlp && r.hlp.all (canP L)) = false
  · rw [if_pos c3] at hf; cases hf
  rw [Bool.not_eq_false, Bool.and_eq_true, List.all_eq_true] at c3
  have := c3.2 x hx
  unfold canP at this
  rw [Bool.and_eq_true, decide_eq_true_eq] at this
  exact this.1
def spTakeIn (C : Addr) : Sp := fun vs H Q _ => ∃ (d : LedD) (L : LedM) (t pf pg : Addr) (r : RepM), vs = [.ref d.c, .ref t] ∧ LedAt C H d L ∧ LedOk L ∧ folM L r = true ∧ RepAt H t pf pg r ∧ pf ≠ d.pp ∧ pg ≠ d.pp ∧ pf ≠ d.pr ∧ r.fal.length ≤ 1000 ∧ r.hlp.length ≤ 1000 ∧ ∀ (H' : Hp) (pq : Addr), H pq = none → ExF [d.c, d.pp, d.pr] H H' → LedAt C H' { d with pq := pq } (afterL L r) → Q .non H'
set_option maxHeartbeats 4000000 in
theorem ok_take_in (T : Top K mg) {k : Nat} : FnOk P w K mg base CX0 (k + 1) T.f_Ledger_take_in T.fd_Ledger_take_in ["self", "report"] (spTakeIn T.f_Ledger) := by
  have nd := sc_Ledger_take_in.nd
  refine T.F_Ledger_take_in.ok sc_Ledger_take_in (fun vs H Q E h => ?_) (fun cdv A outer s H vs Q E hr h => ?_)
  · obtain ⟨d, L, t, pf, pg, r, rfl, _⟩ := h
    rfl
  · obtain ⟨d, L, t, pf, pg, r, rfl, h, hO, hf, hR, nf, ng, nf2, hl1, hl2, q⟩ := h
    refine ⟨_, (pss_cons (ps_asg (pv 1) (pg_tup rfl (pgs_cons (pg_name (i := 2) nd rfl (.inl rfl)) (pgs_cons (pg_name (i := 3) nd rfl (.inl rfl)) (pgs_cons (pg_name (i := 4) nd rfl (.inr rfl)) (pgs_cons (pg_name (i := 5) nd rfl (.inl rfl)) (pgs_cons (pg_name (i := 6) nd rfl (.inl rfl)) (pgs_cons (pg_name (i := 7) nd rfl (.inr rfl)) (pgs_cons (pg_name (i := 8) nd rfl (.inl rfl)) pgs_nil)))))))))
      (pss_cons (ps_for PassesOwn.never rfl (pi_list (pv 8)) (pg_name (i := 9) nd rfl (.inl rfl))
        (pss_one (ps_augS (pe_fldK (K := K) rfl (pv 0) rfl) (pv 9) get_list (pe_fldK (K := K) rfl (pv 0) rfl) ip_sub set_list)))
      (pss_cons (ps_fldaugK (K := K) rfl (pv 0) (pe_callB call_len_seq (by rfl) T.m_len PySem.boot_len (pa_cons (pv 7) pa_nil)) in_add)
      (pss_cut (ps_if (pt_cmpR op_eq (pv 3) pe_str (nomark _))
        (pss_one (ps_fldaugK (K := K) rfl (pv 0) pe_int in_sub))
        (pss_one (ps_expr (pe_bm PySem.F.plainAttrs_list PySem.F.slot_list_append PySem.F.type_list_append mt_append (pe_fldK (K := K) rfl (pv 0) rfl) (pa_cons (pv 4) pa_nil)))))
      (pss_cons (ps_fldK (K := K) rfl (pv 0) (pe_lc (own := [("at", 9)]) (g := gName 9) (tt := _) rfl nd (pi_list (pe_fldK (K := K) rfl (pv 0) rfl)) (blkOk_by (own := [("at", 9)]) (N := Su.N_Ledger_take_in) (sc := defScope s_Ledger_take_in) (by decide +kernel)) (fun _ _ _ _ _ => (pg_name (i := 9) nd rfl (.inl rfl))) (fun _ _ _ _ _ => (pts_one (PW.pt (pw_and (pt_cmpR (op_notIn_seqK (K := K) rfl) (pv 9) (pv 7) rfl) (pw_and1 (pt_cmpR op_ne (pv 9) (pv 4) (nomark _))))))) (fun _ _ _ _ _ => (pv 9))) rfl)
      (pss_one (ps_fldK (K := K) rfl (pv 0) (pe_op op_add (pv 2) pe_int) rfl))))))), ?_⟩
    have hdrew := fol_hlp hf
    have hcin : ∀ x ∈ [d.c], x ∈ [d.c, d.pp, d.pr] := fun x hx => by rw [List.mem_singleton.mp hx]; simp
    have c_ne : ∀ {H : Hp} {L : LedM} {d : LedD}, LedAt T.f_Ledger H d L → ∀ {a : Addr} {xs : List V}, H a = some (.lst xs) → a ≠ d.c := fun h a xs ha z => by rw [z, h.hc] at ha; cases ha
    refine q_asgXg ((ev_var rfl) H (Ex.refl _) _ fun H1 e1 => tg_7 (K := K) (st_of (e1 _ _ hR.ht)) H1 (Ex.refl _) _ ?_)
    have h1 := h.ex e1
    have hR1 := hR.ex e1
    have tne : ∀ {a : Addr} {xs : List V} {ys : List V}, H1 a = some (.lst xs) → H1 t = some (.tup ys) → t ≠ a := fun ha ht z => by rw [z, ha] at ht; cases ht
    -- the pledges that paid
    refine q_forL (xs := r.hlp.map V.int) (ev_var rfl) (sq_of hR1.hg) (fun u σ' H' => ∃ y9 : Option V, σ' = [some (.ref d.c), some (.ref t), some (.int r.turn), some (.str r.kind), some (.int r.who), some (.int r.coins), some (.int r.share), some (.ref pf), some (.ref pg), y9] ∧ ExF [d.pp] H1 H' ∧ LedAt T.f_Ledger H' d { L with pl := plsub L.stake L.pl (r.hlp.take u) }) ?_ ?_ ?_ ?_
    · intro H2 e2
      exact ⟨_, rfl, ExF.ex e2, h1.ex e2⟩
    · rintro u σ' H2 hu ⟨y9, rfl, f2, h2⟩
      exact sq_of (f2 _ _ hR1.hg fun z => ng (List.mem_singleton.mp z))
    · rintro u x σ' H2 hx ⟨y9, rfl, f2, h2⟩
      obtain ⟨z, rfl, gz⟩ := ints_get hx
      have hz := hO.dr z (hdrew z (List.mem_of_getElem? gz))
      have hlen : (plsub L.stake L.pl (r.hlp.take u)).length = L.pl.length := plsub_len
      refine tg_name H2 (Ex.refl _) _ ?_
      refine q_augL (D := { nx := _, rt := _, bk := _, ct := _ }) (tz := fun D' σ' H' => D'.nx σ' H') (z := z) (j := z.toNat) (a := (plsub L.stake L.pl (r.hlp.take u)).getD z.toNat 0) h2.hp (T.l_pl h2 (ev_var rfl)) (ev_var rfl) (by omega) (int_nat (i := z.toNat) (by show z.toNat < (plsub L.stake L.pl (r.hlp.take u)).length; omega)) (T.l_stake h2 (ev_var rfl)) fun H3 e3 => ?_
      refine ⟨_, rfl, (f2.trans (ExF.ex e3)).upd (List.mem_singleton.mpr rfl), ?_⟩
      have h3 := h2.ex e3
      have e : r.hlp.take (u + 1) = r.hlp.take u ++ [z] := by rw [List.take_add_one, gz]; rfl
      rw [e, plsub_snoc]
      exact ⟨by rw [upd_ne (c_ne h3 h3.hp).symm]; exact h3.hc, by rw [upd_same, List.map_set], by rw [upd_ne h3.n1.symm]; exact h3.hq, by rw [upd_ne h3.n2.symm]; exact h3.hr, h3.n1, h3.n2, h3.n3⟩
    rintro σ' H2 ⟨y9, rfl, f2, h2⟩
    rw [List.length_map, List.take_length] at h2
    have hRt := f2 _ _ hR1.ht fun z => tne h1.hp hR1.ht (List.mem_singleton.mp z)
    have hRf := f2 _ _ hR1.hf fun z => nf (List.mem_singleton.mp z)
    have f02 : ExF [d.c, d.pp, d.pr] H H2 := (ExF.ex e1).trans (f2.mono fun x hx => by rw [List.mem_singleton.mp hx]; simp)
    generalize hL2 : ({ L with pl := plsub L.stake L.pl r.hlp } : LedM) = L2 at h2
    -- rests
    refine q_lfA (k := 6) h2 (ev_var rfl) T.cl_Ledger T.na_Ledger_rests_due rfl rfl (ev_is (ev_len (ev_var rfl) (sq_of hRf)) (by rw [List.length_map])) (z := .int (L2.due + (r.fal.length : Int))) (fun H1 Q hq => ⟨_, _, rfl, rfl, hq⟩) fun H3 f3 hc3 => ?_
    have h3 : LedAt T.f_Ledger H3 d { L2 with due := L2.due + (r.fal.length : Int) } := h2.aug (o := L2.opn) (r := L2.due + (r.fal.length : Int)) rfl hc3 f3
    have hRf3 := f3 _ _ hRf fun z => c_ne h2 hRf (List.mem_singleton.mp z)
    have f03 := f02.trans (f3.mono hcin)
    generalize hL3 : ({ L2 with due := L2.due + (r.fal.length : Int) } : LedM) = L3 at h3
    have str_eqd : decide (V.str r.kind = V.str "box") = decide (r.kind = ("box" : Str)) := by
      by_cases c : r.kind = ("box" : Str)
      · rw [c, decide_eq_true rfl, decide_eq_true rfl]
      · rw [decide_eq_false c, decide_eq_false fun z => c (V.str.inj z)]
    have hdl : L.drew.length ≤ 100 := by have := hO.ld; have := hO.n2; omega
    refine q_cut (M := fun σ' H' => σ' = [some (.ref d.c), some (.ref t), some (.int r.turn), some (.str r.kind), some (.int r.who), some (.int r.coins), some (.int r.share), some (.ref pf), some (.ref pg), y9] ∧ ExF [d.c, d.pp, d.pr] H H' ∧ H' pf = some (.lst (r.fal.map V.int)) ∧ LedAt T.f_Ledger H' d { L3 with drew := if r.kind = ("box" : Str) then L.drew else L.drew ++ [r.who], due := L3.due - (if r.kind = ("box" : Str) then 1 else 0) }) ?_ ?_
    · have hd3 : L3.drew = L.drew := by rw [← hL3, ← hL2]
      refine s_if (et_is (et_test (ev_op (ev_var rfl) ev_c (rv_eq rfl))) str_eqd) (fun hb H4 e4 => ?_) (fun hb H4 e4 => ?_)
      · have hk := of_decide_eq_true hb
        have h4 := h3.ex e4
        refine s_lfA (k := 6) h4 (ev_var rfl) T.cl_Ledger T.na_Ledger_rests_due rfl rfl ev_c (z := .int (L3.due - 1)) (fun H1 Q hq => ⟨_, _, rfl, rfl, hq⟩) fun H5 f5 hc5 => ?_
        refine ⟨rfl, (f03.trans (ExF.ex e4)).trans (f5.mono hcin), f5 _ _ (e4 _ _ hRf3) fun z => c_ne h4 (e4 _ _ hRf3) (List.mem_singleton.mp z), ?_⟩
        rw [if_pos hk, if_pos hk]
        exact h4.aug (o := L3.opn) (r := L3.due - 1) (by rw [← hd3]) (by rw [← hd3]; exact hc5) f5
      · have hk := of_decide_eq_false hb
        have h4 := h3.ex e4
        refine s_app h4.hr (T.l_drew h4 (ev_var rfl)) (ev_var rfl) (by rw [List.length_map, hd3]; omega) fun H5 e5 => ?_
        have h5 := h4.ex e5
        refine ⟨rfl, ((f03.trans (ExF.ex e4)).trans (ExF.ex e5)).upd (by simp), by rw [upd_ne nf2]; exact (e4.trans e5) _ _ hRf3, ?_⟩
        rw [if_neg hk, if_neg hk, ← hd3]
        exact ⟨by rw [upd_ne (c_ne h5 h5.hr).symm, h5.hc, Int.sub_zero]; rfl, by rw [upd_ne h5.n2]; exact h5.hp, by rw [upd_ne h5.n3]; exact h5.hq, by rw [upd_same, List.map_append]; rfl, h5.n1, h5.n2, h5.n3⟩
    rintro _ H4 ⟨rfl, f04, hRf4, h4⟩
    generalize hL4 : ({ L3 with drew := if r.kind = ("box" : Str) then L.drew else L.drew ++ [r.who], due := L3.due - (if r.kind = ("box" : Str) then 1 else 0) } : LedM) = L4 at h4
    have hl4 : L4.line = L.line := by rw [← hL4, ← hL3, ← hL2]
    have hll : L.line.length ≤ 100 := by have := hO.ld; have := hO.n2; omega
    -- the queue
    refine q_fldLN (xs := (L.line.filter fun x => decide (x ∉ r.fal) && decide (x ≠ r.who)).map V.int) (by
      rw [← given_filter]
      have hlen : L.line.length = (L4.line.map V.int).length := by rw [List.length_map, hl4]
      rw [hlen]
      refine el_lcL _ _ (T.l_line h4 (ev_var rfl)) (sq_of h4.hq) (by rw [← hlen]; omega) (fun x => rfl) (fun j x Hb eb gx => ?_) (fun j x Hb eb gx _ => ?_)
      · obtain ⟨z, rfl, gz⟩ := ints_get gx
        rw [hl4] at gz
        rw [show L.line.getD j 0 = z by rw [List.getD_eq_getElem?_getD, gz]; rfl]
        exact et_and (et_is (et_test (ev_op (ev_var rfl) (ev_var rfl) (rv_niL (sq_of (eb _ _ hRf4)) rfl flat_ints))) (by rw [inV_int]; by_cases c : z ∈ r.fal <;> simp [c])) fun _ => et_is (et_test (ev_op (ev_var rfl) (ev_var rfl) (rv_ne rfl))) (by rw [int_eq]; by_cases c : z = r.who <;> simp [c])
      · obtain ⟨z, rfl, gz⟩ := ints_get gx
        rw [hl4] at gz
        rw [show L.line.getD j 0 = z by rw [List.getD_eq_getElem?_getD, gz]; rfl]
        exact ev_var rfl) (ev_var rfl) h4.hc T.cl_Ledger T.na_Ledger_line (by show 7 < 1000; decide) fun pq H5 hpq f5 h5q hc5 nq => ?_
    rw [zip_put lNs_nd (i := 2) rfl (by show 2 < 7; decide)] at hc5
    have np : d.pp ≠ pq := fun z => by rw [← z, h4.hp] at hpq; cases hpq
    have nr : d.pr ≠ pq := fun z => by rw [← z, h4.hr] at hpq; cases hpq
    have h5 : LedAt T.f_Ledger H5 { d with pq := pq } { L4 with line := L.line.filter fun x => decide (x ∉ r.fal) && decide (x ≠ r.who) } := ⟨hc5, f5 _ _ h4.hp fun z => c_ne h4 h4.hp (List.mem_singleton.mp z), h5q, f5 _ _ h4.hr fun z => c_ne h4 h4.hr (List.mem_singleton.mp z), np, h4.n2, nr.symm⟩
    refine s_fldN (ev_op (ev_var rfl) ev_c rv_I0) (ev_var rfl) h5.hc T.cl_Ledger T.na_Ledger_open_round (by show 7 < 1000; decide) fun H6 f6 hc6 => ?_
    rw [zip_put lNs_nd (i := 5) rfl (by show 5 < 7; decide)] at hc6
    have h6 := h5.aug (o := r.turn + 1) (r := L4.due) rfl hc6 f6
    have hpq0 : H pq = none := none_back f04 hpq fun a ha => by
      simp only [List.mem_cons, List.not_mem_nil, or_false] at ha
      rcases ha with rfl | rfl | rfl
      · exact ⟨_, h4.hc⟩
      · exact ⟨_, h4.hp⟩
      · exact ⟨_, h4.hr⟩
    refine q H6 pq hpq0 ((f04.trans (f5.mono hcin)).trans (f6.mono hcin)) ?_
    have : afterL L r = { ({ L4 with line := L.line.filter fun x => decide (x ∉ r.fal) && decide (x ≠ r.who) } : LedM) with opn := r.turn + 1, due := L4.due } := by
      rw [← hL4, ← hL3, ← hL2]
      rfl
    rw [this]
    exact h6
end
section
variable {P : Program} {w : World} {K : PySem.W.Frag} {mg : Str → Option Value} {base : Heap}
/-- a row of reports: their places and what they tell -/
structure RepD where
  t : Addr
  pf : Addr
  pg : Addr
  r : RepM
structure RepsAt (H : Hp) (rp : Addr) (xs : List RepD) : Prop where
  h0 : H rp = some (.lst (xs.map fun x => V.ref x.t))
  hr : ∀ x ∈ xs, RepAt H x.t x.pf x.pg x.r
  hl : ∀ x ∈ xs, x.r.fal.length ≤ 1000 ∧ x.r.hlp.length ≤ 1000
theorem RepsAt.ex {H H' : Hp} {rp : Addr} {xs : List RepD} (h : RepsAt H rp xs) (e : Ex H H') : RepsAt H' rp xs := ⟨e _ _ h.h0, fun x hx => (h.hr x hx).ex e, h.hl⟩
def spFirst (K : PySem.W.Frag) : Sp := fun vs H Q _ => ∃ (st : Int) (a b rp : Addr) (pl line : List Int) (bd : Bool) (xs : List RepD), vs = [.int st, .ref a, .ref b, .bl bd, .ref rp] ∧ H a = some (.lst (pl.map V.int)) ∧ H b = some (.lst (line.map V.int)) ∧ LedOk (led0 st pl line bd) ∧ RepsAt H rp xs ∧ ∀ H', Ex H H' → Q (.int (firstL (led0 st pl line bd) (xs.map RepD.r) 0)) H'
theorem ok_first_wrong (T : Top K mg) {k : Nat} : FnOk P w K mg base CX0 (k + 5) T.f_first_wrong T.fd_first_wrong ["stake", "pledges", "queue", "bidding", "reports"] (spFirst K) := by
  have nd := sc_first_wrong.nd
  have G_Ledger___init__ := ok_Ledger_init (P := P) (w := w) (base := base) T (k := 0)
  have G_Ledger_follows := ok_follows (P := P) (w := w) (base := base) T (k := 0)
  have G_Ledger_take_in := ok_take_in (P := P) (w := w) (base := base) T (k := 0)
  refine T.F_first_wrong.ok sc_first_wrong (fun vs H Q E h => ?_) (fun cdv A outer s H vs Q E hr h => ?_)
  · obtain ⟨st, a, b, rp, pl, line, bd, xs, rfl, _⟩ := h
    rfl
  · obtain ⟨st, a, b, rp, pl, line, bd, xs, rfl, ha, hb, hO, hR, q⟩ := h
    refine ⟨_, (pss_cons (ps_set (i := 5) nd rfl (.inl rfl) (pe_make T.mk_Ledger G_Ledger___init__ (hr.mono (by omega)) (by rfl) T.m_Ledger T.b_Ledger___init__ .nil pass0 (pa_cons (pv 0) (pa_cons (pv 1) (pa_cons (pv 2) (pa_cons (pv 3) pa_nil))))))
      (pss_cons (ps_for PassesOwn.never rfl (pi_enum (by rfl) T.m_enumerate (pa_cons (pv 4) pa_nil)) (pg_tup rfl (pgs_cons (pg_name (i := 6) nd rfl (.inl rfl)) (pgs_cons (pg_name (i := 7) nd rfl (.inl rfl)) pgs_nil)))
        (pss_cons (ps_if (pt_not (pt_val (pe_meth (pv 5) T.cl_Ledger T.mt_Ledger_follows G_Ledger_follows (hr.mono (by omega)) T.b_Ledger_follows .nil pass0 (pa_cons (pv 7) pa_nil))))
            (pss_one (ps_ret (pv 6)))
            pss_nil)
          (pss_one (ps_expr (pe_meth (pv 5) T.cl_Ledger T.mt_Ledger_take_in G_Ledger_take_in (hr.mono (by omega)) T.b_Ledger_take_in .nil pass0 (pa_cons (pv 7) pa_nil))))))
      (pss_one (ps_ret (pe_un un_neg pe_int))))), ?_⟩
    refine q_asgX (te_make (ea_cons (ev_var rfl) (ea_cons (ev_var rfl) (ea_cons (ev_var rfl) (ea_cons (ev_var rfl) ea_nil)))) fun x dx H1 e1 hx hdx hne => ?_)
    have e10 : Ex H1 (upd (upd H1 dx (.own x)) x (.ins T.f_Ledger dx [])) := (Ex.new hdx).trans (Ex.new (by rw [upd_ne hne.symm]; exact hx))
    refine ⟨x, dx, st, a, b, pl, line, bd, rfl, upd_same, (e1.trans e10) _ _ ha, (e1.trans e10) _ _ hb, fun H2 d hdc hpp hpq hpr f2 hL => ⟨rfl, ?_⟩⟩
    subst hdc
    have hc0 : H d.c = none := fresh_back e1 hx
    have hpp0 := fresh_back (e1.trans e10) hpp
    have hpr0 := fresh_back (e1.trans e10) hpr
    have ex2 : Ex H H2 := fun c o hc => f2 _ _ ((e1.trans e10) _ _ hc) fun z => by rw [List.mem_singleton.mp z, hc0] at hc; cases hc
    refine q_forE (xs := xs.map fun x => V.ref x.t) (ea_cons (ev_var rfl) ea_nil) (sq_of (hR.ex ex2).h0) (fun i σ' H' => ∃ (d : LedD) (L : LedM) (y6 y7 : Option V), σ' = [some (.int st), some (.ref a), some (.ref b), some (.bl bd), some (.ref rp), some (.ref d.c), y6, y7] ∧ Ex H H' ∧ LedAt T.f_Ledger H' d L ∧ LedOk L ∧ H d.c = none ∧ H d.pp = none ∧ H d.pr = none ∧ firstL (led0 st pl line bd) (xs.map RepD.r) 0 = firstL L ((xs.drop i).map RepD.r) (i : Int)) ?_ ?_ ?_ ?_
    · intro H3 e3
      exact ⟨d, _, _, _, rfl, ex2.trans e3, hL.ex e3, hO, hc0, hpp0, hpr0, rfl⟩
    · rintro i σ' H3 hi ⟨d, L, y6, y7, rfl, ex, _⟩
      exact sq_of (hR.ex ex).h0
    · clear hL ex2 hc0 hpp0 hpr0 f2 hpp hpq hpr hO
      rintro i xv t0 σ' Hc hxv ⟨d, L, y6, y7, rfl, ex, hL, hO, hc0, hpp0, hpr0, hfst⟩ nT
      rw [List.getElem?_map] at hxv
      obtain ⟨x, hx, rfl⟩ := Option.map_eq_some_iff.mp hxv
      have hxm := List.mem_of_getElem? hx
      refine ⟨_, tg_two (st_of upd_same) tg_name tg_name, ?_⟩
      have exT := ex.trans (Ex.new (o := .tup [.int (i : Nat), .ref x.t]) nT)
      have hLT := hL.ex (Ex.new (o := .tup [.int (i : Nat), .ref x.t]) nT)
      generalize upd Hc t0 (.tup [.int (i : Nat), .ref x.t]) = H3 at exT hLT
      have hil := (List.getElem?_eq_some_iff.mp hx).1
      have hdr : (xs.drop i).map RepD.r = x.r :: (xs.drop (i + 1)).map RepD.r := by
        rw [List.drop_eq_getElem_cons hil, List.map_cons]
        rw [List.getElem?_eq_getElem hil] at hx
        rw [Option.some.inj hx]
      rw [hdr] at hfst
      have hRx := (hR.ex exT).hr x hxm
      refine q_when (b := !folM L x.r) (et_not (et_B (ev_meth (ev_var rfl) hLT.hc l_no (ea_cons (ev_var rfl) ea_nil) (fun Hx e Q q _ => ⟨d, L, x.t, x.pf, x.pg, x.r, rfl, hLT.ex e, hO, hRx.ex e, (hR.hl x hxm).1, (hR.hl x hxm).2, q⟩)))) (fun hb H4 e4 => ?_) (fun hb H4 e4 => ?_)
      · have hff : ¬ folM L x.r = true := fun z => by rw [z] at hb; cases hb
        refine s_ret (ev_var rfl) fun H5 e5 => ?_
        have := q H5 ((exT.trans e4).trans e5)
        rw [hfst] at this
        unfold firstL at this
        rw [if_neg hff] at this
        exact this
      · have hff : folM L x.r = true := by cases hc : folM L x.r <;> rw [hc] at hb <;> first | rfl | cases hb
        have hL4 := hLT.ex e4
        have old : ∀ {c : Addr} {o : HO}, H c = some o → c ≠ d.pp ∧ c ≠ d.pr := fun hc => ⟨fun z => (by rw [z, hpp0] at hc; cases hc), fun z => by rw [z, hpr0] at hc; cases hc⟩
        have hR0 := hR.hr x hxm
        refine s_dropL (te_meth (ev_var rfl) hL4.hc l_no (ea_cons (ev_var rfl) ea_nil) fun H5 e5 => ?_)
        refine ⟨d, L, x.t, x.pf, x.pg, x.r, rfl, hL4.ex e5, hO, hff, (hRx.ex e4).ex e5, (old hR0.hf).1, (old hR0.hg).1, (old hR0.hf).2, (hR.hl x hxm).1, (hR.hl x hxm).2, fun H6 pq hpq f6 hL6 => ?_⟩
        have ex5 := (exT.trans e4).trans e5
        refine ⟨{ d with pq := pq }, afterL L x.r, _, _, rfl, fun c o hc => f6 _ _ (ex5 _ _ hc) fun z => ?_, hL6, hO.after hff, hc0, hpp0, hpr0, ?_⟩
        · simp only [List.mem_cons, List.not_mem_nil, or_false] at z
          rcases z with z | z | z
          · rw [z, hc0] at hc; cases hc
          · rw [z, hpp0] at hc; cases hc
          · rw [z, hpr0] at hc; cases hc
        · rw [hfst]
          show (if folM L x.r = true then _ else _) = _
          rw [if_pos hff]
          push_cast
          rfl
    · rintro σ' H3 ⟨d, L, y6, y7, rfl, ex, hL, _, _, _, _, hfst⟩
      rw [List.length_map, List.drop_length] at hfst
      refine s_ret (ev_un ev_c ru_neg) fun H4 e4 => ?_
      have := q H4 (ex.trans e4)
      rw [hfst] at this
      exact this
end

end Su
namespace Su
/-! ### a circle's reports follow from its opening -/
def repM (M : CirM) (paid : List Bool) (bids : List Int) : RepM := ⟨M.opn, (midR M paid bids).1, (midR M paid bids).2.1, (midR M paid bids).2.2.1, (midR M paid bids).2.2.2, natI (unpM M .w paid), natI (unpM M .d paid)⟩
structure Rel (M : CirM) (dr : List Nat) (L : LedM) : Prop where
  stk : L.stake = M.stake
  len : L.pl.length = M.seats.length
  pl : ∀ (i : Nat) (s : SeatM), M.seats[i]? = some s → L.pl.getD i 0 = s.pledge
  line : L.line = natI M.line
  bid : L.bid = M.bid
  drew : L.drew = natI dr
  dn : dr.Nodup
  dm : ∀ i, i ∈ dr ↔ ∃ s, M.seats[i]? = some s ∧ s.st = .d
  opn : L.opn = M.opn
  due : L.due = M.rests
theorem mem_natI {i : Nat} {l : List Nat} : (i : Int) ∈ natI l ↔ i ∈ l := by
  unfold natI
  rw [List.mem_map]
  constructor
  · rintro ⟨j, hj, e⟩
    have : j = i := by omega
    rw [← this]
    exact hj
  · exact fun h => ⟨i, h, rfl⟩
theorem natI_mem {x : Int} {l : List Nat} (h : x ∈ natI l) : ∃ i ∈ l, x = (i : Int) := by
  unfold natI at h
  obtain ⟨i, hi, e⟩ := List.mem_map.mp h
  exact ⟨i, hi, e.symm⟩
theorem natI_getD {l : List Nat} {i : Nat} (hi : i < l.length) : (natI l).getD i 0 = ((l.getD i 0 : Nat) : Int) := by
  unfold natI
  rw [List.getD_eq_getElem?_getD, List.getElem?_map, List.getD_eq_getElem?_getD, List.getElem?_eq_getElem hi]
  rfl
theorem grow_sorted {l : List Nat} (h : l.Pairwise (· < ·)) : growB (natI l) = true := by
  unfold growB
  rw [List.all_eq_true]
  intro i hi
  have hi := List.mem_range.mp hi
  rw [natI_len] at hi
  rw [natI_getD (by omega), natI_getD (by omega)]
  refine decide_eq_true ?_
  have := List.pairwise_iff_getElem.mp h i (i + 1) (by omega) (by omega) (by omega)
  rw [List.getD_eq_getElem?_getD, List.getD_eq_getElem?_getD, List.getElem?_eq_getElem (show i < l.length by omega), List.getElem?_eq_getElem (show i + 1 < l.length by omega)]
  show ((l[i] : Nat) : Int) < ((l[i + 1] : Nat) : Int)
  omega
theorem unp_sorted {M : CirM} {t : SSt} {paid : List Bool} : (unpM M t paid).Pairwise (· < ·) := by
  unfold unpM
  exact List.Pairwise.filter _ List.pairwise_lt_range
section
variable {M : CirM} {paid : List Bool} {bids : List Int} {st : Int} {pl ws : List Int} {t : Nat} {dr : List Nat} {L : LedM}
theorem pay_count (g : Good M) (dn : dr.Nodup) (dm : ∀ i, i ∈ dr ↔ ∃ s, M.seats[i]? = some s ∧ s.st = .d) : ((payersM M paid).length : Int) = (M.line.length : Int) + (dr.length : Int) - ((unpM M .w paid).length : Int) := by
  have hp : (payersM M paid).Perm ((midM M paid).line ++ dr) := by
    refine perm_subN ?_ ?_ fun i => ?_
    · unfold payersM payM
      exact List.Pairwise.filter _ List.nodup_range
    · rw [List.nodup_append]
      refine ⟨(g.midOk (paid := paid)).1, dn, fun a ha b hb z => ?_⟩
      subst z
      obtain ⟨s, hs, hw⟩ := (g.lw a).mp ((g.midOk (paid := paid)).2.1 a ha).1
      obtain ⟨s', hs', hd⟩ := (dm a).mp hb
      rw [hs] at hs'
      cases hs'
      rw [hw] at hd
      cases hd
    · rw [pay_in, List.mem_append, g.midLw, g.lw, dm]
      constructor
      · rintro ⟨s, hs, hf, hu⟩
        cases hst : s.st with
        | w => exact .inl ⟨⟨s, hs, hst⟩, hu⟩
        | d => exact .inr ⟨s, hs, hst⟩
        | f => exact absurd hst hf
      · rintro (⟨⟨s, hs, hw⟩, hu⟩ | ⟨s, hs, hd⟩)
        · exact ⟨s, hs, by rw [hw]; decide, hu⟩
        · refine ⟨s, hs, by rw [hd]; decide, fun z => ?_⟩
          obtain ⟨s', hs', hw, _⟩ := unp_in.mp z
          rw [hs] at hs'
          cases hs'
          rw [hd] at hw
          cases hw
  have h1 := hp.length_eq
  rw [List.length_append] at h1
  have h2 := g.midLen (paid := paid)
  omega
theorem Rel.payL (h : Rel M dr L) (g : Good M) : payL L (unpM M .w paid).length = ((payersM M paid).length : Int) := by
  rw [pay_count g h.dn h.dm]
  unfold Su.payL
  rw [h.line, h.drew, natI_len, natI_len]
theorem Rel.follows (h : Rel M dr L) (hS : Sound st pl t M) (s1 : 1 ≤ st) (ht : t < pl.length) (hbl : bids.length = M.seats.length) (hbb : ∀ z ∈ bids, 0 ≤ z ∧ z ≤ potM M) : folM L (repM M paid bids) = true := by
  have g := hS.g
  have ho := hS.n0 ht
  have hopn := hS.opn
  have hlen := hS.len
  have hstk := hS.stk
  have hpay := h.payL (paid := paid) g
  unfold folM
  rw [if_neg (by
    rintro (c | c)
    · exact c h.opn.symm
    · have c : M.opn > (L.pl.length : Int) := c
      rw [h.len] at c
      omega)]
  rw [if_neg (by
    show ¬ (growB (natI (unpM M .w paid)) && (natI (unpM M .w paid)).all fun x => decide (x ∈ L.line)) = false
    rw [grow_sorted unp_sorted, Bool.true_and, Bool.not_eq_false, List.all_eq_true]
    intro x hx
    obtain ⟨i, hi, rfl⟩ := natI_mem hx
    rw [h.line]
    exact decide_eq_true (mem_natI.mpr (g.fallIn hi).1))]
  rw [if_neg (by
    show ¬ (growB (natI (unpM M .d paid)) && (natI (unpM M .d paid)).all (canP L)) = false
    rw [grow_sorted unp_sorted, Bool.true_and, Bool.not_eq_false, List.all_eq_true]
    intro x hx
    obtain ⟨i, hi, rfl⟩ := natI_mem hx
    obtain ⟨s, hs, hd, _⟩ := unp_in.mp hi
    unfold canP
    rw [Bool.and_eq_true]
    refine ⟨by rw [h.drew]; exact decide_eq_true (mem_natI.mpr ((h.dm i).mpr ⟨s, hs, hd⟩)), decide_eq_true ?_⟩
    rw [Int.toNat_natCast, h.pl i s hs, h.stk, hstk]
    have := ((hS.at_ i s hs).2.2.2.2.2 hd).2.2
    have h2 : st * 1 ≤ st * ((pl.length : Int) - (t : Int)) := Int.mul_le_mul_of_nonneg_left (by omega) (by omega)
    omega)]
  have hdr : drawsM M paid = decide (M.rests + ((unpM M .w paid).length : Int) > 0) := by unfold drawsM; rw [mid_rests]
  show (if L.due + ((natI (unpM M .w paid)).length : Int) > 0 then boxB L (repM M paid bids) else _) = true
  rw [natI_len, h.due]
  by_cases c : M.rests + ((unpM M .w paid).length : Int) > 0
  · rw [if_pos c]
    rw [decide_eq_true c] at hdr
    have e : midR M paid bids = (("box" : Str), (-1 : Int), M.stake * ((payersM M paid).length : Int), (0 : Int)) := by unfold midR; rw [if_pos hdr]
    unfold boxB
    show (decide ((midR M paid bids).1 = ("box" : Str)) && (decide ((midR M paid bids).2.1 = -1) && (decide ((midR M paid bids).2.2.1 = L.stake * Su.payL L (natI (unpM M .w paid)).length) && decide ((midR M paid bids).2.2.2 = 0)))) = true
    rw [e, natI_len, hpay, h.stk]
    simp
  · rw [if_neg c]
    rw [decide_eq_false c] at hdr
    have hu0 : (unpM M .w paid).length = 0 := by have := g.r0; omega
    have hr0 : M.rests = 0 := by have := g.r0; omega
    rw [hu0] at hpay
    have hunil : unpM M .w paid = [] := List.eq_nil_of_length_eq_zero hu0
    have e : midR M paid bids = (("draw" : Str), ((wonM M paid bids : Nat) : Int), potM M - shrM M paid bids * ((othM (payersM M paid) (wonM M paid bids)).length : Int), shrM M paid bids) := by
      unfold midR
      rw [if_neg (by rw [hdr]; decide)]
      rfl
    have hwin := g.wonIn (paid := paid) (bids := bids) hdr ho
    obtain ⟨hwl, hwu⟩ := g.midLw.mp hwin
    obtain ⟨s, hs, hw⟩ := (g.lw _).mp hwl
    have hwp : wonM M paid bids ∈ payersM M paid := pay_in.mpr ⟨s, hs, by rw [hw]; decide, hwu⟩
    have hol := oth_len (l := payersM M paid) (by unfold payersM payM; exact List.Pairwise.filter _ List.nodup_range) hwp
    have hml : (midM M paid).line = M.line := by
      rw [mid_line, hunil]
      exact List.filter_eq_self.mpr fun _ _ => rfl
    -- the share
    have hsh : 0 ≤ shrM M paid bids ∧ shrM M paid bids * ((othM (payersM M paid) (wonM M paid bids)).length : Int) ≤ potM M ∧ (othM (payersM M paid) (wonM M paid bids) = [] → shrM M paid bids = 0) := by
      have hb : 0 ≤ (bestM (midM M paid) bids).2 ∧ (bestM (midM M paid) bids).2 ≤ potM M := by
        rcases best_two (N := midM M paid) (bids := bids) with z | z
        · rw [z.2]
          refine ⟨Int.le_refl 0, ?_⟩
          unfold potM
          rw [hstk]
          exact Int.mul_nonneg (by omega) (by omega)
        · rw [z.2.2]
          have hi : (bestM (midM M paid) bids).1 < bids.length := by rw [hbl]; exact (List.getElem?_eq_some_iff.mp hs).1
          refine hbb _ ?_
          rw [List.getD_eq_getElem?_getD, List.getElem?_eq_getElem hi]
          exact List.getElem_mem _
      unfold shrM shareM
      by_cases z : othM (payersM M paid) (wonM M paid bids) = []
      · rw [if_pos z]
        refine ⟨Int.le_refl 0, ?_, fun _ => rfl⟩
        rw [Int.zero_mul]
        omega
      · rw [if_neg z]
        have hpos := List.length_pos_iff.mpr z
        refine ⟨Int.ediv_nonneg hb.1 (by omega), ?_, fun y => absurd y z⟩
        have := Int.ediv_mul_le (bestM (midM M paid) bids).2 (show ((othM (payersM M paid) (wonM M paid bids)).length : Int) ≠ 0 by omega)
        omega
    have hdc : dcoin L (shrM M paid bids) = potM M - shrM M paid bids * ((othM (payersM M paid) (wonM M paid bids)).length : Int) := by
      unfold dcoin potM
      rw [hpay, h.stk, h.len, hol]
    show (decide ((midR M paid bids).1 = ("draw" : Str)) && (canD L (midR M paid bids).2.1 (midR M paid bids).2.2.2 && decide ((midR M paid bids).2.2.1 = dcoin L (midR M paid bids).2.2.2))) = true
    rw [e]
    show (decide (("draw" : Str) = "draw") && (canD L ((wonM M paid bids : Nat) : Int) (shrM M paid bids) && decide (potM M - shrM M paid bids * ((othM (payersM M paid) (wonM M paid bids)).length : Int) = dcoin L (shrM M paid bids)))) = true
    rw [hdc, decide_eq_true rfl, decide_eq_true rfl, Bool.true_and, Bool.and_true]
    unfold canD
    rw [if_neg (by rw [h.line]; exact Decidable.not_not.mpr (mem_natI.mpr hwl))]
    rw [if_neg (by
      refine Decidable.not_not.mpr ?_
      rw [Int.toNat_natCast, h.pl _ s hs, h.stk, h.len, h.opn, hstk, hlen, hopn]
      have := hS.won (paid := paid) (bids := bids) (by omega) ht hdr hs hw
      have e2 : (pl.length : Int) - ((t : Int) + 1) = (pl.length : Int) - (t : Int) - 1 := by omega
      rw [e2]
      exact this)]
    by_cases cb : L.bid = false
    · rw [if_pos cb]
      rcases best_two (N := midM M paid) (bids := bids) with z | z
      · have hw0 : wonM M paid bids = M.line.getD 0 0 := by
          show (bestM (midM M paid) bids).1 = _
          rw [z.1, hml]
        have hs0 : shrM M paid bids = 0 := by
          unfold shrM
          rw [z.2, share0]
        rw [h.line, hs0, decide_eq_true rfl, Bool.and_true]
        refine decide_eq_true ?_
        rw [natI_getD (List.length_pos_of_mem hwl), hw0]
      · have := z.1
        rw [h.bid] at cb
        have hmb : (midM M paid).bid = M.bid := rfl
        rw [hmb, cb] at this
        cases this
    · rw [if_neg cb]
      by_cases cp : Su.payL L 0 = 1
      · rw [if_pos cp]
        refine decide_eq_true (hsh.2.2 ?_)
        rw [hpay] at cp
        rw [cp] at hol
        exact List.eq_nil_of_length_eq_zero (by omega)
      · rw [if_neg cp, Bool.and_eq_true]
        refine ⟨decide_eq_true hsh.1, decide_eq_true ?_⟩
        rw [hdc]
        have := hsh.2.1
        omega
theorem plsub_at {st : Int} : ∀ {l : List Nat} {pl : List Int}, l.Nodup → (∀ i ∈ l, i < pl.length) → ∀ k, (plsub st pl (natI l)).getD k 0 = pl.getD k 0 - (if k ∈ l then st else 0)
  | [], pl, _, _, k => by
    show pl.getD k 0 = _
    rw [if_neg List.not_mem_nil, Int.sub_zero]
  | a :: l, pl, hn, hi, k => by
    obtain ⟨h1, h2⟩ := List.nodup_cons.mp hn
    show (plsub st (pl.set ((a : Int)).toNat (pl.getD ((a : Int)).toNat 0 - st)) (natI l)).getD k 0 = _
    rw [Int.toNat_natCast, plsub_at h2 (fun i hi' => by rw [List.length_set]; exact hi i (List.mem_cons_of_mem _ hi'))]
    by_cases e : k = a
    · subst e
      rw [if_neg h1, if_pos List.mem_cons_self, Int.sub_zero, List.getD_eq_getElem?_getD, List.getElem?_set_self (hi k List.mem_cons_self)]
      rfl
    · rw [List.getD_eq_getElem?_getD, List.getElem?_set_ne fun z => e z.symm, ← List.getD_eq_getElem?_getD]
      by_cases c : k ∈ l
      · rw [if_pos c, if_pos (List.mem_cons_of_mem _ c)]
      · rw [if_neg c, if_neg fun z => (List.mem_cons.mp z).elim e c]
theorem Rel.step (h : Rel M dr L) (g : Good M) (ho : M.opn ≤ M.seats.length) : Rel (closeM M paid bids) (if drawsM M paid = true then dr else dr ++ [wonM M paid bids]) (afterL L (repM M paid bids)) := by
  have hdr : drawsM M paid = decide (M.rests + ((unpM M .w paid).length : Int) > 0) := by unfold drawsM; rw [mid_rests]
  have hkind : (midR M paid bids).1 = ("box" : Str) ↔ drawsM M paid = true := by
    unfold midR
    by_cases c : drawsM M paid = true
    · rw [if_pos c]
      exact ⟨fun _ => c, fun _ => rfl⟩
    · rw [if_neg c]
      refine ⟨fun z => ?_, fun z => absurd z c⟩
      have z : ("draw" : Str) = ("box" : Str) := z
      exact absurd z (by decide +kernel)
  have hwho : (midR M paid bids).2.1 = if drawsM M paid = true then -1 else ((wonM M paid bids : Nat) : Int) := by
    unfold midR
    by_cases c : drawsM M paid = true
    · rw [if_pos c, if_pos c]
    · rw [if_neg c, if_neg c]
      rfl
  have gm := g.midOk (paid := paid)
  refine ⟨by rw [close_stake]; exact h.stk, by rw [close_len]; show (plsub _ _ _).length = _; rw [plsub_len]; exact h.len, fun i s' hs' => ?_, ?_, by rw [close_bid]; exact h.bid, ?_, ?_, fun i => ?_, by rw [close_opn]; show M.opn + 1 = _; rfl, ?_⟩
  · rw [close_at] at hs'
    obtain ⟨s, hs, rfl⟩ := Option.map_eq_some_iff.mp hs'
    show (plsub L.stake L.pl (natI (unpM M .d paid))).getD i 0 = _
    rw [plsub_at (by unfold unpM; exact List.Pairwise.filter _ List.nodup_range) (fun j hj => by
      obtain ⟨s, hs, _⟩ := unp_in.mp hj
      rw [h.len]
      exact (List.getElem?_eq_some_iff.mp hs).1), h.pl i s hs, end_pledge, h.stk]
    split <;> omega
  · show (L.line.filter fun x => decide (x ∉ natI (unpM M .w paid)) && decide (x ≠ (midR M paid bids).2.1)) = _
    rw [h.line, close_line, hwho]
    have hf : ∀ p : Nat → Bool, (∀ i ∈ M.line, (decide ((i : Int) ∉ natI (unpM M .w paid)) && decide ((i : Int) ≠ if drawsM M paid = true then -1 else ((wonM M paid bids : Nat) : Int))) = p i) → ((natI M.line).filter fun x => decide (x ∉ natI (unpM M .w paid)) && decide (x ≠ if drawsM M paid = true then -1 else ((wonM M paid bids : Nat) : Int))) = natI (M.line.filter p) := fun p hp => by
      unfold natI
      rw [List.filter_map]
      congr 1
      exact List.filter_congr fun i hi => hp i hi
    by_cases c : drawsM M paid = true
    · have el : lineC M paid bids = M.line.filter fun i => !decide (i ∈ unpM M .w paid) := by unfold lineC; rw [if_pos c, mid_line]
      rw [el]
      refine hf _ fun i _ => ?_
      rw [if_pos c]
      by_cases e : i ∈ unpM M .w paid
      · rw [decide_eq_false (Decidable.not_not.mpr (mem_natI.mpr e)), decide_eq_true e]
        rfl
      · rw [decide_eq_true (show ¬ (i : Int) ∈ natI (unpM M .w paid) from fun z => e (mem_natI.mp z)), decide_eq_false e, decide_eq_true (show (i : Int) ≠ -1 by omega)]
        rfl
    · have el : lineC M paid bids = M.line.filter fun a => a != wonM M paid bids && !decide (a ∈ unpM M .w paid) := by unfold lineC; rw [if_neg c, List.Nodup.erase_eq_filter gm.1, mid_line, List.filter_filter]
      rw [el]
      refine hf _ fun i _ => ?_
      rw [if_neg c]
      by_cases e : i ∈ unpM M .w paid
      · rw [decide_eq_false (Decidable.not_not.mpr (mem_natI.mpr e)), decide_eq_true e]
        simp
      · rw [decide_eq_true (show ¬ (i : Int) ∈ natI (unpM M .w paid) from fun z => e (mem_natI.mp z)), decide_eq_false e]
        by_cases e2 : i = wonM M paid bids
        · subst e2
          simp
        · rw [decide_eq_true (show ¬ (i : Int) = ((wonM M paid bids : Nat) : Int) by omega)]
          simp [e2]
  · show (if (midR M paid bids).1 = ("box" : Str) then L.drew else L.drew ++ [(midR M paid bids).2.1]) = _
    rw [hwho]
    by_cases c : drawsM M paid = true
    · rw [if_pos (hkind.mpr c), if_pos c, h.drew]
    · rw [if_neg fun z => c (hkind.mp z), if_neg c, if_neg c, h.drew]
      unfold natI
      rw [List.map_append]
      rfl
  · by_cases c : drawsM M paid = true
    · rw [if_pos c]
      exact h.dn
    · rw [if_neg c, List.nodup_append]
      refine ⟨h.dn, by simp, fun a ha b hb z => ?_⟩
      rw [List.mem_singleton.mp hb] at z
      subst z
      obtain ⟨s', hs', hd⟩ := (h.dm _).mp ha
      have hin := g.wonIn (paid := paid) (bids := bids) (by rw [Bool.not_eq_true] at c; exact c) ho
      obtain ⟨s, hs, hw⟩ := (g.lw _).mp (g.midLw.mp hin).1
      rw [hs] at hs'
      cases hs'
      rw [hw] at hd
      cases hd
  · have hst : (∃ s, (closeM M paid bids).seats[i]? = some s ∧ s.st = .d) ↔ ∃ s, M.seats[i]? = some s ∧ (endS M paid bids i s).st = .d := by
      rw [close_at]
      constructor
      · rintro ⟨s, hs, hd⟩
        obtain ⟨s0, hs0, rfl⟩ := Option.map_eq_some_iff.mp hs
        exact ⟨s0, hs0, hd⟩
      · rintro ⟨s, hs, hd⟩
        exact ⟨_, by rw [hs]; rfl, hd⟩
    rw [hst]
    by_cases c : drawsM M paid = true
    · rw [if_pos c, h.dm]
      constructor
      · rintro ⟨s, hs, hd⟩
        refine ⟨s, hs, ?_⟩
        rw [end_st, if_neg (fun z => by rw [c] at z; cases z.1), if_neg fun z => ?_]
        · exact hd
        · obtain ⟨s', hs', hw, _⟩ := unp_in.mp z
          rw [hs] at hs'
          cases hs'
          rw [hd] at hw
          cases hw
      · rintro ⟨s, hs, hd⟩
        refine ⟨s, hs, ?_⟩
        rw [end_st, if_neg (fun z => by rw [c] at z; cases z.1)] at hd
        split at hd
        · cases hd
        · exact hd
    · have cf : drawsM M paid = false := by rw [Bool.not_eq_true] at c; exact c
      rw [if_neg c, List.mem_append, List.mem_singleton, h.dm]
      have hin := g.wonIn (paid := paid) (bids := bids) cf ho
      constructor
      · rintro (⟨s, hs, hd⟩ | rfl)
        · refine ⟨s, hs, ?_⟩
          rw [end_st]
          split
          · rfl
          · rw [if_neg fun z => ?_]
            · exact hd
            · obtain ⟨s', hs', hw, _⟩ := unp_in.mp z
              rw [hs] at hs'
              cases hs'
              rw [hd] at hw
              cases hw
        · obtain ⟨s, hs, hw⟩ := (g.lw _).mp (g.midLw.mp hin).1
          exact ⟨s, hs, by rw [end_st, if_pos ⟨cf, rfl⟩]⟩
      · rintro ⟨s, hs, hd⟩
        rw [end_st] at hd
        split at hd
        · rename_i z
          exact .inr z.2
        · split at hd
          · cases hd
          · exact .inl ⟨s, hs, hd⟩
  · show L.due + ((natI (unpM M .w paid)).length : Int) - (if (midR M paid bids).1 = ("box" : Str) then 1 else 0) = _
    rw [natI_len, h.due, close_rests, mid_rests]
    by_cases c : drawsM M paid = true
    · rw [if_pos (hkind.mpr c), if_pos c]
    · rw [if_neg fun z => c (hkind.mp z), if_neg c, Int.sub_zero]
theorem rel0 {bd : Bool} {row : List Nat} (ho : OpenOk st pl ws) : Rel (cir0 st pl ws bd row) [] (led0 st pl (natI row) bd) := by
  have hst : ∀ (i : Nat) (s : SeatM), (cir0 st pl ws bd row).seats[i]? = some s → ∃ p, pl[i]? = some p ∧ s = seat0 p := fun i s hs => by
    have hs : (pl.map seat0)[i]? = some s := hs
    rw [List.getElem?_map] at hs
    obtain ⟨p, hp, rfl⟩ := Option.map_eq_some_iff.mp hs
    exact ⟨p, hp, rfl⟩
  refine ⟨rfl, (List.length_map _).symm, fun i s hs => ?_, rfl, rfl, rfl, List.nodup_nil, fun i => ⟨fun z => absurd z List.not_mem_nil, fun ⟨s, hs, hd⟩ => ?_⟩, rfl, rfl⟩
  · obtain ⟨p, hp, rfl⟩ := hst i s hs
    show pl.getD i 0 = p
    rw [List.getD_eq_getElem?_getD, hp]
    rfl
  · obtain ⟨p, hp, rfl⟩ := hst i s hs
    cases hd
theorem ledOk0 {bd : Bool} {row : List Nat} (ho : OpenOk st pl ws) (hI : IsOrd (winsM st pl ws) row) : LedOk (led0 st pl (natI row) bd) := by
  have hlen : row.length = pl.length := by
    have := hI.1.length_eq
    rw [List.length_range, wins_len ho.lw] at this
    exact this
  have n2 := ho.n2
  refine ⟨ho.s1, ho.s2, by show pl.length ≤ 100; omega, fun x hx => ?_, fun x hx => absurd hx List.not_mem_nil, ?_, by show (-1000 : Int) ≤ 1; decide, by show (1 : Int) ≤ 1000; decide⟩
  · obtain ⟨i, hi, rfl⟩ := natI_mem (show x ∈ natI row from hx)
    have := hI.1.mem_iff.mp hi
    rw [List.mem_range, wins_len ho.lw] at this
    show 0 ≤ (i : Int) ∧ (i : Int) < (pl.length : Int)
    omega
  · show (natI row).length + 0 ≤ pl.length
    rw [natI_len]
    omega
theorem midR_ok : PyData.strOk (midR M paid bids).1 = true := by
  unfold midR
  split
  · show PyData.strOk ("box" : Str) = true
    decide +kernel
  · show PyData.strOk ("draw" : Str) = true
    decide +kernel
end

end Su
namespace Su
/-! ### rows of reports, copied and compared -/
section
variable {X : Cx} {K : PySem.W.Frag}
theorem sl_tupK (h : X.K = K := by rfl) : SlR X (rSlT K) := h ▸ sl_tup
theorem op_catTK (h : X.K = K := by rfl) : OpR X (binaryOp .Add) (rCatT K) := h ▸ op_catT
end
def repPD (r : RepM) : PyData := .tuple [.int r.turn, .str r.kind, .int r.who, .int r.coins, .int r.share, .list (r.fal.map PyData.int), .list (r.hlp.map PyData.int)]
theorem layInts : ∀ l : List Int, PyData.canLayAll0 (l.map .int) = true
  | [] => by simp [PyData.canLayAll0]
  | a :: r => by simp [PyData.canLayAll0, PyData.canLay0, layInts r]
theorem depInts : ∀ l : List Int, PyData.depthAll (l.map .int) = 0
  | [] => by simp [PyData.depthAll]
  | a :: r => by simp [PyData.depthAll, PyData.depth, depInts r]
theorem layRep {r : RepM} (h : PyData.strOk r.kind = true) : PyData.canLay0 (repPD r) = true := by
  unfold repPD
  simp [PyData.canLay0, PyData.canLayAll0, layInts, h]
theorem depRep {r : RepM} : PyData.depth (repPD r) ≤ 10 := by
  unfold repPD
  simp [PyData.depth, PyData.depthAll, depInts]
theorem shaped_reps {rs : List RepM} (h : ∀ r ∈ rs, PyData.strOk r.kind = true) : SeqAt.shaped (.list (rs.map repPD)) = true := by
  have h1 : ∀ l : List RepM, (∀ r ∈ l, PyData.strOk r.kind = true) → PyData.canLayAll0 (l.map repPD) = true := by
    intro l
    induction l with
    | nil => intro _; simp [PyData.canLayAll0]
    | cons a l ih =>
      intro hl
      simp [PyData.canLayAll0, layRep (hl a List.mem_cons_self), ih fun r hr => hl r (List.mem_cons_of_mem _ hr)]
  have h2 : ∀ l : List RepM, PyData.depthAll (l.map repPD) ≤ 10 := by
    intro l
    induction l with
    | nil => simp [PyData.depthAll]
    | cons a l ih =>
      have := depRep (r := a)
      simp only [List.map_cons, PyData.depthAll]
      omega
  unfold SeqAt.shaped
  rw [Bool.and_eq_true]
  refine ⟨by simp only [PyData.canLay0]; exact h1 rs h, ?_⟩
  have := h2 rs
  simp only [PyData.depth]
  exact decide_eq_true (by omega)
section
variable {K : PySem.W.Frag} {σ : L2.St} {H H' : Hp} {xs : List RepD} {rp : Addr}
theorem dp_rep1 {t pf pg : Addr} {r : RepM} (h : RepAt H t pf pg r) : Dp K H (.ref t) (repPD r) :=
  .tup (st_of h.ht) (.cons (.int _) (.cons (.str _) (.cons (.int _) (.cons (.int _) (.cons (.int _) (.cons (.lst (sq_of h.hf) dpa_intsV) (.cons (.lst (sq_of h.hg) dpa_intsV) .nil)))))))
theorem RepsAt.dpa (h : RepsAt H rp xs) : DpAll K H (xs.map fun x => V.ref x.t) ((xs.map RepD.r).map repPD) := by
  have := dpa_of (K := K) (H := H) (fun x : RepD => V.ref x.t) (fun x => repPD x.r) xs fun x hx => dp_rep1 (h.hr x hx)
  rw [List.map_map]
  exact this
theorem RepsAt.dp (h : RepsAt H rp xs) : Dp K H (.ref rp) (.list ((xs.map RepD.r).map repPD)) := .lst (sq_of h.h0) h.dpa
def RepD.all (x : RepD) : List Addr := [x.t, x.pf, x.pg]
theorem RepAt.up {p : Addr} {o : HO} {t pf pg : Addr} {r : RepM} (h : RepAt H t pf pg r) (h1 : t ≠ p) (h2 : pf ≠ p) (h3 : pg ≠ p) : RepAt (upd H p o) t pf pg r := ⟨by rw [upd_ne h1]; exact h.ht, by rw [upd_ne h2]; exact h.hf, by rw [upd_ne h3]; exact h.hg, h.ks⟩
theorem cut5 (xs : List V) (k : Nat) : cutV xs none (some (k : Int)) = xs.take k := cut_to xs k
/-- [row[:5] + (list(row[5]), list(row[6])) for row in reports] -/
theorem rl_copies {tl : TE} {Q : VK} {a : Addr} {j : Nat} {vs : List Nat} (h : Ev tl σ H (.ref a)) (hx : RepsAt H a xs) (hz : xs.length ≤ 1000) (hw : ∀ x, wipe ((wipe σ vs).set j (some x)) vs = wipe σ vs) (hj : ∀ x : V, ((wipe σ vs).set j (some x))[j]? = some (some x))
    (k : ∀ (D : Addr) (ys : List RepD) H', H D = none → Ex H H' → RepsAt H' D ys → ys.map RepD.r = xs.map RepD.r → Q (.ref D) H') : tLc (iList K tl) (gName j) tYes (tOp (rCatT K) (tSl (rSlT K) (tVar j) tNoPart (tPart (tC (.int 5)))) (tTup (tCons (tCB (fun xs H Q => ∃ p ys, xs = [.ref p] ∧ (SqL K H p ys ∨ SqT K H p ys) ∧ ∀ l, H l = none → Q (.ref l) (upd H l (.lst ys))) (tCons (tOp (rIxT K) (tVar j) (tC (.int 5))) tNil)) (tCons (tCB (fun xs H Q => ∃ p ys, xs = [.ref p] ∧ (SqL K H p ys ∨ SqT K H p ys) ∧ ∀ l, H l = none → Q (.ref l) (upd H l (.lst ys))) (tCons (tOp (rIxT K) (tVar j) (tC (.int 6))) tNil)) tNil)))) vs σ H Q := by
  refine rl_lc (xs := xs.map fun x => V.ref x.t) h (sq_of hx.h0) (fun D i H' => ∃ ys : List RepD, H D = none ∧ Ex H H' ∧ RepsAt H' D ys ∧ ys.map RepD.r = (xs.take i).map RepD.r ∧ ∀ y ∈ ys, D ∉ y.all) ?_ ?_ ?_ ?_
  · intro D H1 e1 hD
    exact ⟨[], fresh_back e1 hD, Ex.mut e1 (fresh_back e1 hD), ⟨upd_same, fun x hx => absurd hx List.not_mem_nil, fun x hx => absurd hx List.not_mem_nil⟩, rfl, fun x hx => absurd hx List.not_mem_nil⟩
  · rintro D i H' ⟨ys, hD, ex, _⟩
    exact ex_l ex (sq_of hx.h0)
  · rintro D i xv H' gx ⟨ys, hD, ex, hY, hyr, hDy⟩
    rw [List.getElem?_map] at gx
    obtain ⟨x, hgx, rfl⟩ := Option.map_eq_some_iff.mp gx
    have hxm := List.mem_of_getElem? hgx
    have hil := (List.getElem?_eq_some_iff.mp hgx).1
    have hR := (hx.ex ex).hr x hxm
    refine ⟨hw _, et_yes _ (Ex.refl _) _ fun H2 e2 => ?_⟩
    rw [if_pos rfl]
    have hR2 := hR.ex e2
    refine te_op (te_sl ((ev_var (hj _)) H2 (Ex.refl _) _ fun H3 e3 => eo_none H3 (Ex.refl _) _ fun H4 e4 => (eo_some (i := 5) ev_c) H4 (Ex.refl _) _ fun H5 e5 => ?_))
    have e35 := (e3.trans e4).trans e5
    have hR5 := hR2.ex e35
    refine ⟨x.t, _, rfl, st_of hR5.ht, by show ¬ ((0 : Nat) = 0 ∧ HT.sIx 7 7 (some ((5 : Nat) : Int)) = 7); rw [HT.sIx_nat]; omega, fun p hp => ?_⟩
    have e6 := Ex.new (o := .tup (cutV [V.int x.r.turn, .str x.r.kind, .int x.r.who, .int x.r.coins, .int x.r.share, .ref x.pf, .ref x.pg] none (some 5))) hp
    generalize hG : upd H5 p (.tup (cutV [V.int x.r.turn, .str x.r.kind, .int x.r.who, .int x.r.coins, .int x.r.share, .ref x.pf, .ref x.pg] none (some 5))) = H6 at e6
    have h6 : H6 p = some (.tup [V.int x.r.turn, .str x.r.kind, .int x.r.who, .int x.r.coins, .int x.r.share]) := by rw [← hG, upd_same]; exact congrArg (fun z => some (HO.tup z)) (cut_to _ 5)
    clear hG
    have hR6 := hR5.ex e6
    refine te_tup (ta_consX (el_go (el_list (ev_op (ev_var (hj _)) ev_c (rv_ixT (st_of hR6.ht) rfl)) (sq_of hR6.hf)) fun pf2 H7 hpf2 e7 h7 => ta_consX (el_go (el_list (ev_op (ev_var (hj _)) ev_c (rv_ixT (st_of (hR6.ex e7).ht) rfl)) (sq_of (hR6.ex e7).hg)) fun pg2 H8 hpg2 e8 h8 => ta_all (vs := []) ea_nil fun H9 e9 => ⟨by show 2 ≤ sizeLine; decide, fun q hq => ?_⟩)))
    have e10 := Ex.new (o := .tup [.ref pf2, .ref pg2]) hq
    generalize hG : upd H9 q (.tup [.ref pf2, .ref pg2]) = H10 at e10
    have h10 : H10 q = some (.tup [.ref pf2, .ref pg2]) := by rw [← hG]; exact upd_same
    clear hG
    refine ⟨p, q, _, _, rfl, rfl, st_of (((e7.trans e8).trans (e9.trans e10)) _ _ h6), st_of h10, by simp, by show 5 + 2 ≤ sizeLine; decide, (fun z => by cases z), fun _ t ht => ?_⟩
    have e11 := Ex.new (o := .tup ([V.int x.r.turn, .str x.r.kind, .int x.r.who, .int x.r.coins, .int x.r.share] ++ [.ref pf2, .ref pg2])) ht
    generalize hG : upd H10 t (.tup ([V.int x.r.turn, .str x.r.kind, .int x.r.who, .int x.r.coins, .int x.r.share] ++ [.ref pf2, .ref pg2])) = H11 at e11
    have h11 : H11 t = some (.tup [V.int x.r.turn, .str x.r.kind, .int x.r.who, .int x.r.coins, .int x.r.share, .ref pf2, .ref pg2]) := by rw [← hG]; exact upd_same
    clear hG
    have e26 := (e2.trans e35).trans e6
    have e811 := (e9.trans e10).trans e11
    have e711 := e8.trans e811
    have e611 := e7.trans e711
    have eAll := e26.trans e611
    have hD0 := hY.h0
    have hD6 := e26 _ _ hD0
    have n1 : D ≠ t := fun z => by rw [← z, ((e7.trans e8).trans (e9.trans e10)) _ _ hD6] at ht; cases ht
    have n2 : D ≠ pf2 := fun z => by rw [← z, hD6] at hpf2; cases hpf2
    have n3 : D ≠ pg2 := fun z => by rw [← z, e7 _ _ hD6] at hpg2; cases hpg2
    refine ⟨_, eAll _ _ hD0, sz_lt (by
      have := congrArg List.length hyr
      rw [List.length_map, List.length_map, List.length_take] at this
      rw [List.length_map]
      omega), ys ++ [⟨t, pf2, pg2, x.r⟩], hD, Ex.mut (ex.trans eAll) hD, ⟨by rw [upd_same, List.map_append]; rfl, fun y hy => ?_, fun y hy => ?_⟩, ?_, fun y hy => ?_⟩
    · rcases List.mem_append.mp hy with hy | hy
      · have hn := hDy y hy
        unfold RepD.all at hn
        simp only [List.mem_cons, List.not_mem_nil, or_false, not_or] at hn
        exact ((hY.hr y hy).ex eAll).up (fun z => hn.1 z.symm) (fun z => hn.2.1 z.symm) (fun z => hn.2.2 z.symm)
      · rw [List.mem_singleton.mp hy]
        exact (⟨h11, e711 _ _ h7, e811 _ _ h8, hR.ks⟩ : RepAt H11 t pf2 pg2 x.r).up n1.symm n2.symm n3.symm
    · rcases List.mem_append.mp hy with hy | hy
      · exact hY.hl y hy
      · rw [List.mem_singleton.mp hy]
        exact hx.hl x hxm
    · rw [List.map_append, hyr, List.take_add_one, hgx, List.map_append]
      rfl
    · rcases List.mem_append.mp hy with hy | hy
      · exact hDy y hy
      · rw [List.mem_singleton.mp hy]
        unfold RepD.all
        simp [n1, n2, n3]
  · rintro D H' ⟨ys, hD, ex, hY, hyr, _⟩
    rw [List.length_map, List.take_length] at hyr
    exact k D ys H' hD ex hY hyr
theorem lc_first {tl : TE} {g : TG} {tt : TT} {te : TE} {vs : List Nat} {Q : VK} {ys : List V} (h : EvL tl σ H ys) (k : ∀ p H1, H p = none → Ex H H1 → H1 p = some (.lst ys) → tLc (iList K (tC (.ref p))) g tt te vs σ H1 Q) : tLc (iList K tl) g tt te vs σ H Q := h H (Ex.refl H) _ fun p H1 hp e1 h1 => k p H1 hp e1 h1
end

end Su
namespace Su
/-! ### the program's own reports are let by -/
theorem CirAt.noTup {C S : Addr} {H : Hp} {d : CirD} {M : CirM} (h : CirAt C S H d M) {a : Addr} {xs : List V} (ha : H a = some (.tup xs)) : a ∉ d.all := fun z => by
  have hx : ∃ o, H a = some o ∧ ∀ ys, o ≠ .tup ys := by
    unfold CirD.all at z
    simp only [List.mem_cons, List.mem_append] at z
    rcases z with rfl | rfl | rfl | rfl | rfl | rfl | z | z
    · exact ⟨_, h.hc, fun _ z => nomatch z⟩
    · exact ⟨_, h.hl, fun _ z => nomatch z⟩
    · exact ⟨_, h.hfp, fun _ z => nomatch z⟩
    · exact ⟨_, h.hws, fun _ z => nomatch z⟩
    · exact ⟨_, h.hs, fun _ z => nomatch z⟩
    · exact ⟨_, h.hf, fun _ z => nomatch z⟩
    · obtain ⟨x, hx, rfl⟩ := List.mem_map.mp z
      obtain ⟨i, gi⟩ := List.getElem?_of_mem hx
      obtain ⟨s, gs⟩ := seat_at (h.sn gi)
      exact ⟨_, h.hsa i x s gi gs, fun _ z => nomatch z⟩
    · obtain ⟨i, gi⟩ := List.getElem?_of_mem z
      obtain ⟨r, gr⟩ : ∃ r, M.flows[i]? = some r := ⟨_, List.getElem?_eq_getElem (by rw [← h.hfl]; exact (List.getElem?_eq_some_iff.mp gi).1)⟩
      exact ⟨_, h.hfa i a r gi gr, fun _ z => nomatch z⟩
  obtain ⟨o, ho, n⟩ := hx
  rw [ha] at ho
  cases ho
  exact n xs rfl
theorem RepAt.keep {H H' : Hp} {t pf pg : Addr} {r : RepM} {F : List Addr} (h : RepAt H t pf pg r) (f : Fr F H H') (n : ∀ a ∈ ([t, pf, pg] : List Addr), a ∉ F) : RepAt H' t pf pg r := ⟨f.t h.ht (n _ (by simp)), f.l h.hf (n _ (by simp)), f.l h.hg (n _ (by simp)), h.ks⟩
section
variable {P : Program} {w : World} {K : PySem.W.Frag} {mg : Str → Option Value} {base : Heap}
theorem s_appR {K : PySem.W.Frag} {σ : L2.St} {H : Hp} {D : Ends} {ta te : TE} {l : Addr} {xs : List V} (hl : H l = some (.lst xs)) (ha : Ev ta σ H (.ref l)) (k : ∀ H1, Ex H H1 → te σ H1 fun v H2 => ∃ l' xs' v', V.ref l = .ref l' ∧ [v] = [v'] ∧ H2 l' = some (.lst xs') ∧ xs'.length < sizeLine ∧ D.nx σ (upd H2 l' (.lst (xs' ++ [v'])))) : tDrop (tBM K "list" rAppend ta (tCons te tNil)) D σ H := ha H (Ex.refl H) _ fun H1 e1 =>
  ⟨Or.inl ⟨rfl, xs, sq_of (e1 _ _ hl)⟩, k H1 e1⟩
theorem at2 {a b z : Int} (h0 : 0 ≤ z) (h : z < 2) : atI [V.int a, .int b] z = some (.int (if z = 0 then a else b)) := by
  have h4 : z = 0 ∨ z = 1 := by omega
  rcases h4 with rfl | rfl <;> rfl
def spLaw (K : PySem.W.Frag) (T : List (Addr × Str)) : Sp := fun vs H Q _ => ∃ (a : Addr) (ns : List Int), vs = [.ref a] ∧ SqL K H a (ns.map V.int) ∧ ns.length ≤ 63 ∧ LamX.Tabs T H ∧ ∀ H', Q (.bl true) H'
set_option maxHeartbeats 8000000 in
theorem ok_law {f : Addr} {fd : FuncData} (F : Fun K "law" "law" s_law f fd) (T : Top K mg) (TB1 : LamX.TabB base mg T.c_told_order T.P_told_order) (TB2 : LamX.TabB base mg T.c_fullest_span T.P_fullest_span) (TB3 : LamX.TabB base mg T.c_Circle_best_bid T.P_Circle_best_bid) : FnOk P w K mg base CX0 10 f fd ["_law_script"] (spLaw K T.tabs) := by
  have nd := sc_law.nd
  have G__law_draws : FnOk P w K mg base CX0 1 T.f__law_draws T.fd__law_draws ["_law_script", "_law_many"] (spDraws K) := ok__law_draws T.F__law_draws T
  have G__law_opening : FnOk P w K mg base CX0 2 T.f__law_opening T.fd__law_opening ["_law_some", "_law_size", "_law_stake"] (spOpening K) := ok__law_opening T
  have G__law_same : FnOk P w K mg base CX0 3 T.f__law_same T.fd__law_same ["_law_told", "_law_due"] (spSame K 2) := ok__law_same T 2
  have G_Circle___init__ : FnOk P w K mg base CX0 8 T.f_Circle___init__ T.fd_Circle___init__ ["self", "stake", "pledges", "wishes", "bidding"] (spCir0 T.f_Circle T.f_Seat T.tabs) := ok_Circle_init T TB1 TB2
  have G_Circle_queue := ok_Circle_queue (P := P) (w := w) (base := base) T (k := 0)
  have G_first_wrong := ok_first_wrong (P := P) (w := w) (base := base) T (k := 0)
  have G_Circle_close := ok_Circle_close (P := P) (w := w) (base := base) T TB3
  have G__law_paid : FnOk P w K mg base CX0 2 T.f__law_paid T.fd__law_paid ["_law_some", "_law_turn", "_law_size", "_law_way"] (spPaid K) := ok__law_paid T
  refine F.ok sc_law (fun vs H Q E h => ?_) (fun cdv A outer s H vs Q E hr h => ?_)
  · obtain ⟨a, ns, rfl, _⟩ := h
    rfl
  · obtain ⟨a, ns, rfl, hS, hlen, hT, q⟩ := h
    refine ⟨_, (pss_cons (ps_set (i := 1) nd rfl (.inr rfl) (pe_call G__law_draws (hr.mono (by omega)) (by rfl) T.m__law_draws T.F__law_draws.kp T.b__law_draws .nil pass0 (pa_cons (pv 0) (pa_cons pe_int pa_nil))))
      (pss_cons (ps_set (i := 2) nd rfl (.inr rfl) (pe_op op_add pe_int (pe_op op_mod (pe_ix ix_list (pv 1) pe_int (fun _ _ => rfl)) (pe_ix ix_list (pe_lst (pa_cons pe_int (pa_cons pe_int (pa_cons pe_int (pa_cons pe_int pa_nil))))) (pe_op op_mod (pe_op op_fdiv (pe_ix ix_list (pv 1) pe_int (fun _ _ => rfl)) pe_int) pe_int) (fun _ _ => rfl)))))
      (pss_cons (ps_set (i := 3) nd rfl (.inr rfl) (pe_op op_add pe_int (pe_op op_mod (pe_ix ix_list (pv 1) pe_int (fun _ _ => rfl)) (pe_ix ix_list (pe_lst (pa_cons pe_int (pa_cons pe_int pa_nil))) (pe_op op_mod (pe_ix ix_list (pv 1) pe_int (fun _ _ => rfl)) pe_int) (fun _ _ => rfl)))))
      (pss_cons (ps_set (i := 4) nd rfl (.inl rfl) (pe_cmpR op_eq (pe_op op_mod (pe_ix ix_list (pv 1) pe_int (fun _ _ => rfl)) pe_int) pe_int (nomark _)))
      (pss_cons (ps_asg (pe_call G__law_opening (hr.mono (by omega)) (by rfl) T.m__law_opening T.F__law_opening.kp T.b__law_opening .nil pass0 (pa_cons (pe_slice sl_list (pv 1) (po_some pe_int) po_none) (pa_cons (pv 2) (pa_cons (pv 3) pa_nil)))) (pg_tup rfl (pgs_cons (pg_name (i := 5) nd rfl (.inl rfl)) (pgs_cons (pg_name (i := 6) nd rfl (.inl rfl)) pgs_nil))))
      (pss_cons (ps_set (i := 7) nd rfl (.inl rfl) (pe_make T.mk_Circle G_Circle___init__ (hr.mono (by omega)) (by rfl) T.m_Circle T.b_Circle___init__ .nil pass0 (pa_cons (pv 3) (pa_cons (pe_callTy call_list_of (by rfl) T.m_list (by decide +kernel) (pa_cons (pv 5) pa_nil)) (pa_cons (pv 6) (pa_cons (pv 4) pa_nil))))))
      (pss_cons (ps_set (i := 8) nd rfl (.inl rfl) (pe_meth0 (pv 7) T.cl_Circle T.mt_Circle_queue G_Circle_queue (hr.mono (by omega)) T.b_Circle_queue .nil pass0 ))
      (pss_cons (ps_set (i := 9) nd rfl (.inl rfl) (pe_lst pa_nil))
      (pss_cons (ps_for PassesOwn.never rfl (pi_range2 rfl T.m_range (pa_cons pe_int (pa_cons (pe_op op_add (pv 2) pe_int) pa_nil))) (pg_name (i := 10) nd rfl (.inr rfl))
        (pss_cons (ps_set (i := 11) nd rfl (.inl rfl) (pe_call G__law_paid (hr.mono (by omega)) (by rfl) T.m__law_paid T.F__law_paid.kp T.b__law_paid .nil pass0 (pa_cons (pe_slice sl_list (pv 1) (po_some pe_int) po_none) (pa_cons (pv 10) (pa_cons (pv 2) (pa_cons (pe_ix ix_list (pv 1) pe_int (fun _ _ => rfl)) pa_nil))))))
          (pss_cons (ps_setLc (i := 12) (own := [("_law_at", 19)]) (g := gName 19) (tt := tYes) rfl nd rfl rfl (sw_true rfl rfl rfl (by decide +kernel)) (pi_range1 rfl T.m_range (pa_cons (pv 2) pa_nil)) (blkOk_by (own := [("_law_at", 19)]) (N := Su.N_law) (sc := defScope s_law) (by decide +kernel)) (fun _ _ _ _ _ => (pg_name (i := 19) nd rfl (.inl rfl))) (fun _ _ _ _ _ => pts_nil) (fun _ _ _ _ _ => (pe_op op_mod (pe_ix (ix_listK (K := K) rfl) (pv 1) (pe_op op_add pe_int (pe_op op_mod (pe_op op_add (pe_op op_mul pe_int (pe_op op_sub (pv 10) pe_int)) (pv 19)) pe_int)) (fun _ _ => rfl)) (pe_op op_add (pe_op op_mul (pv 3) (pv 2)) pe_int))))
          (pss_one (ps_expr (pe_bm PySem.F.plainAttrs_list PySem.F.slot_list_append PySem.F.type_list_append mt_append (pv 9) (pa_cons (pe_meth (pv 7) T.cl_Circle T.mt_Circle_close G_Circle_close (hr.mono (by omega)) T.b_Circle_close .nil pass0 (pa_cons (pv 11) (pa_cons (pv 12) pa_nil))) pa_nil)))))))
      (pss_cons (ps_setLc (i := 13) (own := [("_law_row", 18)]) (g := gName 18) (tt := tYes) rfl nd rfl rfl (sw_true rfl rfl rfl (by decide +kernel)) (pi_list (pe_slice sl_list (pv 9) po_none (po_some (pe_op op_mod (pe_ix ix_list (pv 1) pe_int (fun _ _ => rfl)) (pe_op op_add (pv 2) pe_int))))) (blkOk_by (own := [("_law_row", 18)]) (N := Su.N_law) (sc := defScope s_law) (by decide +kernel)) (fun _ _ _ _ _ => (pg_name (i := 18) nd rfl (.inl rfl))) (fun _ _ _ _ _ => pts_nil) (fun _ _ _ _ _ => (pe_op (op_catTK (K := K) rfl) (pe_slice (sl_tupK (K := K) rfl) (pv 18) po_none (po_some pe_int)) (pe_tup (pa_cons (pe_callTy (call_list_ofK (K := K) rfl) (by rfl) T.m_list (by decide +kernel) (pa_cons (pe_ix (ix_tupK (K := K) rfl) (pv 18) pe_int (fun _ _ => rfl)) pa_nil)) (pa_cons (pe_callTy (call_list_ofK (K := K) rfl) (by rfl) T.m_list (by decide +kernel) (pa_cons (pe_ix (ix_tupK (K := K) rfl) (pv 18) pe_int (fun _ _ => rfl)) pa_nil)) pa_nil))))))
      (pss_cons (ps_set (i := 14) nd rfl (.inl rfl) (pe_callTy call_list_of (by rfl) T.m_list (by decide +kernel) (pa_cons (pv 5) pa_nil)))
      (pss_cons (ps_set (i := 15) nd rfl (.inl rfl) (pe_callTy call_list_of (by rfl) T.m_list (by decide +kernel) (pa_cons (pv 8) pa_nil)))
      (pss_cons (ps_setLc (i := 16) (own := [("_law_row", 18)]) (g := gName 18) (tt := tYes) rfl nd rfl rfl (sw_true rfl rfl rfl (by decide +kernel)) (pi_list (pv 9)) (blkOk_by (own := [("_law_row", 18)]) (N := Su.N_law) (sc := defScope s_law) (by decide +kernel)) (fun _ _ _ _ _ => (pg_name (i := 18) nd rfl (.inl rfl))) (fun _ _ _ _ _ => pts_nil) (fun _ _ _ _ _ => (pe_op (op_catTK (K := K) rfl) (pe_slice (sl_tupK (K := K) rfl) (pv 18) po_none (po_some pe_int)) (pe_tup (pa_cons (pe_callTy (call_list_ofK (K := K) rfl) (by rfl) T.m_list (by decide +kernel) (pa_cons (pe_ix (ix_tupK (K := K) rfl) (pv 18) pe_int (fun _ _ => rfl)) pa_nil)) (pa_cons (pe_callTy (call_list_ofK (K := K) rfl) (by rfl) T.m_list (by decide +kernel) (pa_cons (pe_ix (ix_tupK (K := K) rfl) (pv 18) pe_int (fun _ _ => rfl)) pa_nil)) pa_nil))))))
      (pss_cons (ps_for PassesOwn.never rfl (pi_range1 rfl T.m_range (pa_cons pe_int pa_nil)) (pg_name (i := 17) nd rfl (.inl rfl))
        (pss_one (ps_if (pt_not (pt_val (pe_call G__law_same (hr.mono (by omega)) (by rfl) T.m__law_same T.F__law_same.kp T.b__law_same .nil pass0 (pa_cons (pe_call G_first_wrong (hr.mono (by omega)) (by rfl) T.m_first_wrong T.F_first_wrong.kp T.b_first_wrong .nil pass0 (pa_cons (pv 3) (pa_cons (pv 14) (pa_cons (pv 15) (pa_cons (pv 4) (pa_cons (pv 16) pa_nil)))))) (pa_cons (pe_un un_neg pe_int) pa_nil)))))
            (pss_one (ps_ret pe_bl))
            pss_nil)))
      (pss_cons (ps_if (pt_not (pt_val (pe_call G__law_same (hr.mono (by omega)) (by rfl) T.m__law_same T.F__law_same.kp T.b__law_same .nil pass0 (pa_cons (pe_call G_first_wrong (hr.mono (by omega)) (by rfl) T.m_first_wrong T.F_first_wrong.kp T.b_first_wrong .nil pass0 (pa_cons (pv 3) (pa_cons (pv 14) (pa_cons (pv 15) (pa_cons (pv 4) (pa_cons (pv 13) pa_nil)))))) (pa_cons (pe_un un_neg pe_int) pa_nil)))))
        (pss_one (ps_ret pe_bl))
        pss_nil)
      (pss_cons (ps_if (pt_cmpR (op_neD hr.units) (pv 13) (pe_slice sl_list (pv 9) po_none (po_some (pe_callB call_len_seq (by rfl) T.m_len PySem.boot_len (pa_cons (pv 13) pa_nil)))) (nomark _))
        (pss_one (ps_ret pe_bl))
        pss_nil)
      (pss_one (ps_ret (pe_and (pe_cmpR (op_eqD hr.units) (pv 14) (pv 5) (nomark _)) (pe_and (pe_cmpR (op_eqD hr.units) (pv 15) (pv 8) (nomark _)) (pe_one (pe_cmpR (op_eqD hr.units) (pv 16) (pv 9) (nomark _))))))))))))))))))))))), ?_⟩
    refine q_callN (by walk_at "ea") (spN_draws (m := 300) hS hlen (by decide)) ?_
    rintro _ p H1 ⟨rows, hR, rfl⟩ hp e1 h1
    have hl := hR.1
    have hs1 := sq_of (K := K) h1
    have r0 : atI (rows.map V.int) 0 = some (.int (rows.getD (Int.toNat 0) 0)) := Su.at_rows (by omega) (by omega)
    have r1 : atI (rows.map V.int) 1 = some (.int (rows.getD (Int.toNat 1) 0)) := Su.at_rows (by omega) (by omega)
    have r2 : atI (rows.map V.int) 2 = some (.int (rows.getD (Int.toNat 2) 0)) := Su.at_rows (by omega) (by omega)
    have r3 : atI (rows.map V.int) 3 = some (.int (rows.getD (Int.toNat 3) 0)) := Su.at_rows (by omega) (by omega)
    have r4 : atI (rows.map V.int) 4 = some (.int (rows.getD (Int.toNat 4) 0)) := Su.at_rows (by omega) (by omega)
    have r5 : atI (rows.map V.int) 5 = some (.int (rows.getD (Int.toNat 5) 0)) := Su.at_rows (by omega) (by omega)
    generalize rows.getD (Int.toNat 0) 0 = z0 at r0
    generalize rows.getD (Int.toNat 1) 0 = z1 at r1
    generalize rows.getD (Int.toNat 2) 0 = z2 at r2
    generalize rows.getD (Int.toNat 3) 0 = z3 at r3
    generalize rows.getD (Int.toNat 4) 0 = z4 at r4
    generalize rows.getD (Int.toNat 5) 0 = z5 at r5
    have ix : ∀ {H2 : Hp} {σ : L2.St} {j : Int} {v : V}, Ex H1 H2 → σ[1]? = some (some (.ref p)) → atI (rows.map V.int) j = some v → Ev (tOp (rIxL K) (tVar 1) (tC (.int j))) σ H2 v := fun e g hv => ev_op (ev_var g) ev_c (rv_ixL (ex_l e hs1) hv)
    have hsz : ∃ m8 : Int, (m8 = 8 ∨ m8 = 19) ∧ atI [V.int 8, .int 8, .int 8, .int 19] (z3 / 4 % 4) = some (.int m8) := ⟨_, by split; exact .inl rfl; split; exact .inl rfl; split; exact .inl rfl; exact .inr rfl, at4 (by omega) (by omega)⟩
    obtain ⟨m8, hm8, hma8⟩ := hsz
    have k0 := Int.emod_nonneg z0 (show m8 ≠ 0 by omega)
    have k1 := Int.emod_lt_of_pos z0 (show 0 < m8 by omega)
    refine q_asg (v := .int (2 + z0 % m8)) (ev_op ev_c (ev_op (ix (Ex.refl _) rfl r0) (ev_ixN (K := K) (el_lst (ea_cons ev_c (ea_cons ev_c (ea_cons ev_c (ea_cons ev_c ea_nil)))) (by show 4 ≤ 100000; decide)) (ev_op (ev_op (ix (Ex.refl _) rfl r3) ev_c (Su.rv_div (by decide) (by decide))) ev_c (Su.rv_mod (by decide))) hma8) (Su.rv_mod (by omega))) rv_I0) fun H2 e2 => ?_
    obtain ⟨n, hn⟩ : ∃ n : Nat, 2 + z0 % m8 = (n : Int) := ⟨(2 + z0 % m8).toNat, by omega⟩
    have n1 : 2 ≤ n := by omega
    have n2 : n ≤ 20 := by omega
    rw [hn]
    clear hn r0 hm8 hma8 k0 k1
    have hsel : ∃ m : Int, (m = 7 ∨ m = 1000000) ∧ atI [V.int 7, .int 1000000] (z2 % 2) = some (.int m) := ⟨if z2 % 2 = 0 then 7 else 1000000, by split; exact .inl rfl; exact .inr rfl, at2 (by omega) (by omega)⟩
    obtain ⟨m, hm, hma⟩ := hsel
    have m0 := Int.emod_nonneg z1 (show m ≠ 0 by omega)
    have m1 := Int.emod_lt_of_pos z1 (show 0 < m by omega)
    refine q_asg (v := .int (1 + z1 % m)) (ev_op ev_c (ev_op (ix e2 rfl r1) (ev_ixN (K := K) (el_lst (ea_cons ev_c (ea_cons ev_c ea_nil)) (by show 2 ≤ 100000; decide)) (ev_op (ix e2 rfl r2) ev_c (Su.rv_mod (by decide))) hma) (Su.rv_mod (by omega))) rv_I0) fun H3 e3 => ?_
    have s1 : 1 ≤ 1 + z1 % m := by omega
    have s2 : 1 + z1 % m ≤ 1000000 := by omega
    generalize 1 + z1 % m = st at s1 s2 ⊢
    clear m0 m1 r1 hma r2 hm
    have e13 := e2.trans e3
    refine q_asg (ev_op (ev_op (ix e13 rfl r4) ev_c (Su.rv_mod (by decide))) ev_c (rv_eq rfl)) fun H3' e3' => ?_
    generalize decide (V.int (z4 % 2) = V.int 1) = bd
    have e13 := e13.trans e3'
    refine q_asgXg ((el_sl (ev_var rfl) (eo_some (i := ((30 : Nat) : Int)) ev_c) eo_none (ex_l e13 hs1)) H3' (Ex.refl _) _ fun p0 H4 hp0 e4 h4 => ?_)
    rw [cut_from, ← List.map_drop] at h4
    refine ta_all (vs := [.int (n : Int), .int st]) (ea_cons (ev_var rfl) (ea_cons (ev_var rfl) ea_nil)) fun H5 e5 => ?_
    refine ⟨p0, rows.drop 30, n, st, rfl, sq_of (e5 _ _ h4), by rw [List.length_drop]; omega, by omega, by omega, s1, s2, fun pl ws r H6 t q1 q2 hq1 hq2 hq12 e6 ht g1 g2 hD hrp => ?_⟩
    have e16 := ((e13.trans e4).trans e5).trans e6
    have hT6 : LamX.Tabs T.tabs H6 := hT.ext (e1.trans e16)
    have hp6 := e16 _ _ h1
    refine tg_two (K := K) (st_of ht) tg_name tg_name H6 (Ex.refl _) _ ?_
    obtain ⟨ho, row, hg, hI⟩ := hD.open hrp n1 (by omega) s1 s2
    have hpn : pl.length = n := hD.l1
    clear ix hp0 h4 hs1 e1 e13 e2 e3 e3' e4 e5 e6 hT hq1 hq2 hq12 ht e16 h1
    -- the circle
    refine q_asgX (te_makeX (ta_cons (ev_var rfl) fun H9 e9 => ta_consX ((el_list (ev_var rfl) (ex_l e9 (sq_of (K := K) g1))) H9 (Ex.refl _) _ fun pc H10 hpc e10 h10 => ?_)))
    refine ta_all (vs := [.ref q2, .bl bd]) (ea_cons (ev_var rfl) (ea_cons (ev_var rfl) ea_nil)) fun H11 e11 => ?_
    intro x dx hx hdx hne
    have e611 := (e9.trans e10).trans e11
    refine cir_made (row := row) (bd := bd) e611 hx hdx hne (e11 _ _ h10) (e611 _ _ g2) ho (hT6.ext e611) hg fun H12 d hdc0 eN hT12 hC hold => ⟨rfl, ?_⟩
    subst hdc0
    have k1 := exN_l eN g1
    have kp := exN_l eN hp6
    have nl : ∀ {c : Addr} {xs : List V}, H6 c = some (.lst xs) → c ∉ d.all := fun hc => hold _ _ hc fun _ z => nomatch z
    have hpda := nl hp6
    have hq1d := nl g1
    clear nl hold e611 hx hdx hne h10 hpc e9 e10 e11 eN hT6 g2 hp6 g1
    have hlen0 : (cir0 st pl ws bd row).seats.length = n := by rw [← hpn]; exact List.length_map _
    have hn8 : n ≤ 1000 := by omega
    have hline : (cir0 st pl ws bd row).line = row := rfl
    refine q_asgL (xs := (natI row).map V.int) (el_meth (ev_var rfl) hC.hc c_no ea_nil (spL_obs (g := queueM) hC (by omega))) fun pq H13 hpq e13 h13 => ?_
    refine q_asgL (el_lst ea_nil (by decide)) fun rp H14 hrp14 e14 h14 => ?_
    have hC14 := hC.ex (e13.trans e14)
    have hT14 := hT12.ext (e13.trans e14)
    have hpqd : pq ∉ d.all := hC.old (Nw.of hpq)
    have hrpd : rp ∉ d.all := (hC.ex e13).old (Nw.of hrp14)
    have nrq : rp ≠ pq := fun z => by rw [z, h13] at hrp14; cases hrp14
    have nrp : rp ≠ p := fun z => by rw [z, e13 _ _ kp] at hrp14; cases hrp14
    have nr1 : rp ≠ q1 := fun z => by rw [z, e13 _ _ k1] at hrp14; cases hrp14
    have kp := (e13.trans e14) _ _ kp
    have k1 := (e13.trans e14) _ _ k1
    have h13 := e14 _ _ h13
    have hS0 := sound0 (bd := bd) ho hI
    have hR0 := rel0 (bd := bd) (row := row) ho
    have hO0 := ledOk0 (bd := bd) ho hI
    have hmul : 0 ≤ st * (n : Int) := Int.mul_nonneg (by omega) (by omega)
    clear hC hT12 hpq hrp14 e13 e14
    generalize hL0 : led0 st pl (natI row) bd = L0 at hR0 hO0
    refine q_forR2 (lo := 1) (n := (n : Int) + 1) (ea_cons ev_c (ea_cons (ev_op (ev_var rfl) ev_c rv_I0) ea_nil)) ⟨by omega, by omega, by omega, by omega⟩ (fun i σ' H' => ∃ (d : CirD) (M : CirM) (dr : List Nat) (L : LedM) (xs : List RepD) (y10 y11 y12 : Option V), σ' = [some (.ref a), some (.ref p), some (.int (n : Int)), some (.int st), some (.bl bd), some (.ref q1), some (.ref q2), some (.ref d.c), some (.ref pq), some (.ref rp), y10, y11, y12, none, none, none, none, none, none, none] ∧ CirAt T.f_Circle T.f_Seat H' d M ∧ LamX.Tabs T.tabs H' ∧ Sound st pl i M ∧ Rel M dr L ∧ RepsAt H' rp xs ∧ xs.length = i ∧ (∀ rest, firstL L0 (xs.map RepD.r ++ rest) 0 = firstL L rest (i : Int)) ∧ (∀ k ≤ i, firstL L0 ((xs.map RepD.r).take k) 0 = -1) ∧ H' p = some (.lst (rows.map V.int)) ∧ H' q1 = some (.lst (pl.map V.int)) ∧ H' pq = some (.lst ((natI row).map V.int)) ∧ p ∉ d.all ∧ q1 ∉ d.all ∧ pq ∉ d.all ∧ rp ∉ d.all ∧ (∀ x ∈ xs, ∀ c ∈ x.all, c ∉ d.all ∧ c ≠ rp)) ?_ ?_ ?_
    · intro H15 e15
      exact ⟨d, _, [], L0, [], _, _, _, rfl, hC14.ex e15, hT14.ext e15, hS0, hR0, ⟨e15 _ _ h14, fun x hx => absurd hx List.not_mem_nil, fun x hx => absurd hx List.not_mem_nil⟩, rfl, fun rest => rfl, fun k hk => (by rw [show k = 0 by omega]; rfl), e15 _ _ kp, e15 _ _ k1, e15 _ _ h13, hpda, hq1d, hpqd, hrpd, fun x hx => absurd hx List.not_mem_nil⟩
    · clear hC14 hT14 hS0 hR0 kp k1 h13 h14 hpda hq1d hpqd hrpd
      rintro i σ' H1 hi ⟨d, M, dr, L, xs, y10, y11, y12, rfl, hC, hT, hS, hRel, hRs, hxl, hch, hpre, kp, k1, h13, hpda, hq1d, hpqd, hrpd, hxa⟩
      have hin : i < n := by omega
      have hsn : M.seats.length = n := by rw [hS.len, hpn]
      have ho1 : M.opn ≤ M.seats.length := hS.n0 (by omega)
      -- who pays
      refine q_asgX ((el_sl (ev_var rfl) (eo_some (i := ((6 : Nat) : Int)) ev_c) eo_none (sq_of kp)) H1 (Ex.refl _) _ fun p0 H2 hp0 e2 h2 => ?_)
      rw [cut_from, ← List.map_drop] at h2
      refine ta_all (vs := [.int (((i + 1 : Nat) : Nat) : Int), .int (n : Int), .int z3]) (ea_cons (ev_is (ev_var rfl) (congrArg V.int (by push_cast; omega))) (ea_cons (ev_var rfl) (ea_cons (ev_op (ev_var rfl) ev_c (rv_ixL (sq_of (e2 _ _ kp)) r3)) ea_nil))) fun H3 e3 => ?_
      refine ⟨p0, rows.drop 6, i + 1, n, z3, rfl, sq_of (e3 _ _ h2), by omega, by rw [List.length_drop]; omega, by omega, by omega, fun H4 pa bs hpa e4 h4 hbsl => ?_⟩
      have e15 := (e2.trans e3).trans e4
      have hpa0 := fresh_back (e2.trans e3) hpa
      -- the bids
      obtain ⟨bix, hbix⟩ : ∃ bix : Nat → Nat, ∀ j : Nat, bix j = 92 + (9 * i + j) % 200 := ⟨_, fun j => rfl⟩
      obtain ⟨bd', hbd'⟩ : ∃ bd' : List Int, ((List.range n).map fun j => rows.getD (bix j) 0 % (st * (n : Int) + 1)) = bd' := ⟨_, rfl⟩
      have hbdl : bd'.length = n := by rw [← hbd', List.length_map, List.length_range]
      have hbdb : ∀ z ∈ bd', 0 ≤ z ∧ z ≤ st * (n : Int) := fun z hz => by
        rw [← hbd'] at hz
        obtain ⟨j, _, rfl⟩ := List.mem_map.mp hz
        have m0 := Int.emod_nonneg (rows.getD (bix j) 0) (show st * (n : Int) + 1 ≠ 0 by omega)
        have m1 := Int.emod_lt_of_pos (rows.getD (bix j) 0) (show 0 < st * (n : Int) + 1 by omega)
        omega
      have hxb : bd'.map V.int = given (n : Int).toNat (fun _ => true) (fun j => V.int (rows.getD (bix j) 0 % (st * (n : Int) + 1))) := by
        rw [← hbd', Int.toNat_natCast, given_rng, List.map_map]
        rfl
      refine q_asgL (xs := bd'.map V.int) (by
        rw [hxb]
        exact el_lcR1 _ _ (ea_cons (ev_var rfl) ea_nil) (by omega) (fun x => rfl) (fun j H6 e6 hj => et_yes) (fun j H6 e6 hj _ => ev_op (ev_op (ev_var rfl) (ev_op ev_c (ev_op (ev_op (ev_op ev_c (ev_op (ev_var rfl) ev_c rv_I0) (Su.rv_mul (Su.CMul.l (by decide) (by decide)))) (ev_var rfl) rv_I0) ev_c (Su.rv_mod (by decide))) rv_I0) (rv_ixL (sq_of ((e15.trans e6) _ _ kp)) (atI_nat' (i := bix j) (by rw [hbix]; push_cast; omega) (int_nat (by rw [hbix]; omega))))) (ev_op (ev_op (ev_var rfl) (ev_var rfl) (Su.rv_mul (Su.CMul.r (by omega) (by omega)))) ev_c rv_I0) (Su.rv_mod (by omega)))) fun pb H6 hpb e6 h6 => ?_
      have e16 := e15.trans e6
      have hpb0 := fresh_back e15 hpb
      have hpot : potM M = st * (n : Int) := by unfold potM; rw [hS.stk, hsn]
      have hfol := hRel.follows (paid := bs) (bids := bd') hS s1 (by omega) (by rw [hbdl, hsn]) (fun z hz => by rw [hpot]; exact hbdb z hz)
      have hRs6 := hRs.ex e16
      refine s_appR hRs6.h0 (ev_var rfl) fun H7 e7 => te_methX (ev_var rfl) ((hC.ex e16).ex e7).hc c_no fun H8 e8 => ta_all (vs := [.ref pa, .ref pb]) (ea_cons (ev_var rfl) (ea_cons (ev_var rfl) ea_nil)) fun H9 e9 => ?_
      have e69 := (e7.trans e8).trans e9
      have e19 := e16.trans e69
      have hC9 := hC.ex e19
      have hRs9 := hRs.ex e19
      refine ⟨d, M, pa, pb, bs, bd', rfl, hC9, hS.g, ho1, (e6.trans e69) _ _ h4, hC.newMut hpa0, e69 _ _ h6, hC.newMut hpb0, by rw [hbsl, hsn], by rw [hbdl, hsn], (fun z hz => by rw [hpot]; exact hbdb z hz), hT.ext e19, fun H10 d' t pf pg q' hd' hq' f10 hT10 hC10 ht hpf hpg nt npf npg nfg nf1 nf2 => ?_⟩
      have hnew : ∀ c ∈ d'.all, c ∈ d.all ∨ Nw H9 c := fun c hc => by
        rw [hd'] at hc
        by_cases h : c ∈ d.all
        · exact .inl h
        by_cases hq : c = q'
        · exact .inr (by rw [hq]; exact hq')
        exact absurd hc (CirD.snoc h hq)
      have keep : ∀ {c : Addr} {o : HO}, H9 c = some o → (∀ ps, o ≠ .tbl ps) → c ∉ d.all → H10 c = some o ∧ c ∉ d'.all := fun {c o} hc hnt hn => ⟨f10 _ _ hc hnt fun z => hn (CirD.mut_all z), fun z => by
        rcases hnew c z with z | z
        · exact hn z
        · obtain ⟨ps, hps⟩ := z _ hc
          exact hnt ps hps⟩
      have rp9 := hRs9.h0
      have rp10 := keep rp9 (fun _ z => nomatch z) hrpd
      have p10 := keep (e19 _ _ kp) (fun _ z => nomatch z) hpda
      have q110 := keep (e19 _ _ k1) (fun _ z => nomatch z) hq1d
      have pq10 := keep (e19 _ _ h13) (fun _ z => nomatch z) hpqd
      have ntr : t ≠ rp := fun z => by rw [z, rp10.1] at ht; cases ht
      have nfr : pf ≠ rp := fun z => by
        obtain ⟨ps, hps⟩ := npf _ (by rw [z]; exact rp9)
        cases hps
      have ngr : pg ≠ rp := fun z => by
        obtain ⟨ps, hps⟩ := npg _ (by rw [z]; exact rp9)
        cases hps
      have hdc : d.c = d'.c := by rw [hd']
      refine ⟨rp, _, .ref t, rfl, rfl, rp10.1, sz_lt (by rw [List.length_map]; omega), ?_⟩
      have rne : ∀ {c : Addr} {zs : List V}, c ≠ rp → H10 c = some (.lst zs) → (upd H10 rp (.lst (xs.map (fun x => V.ref x.t) ++ [.ref t]))) c = some (.lst zs) := fun h1 h2 => by rw [upd_ne h1]; exact h2
      have hRT : RepAt H10 t pf pg (repM M bs bd') := ⟨ht, hpf, hpg, midR_ok⟩
      have hC11 : CirAt T.f_Circle T.f_Seat (upd H10 rp (.lst (xs.map (fun x => V.ref x.t) ++ [.ref t]))) d' (closeM M bs bd') := hC10.fr ((Fr.refl [rp] H10).upd (List.mem_singleton.mpr rfl)) fun c hc z => rp10.2 (by rw [← List.mem_singleton.mp z]; exact hc)
      refine ⟨d', closeM M bs bd', _, afterL L (repM M bs bd'), xs ++ [⟨t, pf, pg, repM M bs bd'⟩], _, _, _, (by rw [hdc]; rfl), hC11, tabs_upd hT10 rp10.1, hS.step (by omega) (by omega), hRel.step hS.g ho1, ⟨by rw [upd_same, List.map_append]; rfl, fun x hx => ?_, fun x hx => ?_⟩, by rw [List.length_append, hxl]; rfl, fun rest => ?_, fun k hk => ?_, rne nrp.symm p10.1, rne nr1.symm q110.1, rne nrq.symm pq10.1, p10.2, q110.2, pq10.2, rp10.2, fun x hx c hc => ?_⟩
      · rcases List.mem_append.mp hx with hx | hx
        · have hR := hRs9.hr x hx
          have hxx := hxa x hx
          refine ((hR.keep f10 fun a ha z => (hxx a ha).1 (CirD.mut_all z)).up (hxx _ (by simp [RepD.all])).2 (hxx _ (by simp [RepD.all])).2 (hxx _ (by simp [RepD.all])).2)
        · rw [List.mem_singleton.mp hx]
          exact hRT.up ntr nfr ngr
      · rcases List.mem_append.mp hx with hx | hx
        · exact hRs.hl x hx
        · rw [List.mem_singleton.mp hx]
          show (natI (unpM M .w bs)).length ≤ 1000 ∧ (natI (unpM M .d bs)).length ≤ 1000
          rw [natI_len, natI_len]
          have l1 : ∀ t, (unpM M t bs).length ≤ M.seats.length := fun t => by
            have := List.length_filter_le (isUnp M t bs) (List.range M.seats.length)
            rw [List.length_range] at this
            exact this
          have := l1 .w
          have := l1 .d
          omega
      · rw [List.map_append, List.append_assoc]
        show firstL L0 (xs.map RepD.r ++ (repM M bs bd' :: rest)) 0 = _
        rw [hch]
        show (if folM L (repM M bs bd') = true then _ else _) = _
        rw [if_pos hfol]
        push_cast
        rfl
      · by_cases hk2 : k ≤ i
        · rw [List.map_append, List.take_append_of_le_length (by rw [List.length_map]; omega)]
          exact hpre k hk2
        · rw [List.take_of_length_le (by rw [List.length_map, List.length_append, hxl]; show i + 1 ≤ k; omega), List.map_append]
          show firstL L0 (xs.map RepD.r ++ [repM M bs bd']) 0 = _
          rw [hch]
          show (if folM L (repM M bs bd') = true then firstL _ [] _ else _) = _
          rw [if_pos hfol]
          rfl
      · rcases List.mem_append.mp hx with hx | hx
        · have hR := hRs9.hr x hx
          have hxx := hxa x hx c hc
          refine ⟨?_, hxx.2⟩
          unfold RepD.all at hc
          simp only [List.mem_cons, List.not_mem_nil, or_false] at hc
          rcases hc with rfl | rfl | rfl
          · exact (keep hR.ht (fun _ z => nomatch z) hxx.1).2
          · exact (keep hR.hf (fun _ z => nomatch z) hxx.1).2
          · exact (keep hR.hg (fun _ z => nomatch z) hxx.1).2
        · rw [List.mem_singleton.mp hx] at hc
          unfold RepD.all at hc
          simp only [List.mem_cons, List.not_mem_nil, or_false] at hc
          rcases hc with rfl | rfl | rfl
          · exact ⟨hC10.noTup ht, ntr⟩
          · exact ⟨nf1, nfr⟩
          · exact ⟨nf2, ngr⟩
    · clear hC14 hT14 hS0 hR0 kp k1 h13 h14 hpda hq1d hpqd hrpd
      rintro σ' H1 ⟨d, M, dr, L, xs, y10, y11, y12, rfl, hC, hT, hS, hRel, hRs, hxl, hch, hpre, kp, k1, h13, _⟩
      rw [show ((n : Int) + 1 - 1).toNat = n by omega] at hxl hpre
      clear hC hT hS hRel hch
      have hall : firstL L0 (xs.map RepD.r) 0 = -1 := by
        have := hpre n (Nat.le_refl _)
        rwa [List.take_of_length_le (by rw [List.length_map]; omega)] at this
      have hks : ∀ r ∈ xs.map RepD.r, PyData.strOk r.kind = true := fun r hr => by
        obtain ⟨x, hx, rfl⟩ := List.mem_map.mp hr
        exact (hRs.hr x hx).ks
      -- the first ones
      have m0 := Int.emod_nonneg z5 (show (n : Int) + 1 ≠ 0 by omega)
      have m1 := Int.emod_lt_of_pos z5 (show (0 : Int) < (n : Int) + 1 by omega)
      obtain ⟨k, hk⟩ : ∃ k : Nat, z5 % ((n : Int) + 1) = (k : Int) := ⟨(z5 % ((n : Int) + 1)).toNat, by omega⟩
      refine q_asgX (lc_first (el_sl (ev_var rfl) eo_none (eo_some (i := (k : Int)) (ev_is (ev_op (ev_op (ev_var rfl) ev_c (rv_ixL (sq_of kp) r5)) (ev_op (ev_var rfl) ev_c rv_I0) (Su.rv_mod (by omega))) (congrArg V.int hk))) (sq_of hRs.h0)) fun ps H2 hps e2 h2 => ?_)
      rw [cut_to, ← List.map_take] at h2
      have hRs2 := hRs.ex e2
      have hRt : RepsAt H2 ps (xs.take k) := ⟨h2, fun x hx => hRs2.hr x (List.mem_of_mem_take hx), fun x hx => hRs.hl x (List.mem_of_mem_take hx)⟩
      refine rl_copies ev_c hRt (by rw [List.length_take]; omega) (fun x => rfl) (fun x => rfl) fun sf ys H3 hsf e3 hY hyr => ?_
      have hRs3 := hRs2.ex e3
      have e13 := e2.trans e3
      refine q_asgL (el_list (ev_var rfl) (sq_of (e13 _ _ k1))) fun pl2 H4 hpl2 e4 h4 => ?_
      have e14 := e13.trans e4
      refine q_asgL (el_list (ev_var rfl) (sq_of (e14 _ _ h13))) fun pq2 H5 hpq2 e5 h5 => ?_
      have e15 := e14.trans e5
      refine q_asgX (rl_copies (ev_var rfl) (hRs.ex e15) (by omega) (fun x => rfl) (fun x => rfl) fun ph zs H6 hph e6 hZ hzr => ?_)
      have e16 := e15.trans e6
      have hY6 := hY.ex ((e4.trans e5).trans e6)
      have h4 := (e5.trans e6) _ _ h4
      have h5 := e6 _ _ h5
      subst hL0
      have fw : ∀ {H7 : Hp} {σ : L2.St} {m : Nat} {rq : Addr} {vs : List RepD}, Ex H6 H7 → σ[3]? = some (some (.int st)) → σ[14]? = some (some (.ref pl2)) → σ[15]? = some (some (.ref pq2)) → σ[4]? = some (some (.bl bd)) → σ[m]? = some (some (.ref rq)) → RepsAt H7 rq vs → firstL (led0 st pl (natI row) bd) (vs.map RepD.r) 0 = -1 → Ev (tCall (spFirst K) [] E0 (tCons (tVar 3) (tCons (tVar 14) (tCons (tVar 15) (tCons (tVar 4) (tCons (tVar m) tNil)))))) σ H7 (.int (-1)) := fun {H7 σ m rq vs} e7 g3 g14 g15 g4 gm hV hf => ev_call (ea_cons (ev_var g3) (ea_cons (ev_var g14) (ea_cons (ev_var g15) (ea_cons (ev_var g4) (ea_cons (ev_var gm) ea_nil))))) fun H8 e8 Q8 q8 _ => ⟨st, pl2, pq2, rq, pl, natI row, bd, vs, rfl, (e7.trans e8) _ _ h4, (e7.trans e8) _ _ h5, hO0, hV.ex e8, fun H9 e9 => by rw [hf]; exact q8 H9 e9⟩
      refine q_forR1 (n := 2) (ea_cons ev_c ea_nil) (by omega) (fun i σ' H' => ∃ y17 : Option V, σ' = [some (.ref a), some (.ref p), some (.int (n : Int)), some (.int st), some (.bl bd), some (.ref q1), some (.ref q2), some (.ref d.c), some (.ref pq), some (.ref rp), y10, y11, y12, some (.ref sf), some (.ref pl2), some (.ref pq2), some (.ref ph), y17, none, none] ∧ Ex H6 H') ?_ ?_ ?_
      · intro H7 e7
        exact ⟨_, rfl, e7⟩
      · rintro i σ' H7 hi ⟨y17, rfl, e7⟩
        exact s_when (b := false) (et_not (a := true) (et_sameD (.int _) (evd_int (fw e7 rfl rfl rfl rfl rfl (hZ.ex e7) (by rw [hzr]; exact hall))) (evd_int (ev_un ev_c ru_neg)))) (fun h => by cases h) fun _ H8 e8 => ⟨_, rfl, e7.trans e8⟩
      · rintro σ' H7 ⟨y17, rfl, e7⟩
        have hys : ys.map RepD.r = (xs.map RepD.r).take k := by rw [hyr, List.map_take]
        refine q_when (b := false) (et_not (a := true) (et_sameD (.int _) (evd_int (fw e7 rfl rfl rfl rfl rfl (hY6.ex e7) (by rw [hys]; exact hpre k (by omega)))) (evd_int (ev_un ev_c ru_neg)))) (fun h => by cases h) fun _ H8 e8 => ?_
        have e68 := e7.trans e8
        have hRs8 := (hRs.ex e16).ex e68
        have hylen : ys.length = k := by
          have := congrArg List.length hys
          rw [List.length_map, List.length_take, List.length_map] at this
          omega
        refine q_when (b := false) (et_test (ev_opL (ev_var rfl) (el_sl (ev_var rfl) eo_none (eo_some (i := (k : Int)) (ev_is (ev_len (ev_var rfl) (sq_of (hY6.ex e68).h0)) (by rw [List.length_map, hylen]))) (sq_of hRs8.h0)) fun p9 H9 hp9 e9 => ?_)) (fun h => by cases h) fun _ H9 e9 => ?_
        · rw [cut_to, ← List.map_take] at hp9
          have hRt9 : RepsAt H9 p9 (xs.take k) := ⟨hp9, fun x hx => (hRs8.ex e9).hr x (List.mem_of_mem_take hx), fun x hx => hRs.hl x (List.mem_of_mem_take hx)⟩
          have hd1 := ((hY6.ex e68).ex e9).dp (K := K)
          have hd2 := hRt9.dp (K := K)
          rw [hyr] at hd1
          exact rv_neD hd1 hd2 (shaped_reps fun r hr => by
            obtain ⟨x, hx, rfl⟩ := List.mem_map.mp hr
            exact (hRs.hr x (List.mem_of_mem_take hx)).ks)
        have e69 := e68.trans e9
        have e19 := e16.trans e69
        refine s_ret (v := .bl true) (ev_andV (a := true) (b := true) (ev_op (ev_var rfl) (ev_var rfl) (rv_eqD (d := intD pl) (dp_ints (sq_of (e69 _ _ h4))) (dp_ints (sq_of (e19 _ _ k1))) (shaped_ints _))) fun _ => ev_andV (a := true) (b := true) (ev_op (ev_var rfl) (ev_var rfl) (rv_eqD (d := intD (natI row)) (dp_ints (sq_of (e69 _ _ h5))) (dp_ints (sq_of (e19 _ _ h13))) (shaped_ints _))) fun _ => ev_op (ev_var rfl) (ev_var rfl) ?_) fun H10 e10 => q H10
        have hd1 := (hZ.ex e69).dp (K := K)
        have hd2 := (hRs.ex e19).dp (K := K)
        rw [hzr] at hd1
        exact rv_eqD hd1 hd2 (shaped_reps hks)
end

end Su
namespace Su
set_option maxHeartbeats 8000000 in
def top_mk {K : PySem.W.Frag} {h : Heap} {mg : Str → Option Value} (X : K.In h) (G : h.Ns mainGlobals mg)
    {gc_Circle : Addr} (g_Circle : PySem.W.nsIn K mainGlobals "Circle" = some (some (.ref gc_Circle)))
    {gc_Seat : Addr} (g_Seat : PySem.W.nsIn K mainGlobals "Seat" = some (some (.ref gc_Seat)))
    {gc_Ledger : Addr} (g_Ledger : PySem.W.nsIn K mainGlobals "Ledger" = some (some (.ref gc_Ledger)))
    {od0 an0 : Option Addr} {sl0 : Array (Option Value)} {oc0 kV0 dc0 pm0 cd0 ct0 : Value} {f0 : Addr}
    (a0 : PySem.W.nsIn K mainGlobals "_wall" = some (some (.ref f0))) (l0 : K.lookup f0 = some ⟨oc0, od0, .func (PySem.W.fnOf "_wall" "_wall" (defArgs s__wall) (defBody s__wall) (defScope s__wall) .none kV0 dc0 pm0 an0 cd0 ct0), sl0⟩) (c0 : PySem.W.codeIn K cd0 "_wall" = true) (k0 : PySem.W.keepIn K (.ref f0) = true)
    {od1 an1 : Option Addr} {sl1 : Array (Option Value)} {oc1 kV1 dc1 pm1 cd1 ct1 : Value} {f1 : Addr}
    (a1 : PySem.W.nsIn K mainGlobals "first_covered" = some (some (.ref f1))) (l1 : K.lookup f1 = some ⟨oc1, od1, .func (PySem.W.fnOf "first_covered" "first_covered" (defArgs s_first_covered) (defBody s_first_covered) (defScope s_first_covered) .none kV1 dc1 pm1 an1 cd1 ct1), sl1⟩) (c1 : PySem.W.codeIn K cd1 "first_covered" = true) (k1 : PySem.W.keepIn K (.ref f1) = true)
    {od2 an2 : Option Addr} {sl2 : Array (Option Value)} {oc2 kV2 dc2 pm2 cd2 ct2 : Value} {f2 : Addr}
    (a2 : PySem.W.nsIn K mainGlobals "is_covered" = some (some (.ref f2))) (l2 : K.lookup f2 = some ⟨oc2, od2, .func (PySem.W.fnOf "is_covered" "is_covered" (defArgs s_is_covered) (defBody s_is_covered) (defScope s_is_covered) .none kV2 dc2 pm2 an2 cd2 ct2), sl2⟩) (c2 : PySem.W.codeIn K cd2 "is_covered" = true) (k2 : PySem.W.keepIn K (.ref f2) = true)
    {od3 an3 : Option Addr} {sl3 : Array (Option Value)} {oc3 kV3 dc3 pm3 cd3 ct3 : Value} {f3 : Addr}
    (a3 : PySem.W.nsIn K mainGlobals "within" = some (some (.ref f3))) (l3 : K.lookup f3 = some ⟨oc3, od3, .func (PySem.W.fnOf "within" "within" (defArgs s_within) (defBody s_within) (defScope s_within) .none kV3 dc3 pm3 an3 cd3 ct3), sl3⟩) (c3 : PySem.W.codeIn K cd3 "within" = true) (k3 : PySem.W.keepIn K (.ref f3) = true)
    {od4 an4 : Option Addr} {sl4 : Array (Option Value)} {oc4 kV4 dc4 pm4 cd4 ct4 : Value} {f4 : Addr}
    (a4 : PySem.W.nsIn K mainGlobals "order_or_bar" = some (some (.ref f4))) (l4 : K.lookup f4 = some ⟨oc4, od4, .func (PySem.W.fnOf "order_or_bar" "order_or_bar" (defArgs s_order_or_bar) (defBody s_order_or_bar) (defScope s_order_or_bar) .none kV4 dc4 pm4 an4 cd4 ct4), sl4⟩) (c4 : PySem.W.codeIn K cd4 "order_or_bar" = true) (k4 : PySem.W.keepIn K (.ref f4) = true)
    {od5 an5 : Option Addr} {sl5 : Array (Option Value)} {oc5 kV5 dc5 pm5 cd5 ct5 : Value} {f5 : Addr}
    (a5 : PySem.W.nsIn K mainGlobals "told_order" = some (some (.ref f5))) (l5 : K.lookup f5 = some ⟨oc5, od5, .func (PySem.W.fnOf "told_order" "told_order" (defArgs s_told_order) (defBody s_told_order) (defScope s_told_order) .none kV5 dc5 pm5 an5 cd5 ct5), sl5⟩) (c5 : PySem.W.codeIn K cd5 "told_order" = true) (k5 : PySem.W.keepIn K (.ref f5) = true)
    {od6 an6 : Option Addr} {sl6 : Array (Option Value)} {oc6 kV6 dc6 pm6 cd6 ct6 : Value} {f6 : Addr}
    (a6 : PySem.W.nsIn K mainGlobals "fullest_span" = some (some (.ref f6))) (l6 : K.lookup f6 = some ⟨oc6, od6, .func (PySem.W.fnOf "fullest_span" "fullest_span" (defArgs s_fullest_span) (defBody s_fullest_span) (defScope s_fullest_span) .none kV6 dc6 pm6 an6 cd6 ct6), sl6⟩) (c6 : PySem.W.codeIn K cd6 "fullest_span" = true) (k6 : PySem.W.keepIn K (.ref f6) = true)
    {od7 an7 : Option Addr} {sl7 : Array (Option Value)} {oc7 kV7 dc7 pm7 cd7 ct7 : Value} {f7 : Addr}
    (a7 : PySem.W.nsIn K mainGlobals "surplus" = some (some (.ref f7))) (l7 : K.lookup f7 = some ⟨oc7, od7, .func (PySem.W.fnOf "surplus" "surplus" (defArgs s_surplus) (defBody s_surplus) (defScope s_surplus) .none kV7 dc7 pm7 an7 cd7 ct7), sl7⟩) (c7 : PySem.W.codeIn K cd7 "surplus" = true) (k7 : PySem.W.keepIn K (.ref f7) = true)
    {od8 an8 : Option Addr} {sl8 : Array (Option Value)} {oc8 kV8 dc8 pm8 cd8 ct8 : Value} {f8 : Addr}
    (a8 : PySem.W.nsIn K mainGlobals "rounds_between" = some (some (.ref f8))) (l8 : K.lookup f8 = some ⟨oc8, od8, .func (PySem.W.fnOf "rounds_between" "rounds_between" (defArgs s_rounds_between) (defBody s_rounds_between) (defScope s_rounds_between) .none kV8 dc8 pm8 an8 cd8 ct8), sl8⟩) (c8 : PySem.W.codeIn K cd8 "rounds_between" = true) (k8 : PySem.W.keepIn K (.ref f8) = true)
    {od9 an9 : Option Addr} {sl9 : Array (Option Value)} {oc9 kV9 dc9 pm9 cd9 ct9 : Value} {f9 : Addr}
    (a9 : PySem.W.findIn K (.ref gc_Ledger) "__init__" = some (some (.ref f9))) (i9 : PySem.W.isFn K (.ref f9) = true) (l9 : K.lookup f9 = some ⟨oc9, od9, .func (PySem.W.fnOf "__init__" "Ledger.__init__" (defArgs s_Ledger___init__) (defBody s_Ledger___init__) (defScope s_Ledger___init__) .none kV9 dc9 pm9 an9 cd9 ct9), sl9⟩) (c9 : PySem.W.codeIn K cd9 "Ledger.__init__" = true) (k9 : PySem.W.keepIn K (.ref f9) = true)
    {od10 an10 : Option Addr} {sl10 : Array (Option Value)} {oc10 kV10 dc10 pm10 cd10 ct10 : Value} {f10 : Addr}
    (a10 : PySem.W.findIn K (.ref gc_Ledger) "follows" = some (some (.ref f10))) (i10 : PySem.W.isFn K (.ref f10) = true) (l10 : K.lookup f10 = some ⟨oc10, od10, .func (PySem.W.fnOf "follows" "Ledger.follows" (defArgs s_Ledger_follows) (defBody s_Ledger_follows) (defScope s_Ledger_follows) .none kV10 dc10 pm10 an10 cd10 ct10), sl10⟩) (c10 : PySem.W.codeIn K cd10 "Ledger.follows" = true) (k10 : PySem.W.keepIn K (.ref f10) = true)
    {od11 an11 : Option Addr} {sl11 : Array (Option Value)} {oc11 kV11 dc11 pm11 cd11 ct11 : Value} {f11 : Addr}
    (a11 : PySem.W.findIn K (.ref gc_Ledger) "pledge_can_pay" = some (some (.ref f11))) (i11 : PySem.W.isFn K (.ref f11) = true) (l11 : K.lookup f11 = some ⟨oc11, od11, .func (PySem.W.fnOf "pledge_can_pay" "Ledger.pledge_can_pay" (defArgs s_Ledger_pledge_can_pay) (defBody s_Ledger_pledge_can_pay) (defScope s_Ledger_pledge_can_pay) .none kV11 dc11 pm11 an11 cd11 ct11), sl11⟩) (c11 : PySem.W.codeIn K cd11 "Ledger.pledge_can_pay" = true) (k11 : PySem.W.keepIn K (.ref f11) = true)
    {od12 an12 : Option Addr} {sl12 : Array (Option Value)} {oc12 kV12 dc12 pm12 cd12 ct12 : Value} {f12 : Addr}
    (a12 : PySem.W.findIn K (.ref gc_Ledger) "payers" = some (some (.ref f12))) (i12 : PySem.W.isFn K (.ref f12) = true) (l12 : K.lookup f12 = some ⟨oc12, od12, .func (PySem.W.fnOf "payers" "Ledger.payers" (defArgs s_Ledger_payers) (defBody s_Ledger_payers) (defScope s_Ledger_payers) .none kV12 dc12 pm12 an12 cd12 ct12), sl12⟩) (c12 : PySem.W.codeIn K cd12 "Ledger.payers" = true) (k12 : PySem.W.keepIn K (.ref f12) = true)
    {od13 an13 : Option Addr} {sl13 : Array (Option Value)} {oc13 kV13 dc13 pm13 cd13 ct13 : Value} {f13 : Addr}
    (a13 : PySem.W.findIn K (.ref gc_Ledger) "can_draw" = some (some (.ref f13))) (i13 : PySem.W.isFn K (.ref f13) = true) (l13 : K.lookup f13 = some ⟨oc13, od13, .func (PySem.W.fnOf "can_draw" "Ledger.can_draw" (defArgs s_Ledger_can_draw) (defBody s_Ledger_can_draw) (defScope s_Ledger_can_draw) .none kV13 dc13 pm13 an13 cd13 ct13), sl13⟩) (c13 : PySem.W.codeIn K cd13 "Ledger.can_draw" = true) (k13 : PySem.W.keepIn K (.ref f13) = true)
    {od14 an14 : Option Addr} {sl14 : Array (Option Value)} {oc14 kV14 dc14 pm14 cd14 ct14 : Value} {f14 : Addr}
    (a14 : PySem.W.findIn K (.ref gc_Ledger) "draw_coins" = some (some (.ref f14))) (i14 : PySem.W.isFn K (.ref f14) = true) (l14 : K.lookup f14 = some ⟨oc14, od14, .func (PySem.W.fnOf "draw_coins" "Ledger.draw_coins" (defArgs s_Ledger_draw_coins) (defBody s_Ledger_draw_coins) (defScope s_Ledger_draw_coins) .none kV14 dc14 pm14 an14 cd14 ct14), sl14⟩) (c14 : PySem.W.codeIn K cd14 "Ledger.draw_coins" = true) (k14 : PySem.W.keepIn K (.ref f14) = true)
    {od15 an15 : Option Addr} {sl15 : Array (Option Value)} {oc15 kV15 dc15 pm15 cd15 ct15 : Value} {f15 : Addr}
    (a15 : PySem.W.findIn K (.ref gc_Ledger) "take_in" = some (some (.ref f15))) (i15 : PySem.W.isFn K (.ref f15) = true) (l15 : K.lookup f15 = some ⟨oc15, od15, .func (PySem.W.fnOf "take_in" "Ledger.take_in" (defArgs s_Ledger_take_in) (defBody s_Ledger_take_in) (defScope s_Ledger_take_in) .none kV15 dc15 pm15 an15 cd15 ct15), sl15⟩) (c15 : PySem.W.codeIn K cd15 "Ledger.take_in" = true) (k15 : PySem.W.keepIn K (.ref f15) = true)
    {od16 an16 : Option Addr} {sl16 : Array (Option Value)} {oc16 kV16 dc16 pm16 cd16 ct16 : Value} {f16 : Addr}
    (a16 : PySem.W.nsIn K mainGlobals "first_wrong" = some (some (.ref f16))) (l16 : K.lookup f16 = some ⟨oc16, od16, .func (PySem.W.fnOf "first_wrong" "first_wrong" (defArgs s_first_wrong) (defBody s_first_wrong) (defScope s_first_wrong) .none kV16 dc16 pm16 an16 cd16 ct16), sl16⟩) (c16 : PySem.W.codeIn K cd16 "first_wrong" = true) (k16 : PySem.W.keepIn K (.ref f16) = true)
    {od17 an17 : Option Addr} {sl17 : Array (Option Value)} {oc17 kV17 dc17 pm17 cd17 ct17 : Value} {f17 : Addr}
    (a17 : PySem.W.nsIn K mainGlobals "grows" = some (some (.ref f17))) (l17 : K.lookup f17 = some ⟨oc17, od17, .func (PySem.W.fnOf "grows" "grows" (defArgs s_grows) (defBody s_grows) (defScope s_grows) .none kV17 dc17 pm17 an17 cd17 ct17), sl17⟩) (c17 : PySem.W.codeIn K cd17 "grows" = true) (k17 : PySem.W.keepIn K (.ref f17) = true)
    {od18 an18 : Option Addr} {sl18 : Array (Option Value)} {oc18 kV18 dc18 pm18 cd18 ct18 : Value} {f18 : Addr}
    (a18 : PySem.W.findIn K (.ref gc_Seat) "__init__" = some (some (.ref f18))) (i18 : PySem.W.isFn K (.ref f18) = true) (l18 : K.lookup f18 = some ⟨oc18, od18, .func (PySem.W.fnOf "__init__" "Seat.__init__" (defArgs s_Seat___init__) (defBody s_Seat___init__) (defScope s_Seat___init__) .none kV18 dc18 pm18 an18 cd18 ct18), sl18⟩) (c18 : PySem.W.codeIn K cd18 "Seat.__init__" = true) (k18 : PySem.W.keepIn K (.ref f18) = true)
    {dT19 : Addr}
    {od19 an19 : Option Addr} {sl19 : Array (Option Value)} {oc19 kV19 dc19 pm19 cd19 ct19 : Value} {f19 : Addr}
    (a19 : PySem.W.findIn K (.ref gc_Circle) "__init__" = some (some (.ref f19))) (i19 : PySem.W.isFn K (.ref f19) = true) (l19 : K.lookup f19 = some ⟨oc19, od19, .func (PySem.W.fnOf "__init__" "Circle.__init__" (defArgs s_Circle___init__) (defBody s_Circle___init__) (defScope s_Circle___init__) (.ref dT19) kV19 dc19 pm19 an19 cd19 ct19), sl19⟩) (c19 : PySem.W.codeIn K cd19 "Circle.__init__" = true) (k19 : PySem.W.keepIn K (.ref f19) = true)
    {dc019 : Value} {dd019 : Option Addr} {dn019 : Nat} {ds019 : Array (Option Value)} (e19 : K.lookup dT19 = some ⟨dc019, dd019, .seq #[Value.bool false] dn019, ds019⟩)
    {od20 an20 : Option Addr} {sl20 : Array (Option Value)} {oc20 kV20 dc20 pm20 cd20 ct20 : Value} {f20 : Addr}
    (a20 : PySem.W.findIn K (.ref gc_Circle) "turn" = some (some (.ref f20))) (i20 : PySem.W.isFn K (.ref f20) = true) (l20 : K.lookup f20 = some ⟨oc20, od20, .func (PySem.W.fnOf "turn" "Circle.turn" (defArgs s_Circle_turn) (defBody s_Circle_turn) (defScope s_Circle_turn) .none kV20 dc20 pm20 an20 cd20 ct20), sl20⟩) (c20 : PySem.W.codeIn K cd20 "Circle.turn" = true) (k20 : PySem.W.keepIn K (.ref f20) = true)
    {od21 an21 : Option Addr} {sl21 : Array (Option Value)} {oc21 kV21 dc21 pm21 cd21 ct21 : Value} {f21 : Addr}
    (a21 : PySem.W.findIn K (.ref gc_Circle) "ended" = some (some (.ref f21))) (i21 : PySem.W.isFn K (.ref f21) = true) (l21 : K.lookup f21 = some ⟨oc21, od21, .func (PySem.W.fnOf "ended" "Circle.ended" (defArgs s_Circle_ended) (defBody s_Circle_ended) (defScope s_Circle_ended) .none kV21 dc21 pm21 an21 cd21 ct21), sl21⟩) (c21 : PySem.W.codeIn K cd21 "Circle.ended" = true) (k21 : PySem.W.keepIn K (.ref f21) = true)
    {od22 an22 : Option Addr} {sl22 : Array (Option Value)} {oc22 kV22 dc22 pm22 cd22 ct22 : Value} {f22 : Addr}
    (a22 : PySem.W.findIn K (.ref gc_Circle) "queue" = some (some (.ref f22))) (i22 : PySem.W.isFn K (.ref f22) = true) (l22 : K.lookup f22 = some ⟨oc22, od22, .func (PySem.W.fnOf "queue" "Circle.queue" (defArgs s_Circle_queue) (defBody s_Circle_queue) (defScope s_Circle_queue) .none kV22 dc22 pm22 an22 cd22 ct22), sl22⟩) (c22 : PySem.W.codeIn K cd22 "Circle.queue" = true) (k22 : PySem.W.keepIn K (.ref f22) = true)
    {od23 an23 : Option Addr} {sl23 : Array (Option Value)} {oc23 kV23 dc23 pm23 cd23 ct23 : Value} {f23 : Addr}
    (a23 : PySem.W.findIn K (.ref gc_Circle) "box" = some (some (.ref f23))) (i23 : PySem.W.isFn K (.ref f23) = true) (l23 : K.lookup f23 = some ⟨oc23, od23, .func (PySem.W.fnOf "box" "Circle.box" (defArgs s_Circle_box) (defBody s_Circle_box) (defScope s_Circle_box) .none kV23 dc23 pm23 an23 cd23 ct23), sl23⟩) (c23 : PySem.W.codeIn K cd23 "Circle.box" = true) (k23 : PySem.W.keepIn K (.ref f23) = true)
    {od24 an24 : Option Addr} {sl24 : Array (Option Value)} {oc24 kV24 dc24 pm24 cd24 ct24 : Value} {f24 : Addr}
    (a24 : PySem.W.findIn K (.ref gc_Circle) "pot" = some (some (.ref f24))) (i24 : PySem.W.isFn K (.ref f24) = true) (l24 : K.lookup f24 = some ⟨oc24, od24, .func (PySem.W.fnOf "pot" "Circle.pot" (defArgs s_Circle_pot) (defBody s_Circle_pot) (defScope s_Circle_pot) .none kV24 dc24 pm24 an24 cd24 ct24), sl24⟩) (c24 : PySem.W.codeIn K cd24 "Circle.pot" = true) (k24 : PySem.W.keepIn K (.ref f24) = true)
    {od25 an25 : Option Addr} {sl25 : Array (Option Value)} {oc25 kV25 dc25 pm25 cd25 ct25 : Value} {f25 : Addr}
    (a25 : PySem.W.findIn K (.ref gc_Circle) "seat" = some (some (.ref f25))) (i25 : PySem.W.isFn K (.ref f25) = true) (l25 : K.lookup f25 = some ⟨oc25, od25, .func (PySem.W.fnOf "seat" "Circle.seat" (defArgs s_Circle_seat) (defBody s_Circle_seat) (defScope s_Circle_seat) .none kV25 dc25 pm25 an25 cd25 ct25), sl25⟩) (c25 : PySem.W.codeIn K cd25 "Circle.seat" = true) (k25 : PySem.W.keepIn K (.ref f25) = true)
    {od26 an26 : Option Addr} {sl26 : Array (Option Value)} {oc26 kV26 dc26 pm26 cd26 ct26 : Value} {f26 : Addr}
    (a26 : PySem.W.findIn K (.ref gc_Circle) "close" = some (some (.ref f26))) (i26 : PySem.W.isFn K (.ref f26) = true) (l26 : K.lookup f26 = some ⟨oc26, od26, .func (PySem.W.fnOf "close" "Circle.close" (defArgs s_Circle_close) (defBody s_Circle_close) (defScope s_Circle_close) .none kV26 dc26 pm26 an26 cd26 ct26), sl26⟩) (c26 : PySem.W.codeIn K cd26 "Circle.close" = true) (k26 : PySem.W.keepIn K (.ref f26) = true)
    {od27 an27 : Option Addr} {sl27 : Array (Option Value)} {oc27 kV27 dc27 pm27 cd27 ct27 : Value} {f27 : Addr}
    (a27 : PySem.W.findIn K (.ref gc_Circle) "seat_at" = some (some (.ref f27))) (i27 : PySem.W.isFn K (.ref f27) = true) (l27 : K.lookup f27 = some ⟨oc27, od27, .func (PySem.W.fnOf "seat_at" "Circle.seat_at" (defArgs s_Circle_seat_at) (defBody s_Circle_seat_at) (defScope s_Circle_seat_at) .none kV27 dc27 pm27 an27 cd27 ct27), sl27⟩) (c27 : PySem.W.codeIn K cd27 "Circle.seat_at" = true) (k27 : PySem.W.keepIn K (.ref f27) = true)
    {od28 an28 : Option Addr} {sl28 : Array (Option Value)} {oc28 kV28 dc28 pm28 cd28 ct28 : Value} {f28 : Addr}
    (a28 : PySem.W.findIn K (.ref gc_Circle) "seats_of" = some (some (.ref f28))) (i28 : PySem.W.isFn K (.ref f28) = true) (l28 : K.lookup f28 = some ⟨oc28, od28, .func (PySem.W.fnOf "seats_of" "Circle.seats_of" (defArgs s_Circle_seats_of) (defBody s_Circle_seats_of) (defScope s_Circle_seats_of) .none kV28 dc28 pm28 an28 cd28 ct28), sl28⟩) (c28 : PySem.W.codeIn K cd28 "Circle.seats_of" = true) (k28 : PySem.W.keepIn K (.ref f28) = true)
    {od29 an29 : Option Addr} {sl29 : Array (Option Value)} {oc29 kV29 dc29 pm29 cd29 ct29 : Value} {f29 : Addr}
    (a29 : PySem.W.findIn K (.ref gc_Circle) "covers" = some (some (.ref f29))) (i29 : PySem.W.isFn K (.ref f29) = true) (l29 : K.lookup f29 = some ⟨oc29, od29, .func (PySem.W.fnOf "covers" "Circle.covers" (defArgs s_Circle_covers) (defBody s_Circle_covers) (defScope s_Circle_covers) .none kV29 dc29 pm29 an29 cd29 ct29), sl29⟩) (c29 : PySem.W.codeIn K cd29 "Circle.covers" = true) (k29 : PySem.W.keepIn K (.ref f29) = true)
    {od30 an30 : Option Addr} {sl30 : Array (Option Value)} {oc30 kV30 dc30 pm30 cd30 ct30 : Value} {f30 : Addr}
    (a30 : PySem.W.findIn K (.ref gc_Circle) "standings" = some (some (.ref f30))) (i30 : PySem.W.isFn K (.ref f30) = true) (l30 : K.lookup f30 = some ⟨oc30, od30, .func (PySem.W.fnOf "standings" "Circle.standings" (defArgs s_Circle_standings) (defBody s_Circle_standings) (defScope s_Circle_standings) .none kV30 dc30 pm30 an30 cd30 ct30), sl30⟩) (c30 : PySem.W.codeIn K cd30 "Circle.standings" = true) (k30 : PySem.W.keepIn K (.ref f30) = true)
    {od31 an31 : Option Addr} {sl31 : Array (Option Value)} {oc31 kV31 dc31 pm31 cd31 ct31 : Value} {f31 : Addr}
    (a31 : PySem.W.findIn K (.ref gc_Circle) "unpaid" = some (some (.ref f31))) (i31 : PySem.W.isFn K (.ref f31) = true) (l31 : K.lookup f31 = some ⟨oc31, od31, .func (PySem.W.fnOf "unpaid" "Circle.unpaid" (defArgs s_Circle_unpaid) (defBody s_Circle_unpaid) (defScope s_Circle_unpaid) .none kV31 dc31 pm31 an31 cd31 ct31), sl31⟩) (c31 : PySem.W.codeIn K cd31 "Circle.unpaid" = true) (k31 : PySem.W.keepIn K (.ref f31) = true)
    {od32 an32 : Option Addr} {sl32 : Array (Option Value)} {oc32 kV32 dc32 pm32 cd32 ct32 : Value} {f32 : Addr}
    (a32 : PySem.W.findIn K (.ref gc_Circle) "refuse_lists" = some (some (.ref f32))) (i32 : PySem.W.isFn K (.ref f32) = true) (l32 : K.lookup f32 = some ⟨oc32, od32, .func (PySem.W.fnOf "refuse_lists" "Circle.refuse_lists" (defArgs s_Circle_refuse_lists) (defBody s_Circle_refuse_lists) (defScope s_Circle_refuse_lists) .none kV32 dc32 pm32 an32 cd32 ct32), sl32⟩) (c32 : PySem.W.codeIn K cd32 "Circle.refuse_lists" = true) (k32 : PySem.W.keepIn K (.ref f32) = true)
    {od33 an33 : Option Addr} {sl33 : Array (Option Value)} {oc33 kV33 dc33 pm33 cd33 ct33 : Value} {f33 : Addr}
    (a33 : PySem.W.findIn K (.ref gc_Circle) "let_fall" = some (some (.ref f33))) (i33 : PySem.W.isFn K (.ref f33) = true) (l33 : K.lookup f33 = some ⟨oc33, od33, .func (PySem.W.fnOf "let_fall" "Circle.let_fall" (defArgs s_Circle_let_fall) (defBody s_Circle_let_fall) (defScope s_Circle_let_fall) .none kV33 dc33 pm33 an33 cd33 ct33), sl33⟩) (c33 : PySem.W.codeIn K cd33 "Circle.let_fall" = true) (k33 : PySem.W.keepIn K (.ref f33) = true)
    {od34 an34 : Option Addr} {sl34 : Array (Option Value)} {oc34 kV34 dc34 pm34 cd34 ct34 : Value} {f34 : Addr}
    (a34 : PySem.W.findIn K (.ref gc_Circle) "leave_queue" = some (some (.ref f34))) (i34 : PySem.W.isFn K (.ref f34) = true) (l34 : K.lookup f34 = some ⟨oc34, od34, .func (PySem.W.fnOf "leave_queue" "Circle.leave_queue" (defArgs s_Circle_leave_queue) (defBody s_Circle_leave_queue) (defScope s_Circle_leave_queue) .none kV34 dc34 pm34 an34 cd34 ct34), sl34⟩) (c34 : PySem.W.codeIn K cd34 "Circle.leave_queue" = true) (k34 : PySem.W.keepIn K (.ref f34) = true)
    {od35 an35 : Option Addr} {sl35 : Array (Option Value)} {oc35 kV35 dc35 pm35 cd35 ct35 : Value} {f35 : Addr}
    (a35 : PySem.W.findIn K (.ref gc_Circle) "charge_pledges" = some (some (.ref f35))) (i35 : PySem.W.isFn K (.ref f35) = true) (l35 : K.lookup f35 = some ⟨oc35, od35, .func (PySem.W.fnOf "charge_pledges" "Circle.charge_pledges" (defArgs s_Circle_charge_pledges) (defBody s_Circle_charge_pledges) (defScope s_Circle_charge_pledges) .none kV35 dc35 pm35 an35 cd35 ct35), sl35⟩) (c35 : PySem.W.codeIn K cd35 "Circle.charge_pledges" = true) (k35 : PySem.W.keepIn K (.ref f35) = true)
    {od36 an36 : Option Addr} {sl36 : Array (Option Value)} {oc36 kV36 dc36 pm36 cd36 ct36 : Value} {f36 : Addr}
    (a36 : PySem.W.findIn K (.ref gc_Circle) "collect" = some (some (.ref f36))) (i36 : PySem.W.isFn K (.ref f36) = true) (l36 : K.lookup f36 = some ⟨oc36, od36, .func (PySem.W.fnOf "collect" "Circle.collect" (defArgs s_Circle_collect) (defBody s_Circle_collect) (defScope s_Circle_collect) .none kV36 dc36 pm36 an36 cd36 ct36), sl36⟩) (c36 : PySem.W.codeIn K cd36 "Circle.collect" = true) (k36 : PySem.W.keepIn K (.ref f36) = true)
    {od37 an37 : Option Addr} {sl37 : Array (Option Value)} {oc37 kV37 dc37 pm37 cd37 ct37 : Value} {f37 : Addr}
    (a37 : PySem.W.findIn K (.ref gc_Circle) "rest" = some (some (.ref f37))) (i37 : PySem.W.isFn K (.ref f37) = true) (l37 : K.lookup f37 = some ⟨oc37, od37, .func (PySem.W.fnOf "rest" "Circle.rest" (defArgs s_Circle_rest) (defBody s_Circle_rest) (defScope s_Circle_rest) .none kV37 dc37 pm37 an37 cd37 ct37), sl37⟩) (c37 : PySem.W.codeIn K cd37 "Circle.rest" = true) (k37 : PySem.W.keepIn K (.ref f37) = true)
    {od38 an38 : Option Addr} {sl38 : Array (Option Value)} {oc38 kV38 dc38 pm38 cd38 ct38 : Value} {f38 : Addr}
    (a38 : PySem.W.findIn K (.ref gc_Circle) "draw" = some (some (.ref f38))) (i38 : PySem.W.isFn K (.ref f38) = true) (l38 : K.lookup f38 = some ⟨oc38, od38, .func (PySem.W.fnOf "draw" "Circle.draw" (defArgs s_Circle_draw) (defBody s_Circle_draw) (defScope s_Circle_draw) .none kV38 dc38 pm38 an38 cd38 ct38), sl38⟩) (c38 : PySem.W.codeIn K cd38 "Circle.draw" = true) (k38 : PySem.W.keepIn K (.ref f38) = true)
    {od39 an39 : Option Addr} {sl39 : Array (Option Value)} {oc39 kV39 dc39 pm39 cd39 ct39 : Value} {f39 : Addr}
    (a39 : PySem.W.findIn K (.ref gc_Circle) "best_bid" = some (some (.ref f39))) (i39 : PySem.W.isFn K (.ref f39) = true) (l39 : K.lookup f39 = some ⟨oc39, od39, .func (PySem.W.fnOf "best_bid" "Circle.best_bid" (defArgs s_Circle_best_bid) (defBody s_Circle_best_bid) (defScope s_Circle_best_bid) .none kV39 dc39 pm39 an39 cd39 ct39), sl39⟩) (c39 : PySem.W.codeIn K cd39 "Circle.best_bid" = true) (k39 : PySem.W.keepIn K (.ref f39) = true)
    {od40 an40 : Option Addr} {sl40 : Array (Option Value)} {oc40 kV40 dc40 pm40 cd40 ct40 : Value} {f40 : Addr}
    (a40 : PySem.W.nsIn K mainGlobals "refuse_opening" = some (some (.ref f40))) (l40 : K.lookup f40 = some ⟨oc40, od40, .func (PySem.W.fnOf "refuse_opening" "refuse_opening" (defArgs s_refuse_opening) (defBody s_refuse_opening) (defScope s_refuse_opening) .none kV40 dc40 pm40 an40 cd40 ct40), sl40⟩) (c40 : PySem.W.codeIn K cd40 "refuse_opening" = true) (k40 : PySem.W.keepIn K (.ref f40) = true)
    {od41 an41 : Option Addr} {sl41 : Array (Option Value)} {oc41 kV41 dc41 pm41 cd41 ct41 : Value} {f41 : Addr}
    (a41 : PySem.W.nsIn K mainGlobals "first_queue" = some (some (.ref f41))) (l41 : K.lookup f41 = some ⟨oc41, od41, .func (PySem.W.fnOf "first_queue" "first_queue" (defArgs s_first_queue) (defBody s_first_queue) (defScope s_first_queue) .none kV41 dc41 pm41 an41 cd41 ct41), sl41⟩) (c41 : PySem.W.codeIn K cd41 "first_queue" = true) (k41 : PySem.W.keepIn K (.ref f41) = true)
    {od42 an42 : Option Addr} {sl42 : Array (Option Value)} {oc42 kV42 dc42 pm42 cd42 ct42 : Value} {f42 : Addr}
    (a42 : PySem.W.nsIn K mainGlobals "_law_draws" = some (some (.ref f42))) (l42 : K.lookup f42 = some ⟨oc42, od42, .func (PySem.W.fnOf "_law_draws" "_law_draws" (defArgs s__law_draws) (defBody s__law_draws) (defScope s__law_draws) .none kV42 dc42 pm42 an42 cd42 ct42), sl42⟩) (c42 : PySem.W.codeIn K cd42 "_law_draws" = true) (k42 : PySem.W.keepIn K (.ref f42) = true)
    {od43 an43 : Option Addr} {sl43 : Array (Option Value)} {oc43 kV43 dc43 pm43 cd43 ct43 : Value} {f43 : Addr}
    (a43 : PySem.W.nsIn K mainGlobals "_law_same" = some (some (.ref f43))) (l43 : K.lookup f43 = some ⟨oc43, od43, .func (PySem.W.fnOf "_law_same" "_law_same" (defArgs s__law_same) (defBody s__law_same) (defScope s__law_same) .none kV43 dc43 pm43 an43 cd43 ct43), sl43⟩) (c43 : PySem.W.codeIn K cd43 "_law_same" = true) (k43 : PySem.W.keepIn K (.ref f43) = true)
    {od44 an44 : Option Addr} {sl44 : Array (Option Value)} {oc44 kV44 dc44 pm44 cd44 ct44 : Value} {f44 : Addr}
    (a44 : PySem.W.nsIn K mainGlobals "_law_perm" = some (some (.ref f44))) (l44 : K.lookup f44 = some ⟨oc44, od44, .func (PySem.W.fnOf "_law_perm" "_law_perm" (defArgs s__law_perm) (defBody s__law_perm) (defScope s__law_perm) .none kV44 dc44 pm44 an44 cd44 ct44), sl44⟩) (c44 : PySem.W.codeIn K cd44 "_law_perm" = true) (k44 : PySem.W.keepIn K (.ref f44) = true)
    {od45 an45 : Option Addr} {sl45 : Array (Option Value)} {oc45 kV45 dc45 pm45 cd45 ct45 : Value} {f45 : Addr}
    (a45 : PySem.W.nsIn K mainGlobals "_law_bits" = some (some (.ref f45))) (l45 : K.lookup f45 = some ⟨oc45, od45, .func (PySem.W.fnOf "_law_bits" "_law_bits" (defArgs s__law_bits) (defBody s__law_bits) (defScope s__law_bits) .none kV45 dc45 pm45 an45 cd45 ct45), sl45⟩) (c45 : PySem.W.codeIn K cd45 "_law_bits" = true) (k45 : PySem.W.keepIn K (.ref f45) = true)
    {od46 an46 : Option Addr} {sl46 : Array (Option Value)} {oc46 kV46 dc46 pm46 cd46 ct46 : Value} {f46 : Addr}
    (a46 : PySem.W.nsIn K mainGlobals "_law_paid" = some (some (.ref f46))) (l46 : K.lookup f46 = some ⟨oc46, od46, .func (PySem.W.fnOf "_law_paid" "_law_paid" (defArgs s__law_paid) (defBody s__law_paid) (defScope s__law_paid) .none kV46 dc46 pm46 an46 cd46 ct46), sl46⟩) (c46 : PySem.W.codeIn K cd46 "_law_paid" = true) (k46 : PySem.W.keepIn K (.ref f46) = true)
    {od47 an47 : Option Addr} {sl47 : Array (Option Value)} {oc47 kV47 dc47 pm47 cd47 ct47 : Value} {f47 : Addr}
    (a47 : PySem.W.nsIn K mainGlobals "_law_opening" = some (some (.ref f47))) (l47 : K.lookup f47 = some ⟨oc47, od47, .func (PySem.W.fnOf "_law_opening" "_law_opening" (defArgs s__law_opening) (defBody s__law_opening) (defScope s__law_opening) .none kV47 dc47 pm47 an47 cd47 ct47), sl47⟩) (c47 : PySem.W.codeIn K cd47 "_law_opening" = true) (k47 : PySem.W.keepIn K (.ref f47) = true)
    {od48 an48 : Option Addr} {sl48 : Array (Option Value)} {oc48 kV48 dc48 pm48 cd48 ct48 : Value} {f48 : Addr}
    (a48 : PySem.W.nsIn K mainGlobals "law" = some (some (.ref f48))) (l48 : K.lookup f48 = some ⟨oc48, od48, .func (PySem.W.fnOf "law" "law" (defArgs s_law) (defBody s_law) (defScope s_law) .none kV48 dc48 pm48 an48 cd48 ct48), sl48⟩) (c48 : PySem.W.codeIn K cd48 "law" = true) (k48 : PySem.W.keepIn K (.ref f48) = true)
    (pg_Ledger : PySem.W.plainGet K gc_Ledger Str.empty = true)
    (hd_Ledger : PySem.W.hasDictIn K gc_Ledger = true)
    (po_Ledger : PySem.W.plainOver K gc_Ledger = true)
    (sa_Ledger : PySem.W.findIn K (.ref gc_Ledger) "__setattr__" = some (some (.builtin "object.__setattr__")))
    (mi_Ledger : PySem.W.makesIn K gc_Ledger = true)
    (kc_Ledger : PySem.W.keepIn K (.ref gc_Ledger) = true)
    (na_Ledger_stake : PySem.W.findIn K (.ref gc_Ledger) "stake" = some none)
    (na_Ledger_pledges_left : PySem.W.findIn K (.ref gc_Ledger) "pledges_left" = some none)
    (na_Ledger_line : PySem.W.findIn K (.ref gc_Ledger) "line" = some none)
    (na_Ledger_bidding : PySem.W.findIn K (.ref gc_Ledger) "bidding" = some none)
    (na_Ledger_drawers : PySem.W.findIn K (.ref gc_Ledger) "drawers" = some none)
    (na_Ledger_open_round : PySem.W.findIn K (.ref gc_Ledger) "open_round" = some none)
    (na_Ledger_rests_due : PySem.W.findIn K (.ref gc_Ledger) "rests_due" = some none)
    (pg_Seat : PySem.W.plainGet K gc_Seat Str.empty = true)
    (hd_Seat : PySem.W.hasDictIn K gc_Seat = true)
    (po_Seat : PySem.W.plainOver K gc_Seat = true)
    (sa_Seat : PySem.W.findIn K (.ref gc_Seat) "__setattr__" = some (some (.builtin "object.__setattr__")))
    (mi_Seat : PySem.W.makesIn K gc_Seat = true)
    (kc_Seat : PySem.W.keepIn K (.ref gc_Seat) = true)
    (na_Seat_state : PySem.W.findIn K (.ref gc_Seat) "state" = some none)
    (na_Seat_since : PySem.W.findIn K (.ref gc_Seat) "since" = some none)
    (na_Seat_pledge : PySem.W.findIn K (.ref gc_Seat) "pledge" = some none)
    (na_Seat_given : PySem.W.findIn K (.ref gc_Seat) "given" = some none)
    (na_Seat_drawn : PySem.W.findIn K (.ref gc_Seat) "drawn" = some none)
    (na_Seat_shared : PySem.W.findIn K (.ref gc_Seat) "shared" = some none)
    (na_Seat_pledge_stakes : PySem.W.findIn K (.ref gc_Seat) "pledge_stakes" = some none)
    (pg_Circle : PySem.W.plainGet K gc_Circle Str.empty = true)
    (hd_Circle : PySem.W.hasDictIn K gc_Circle = true)
    (po_Circle : PySem.W.plainOver K gc_Circle = true)
    (sa_Circle : PySem.W.findIn K (.ref gc_Circle) "__setattr__" = some (some (.builtin "object.__setattr__")))
    (mi_Circle : PySem.W.makesIn K gc_Circle = true)
    (kc_Circle : PySem.W.keepIn K (.ref gc_Circle) = true)
    (na_Circle_line : PySem.W.findIn K (.ref gc_Circle) "line" = some none)
    (na_Circle_stake : PySem.W.findIn K (.ref gc_Circle) "stake" = some none)
    (na_Circle_first_pledges : PySem.W.findIn K (.ref gc_Circle) "first_pledges" = some none)
    (na_Circle_wishes : PySem.W.findIn K (.ref gc_Circle) "wishes" = some none)
    (na_Circle_bidding : PySem.W.findIn K (.ref gc_Circle) "bidding" = some none)
    (na_Circle_seats : PySem.W.findIn K (.ref gc_Circle) "seats" = some none)
    (na_Circle_open_round : PySem.W.findIn K (.ref gc_Circle) "open_round" = some none)
    (na_Circle_rests_due : PySem.W.findIn K (.ref gc_Circle) "rests_due" = some none)
    (na_Circle_chest : PySem.W.findIn K (.ref gc_Circle) "chest" = some none)
    (na_Circle_flows : PySem.W.findIn K (.ref gc_Circle) "flows" = some none)
    (z0 : PySem.W.nsIn K mainGlobals "abs" = some none)
    (z1 : PySem.W.nsIn K mainGlobals "all" = some none)
    (z2 : PySem.W.nsIn K mainGlobals "bool" = some none)
    (z3 : PySem.W.nsIn K mainGlobals "enumerate" = some none)
    (z4 : PySem.W.nsIn K mainGlobals "int" = some none)
    (z5 : PySem.W.nsIn K mainGlobals "isinstance" = some none)
    (z6 : PySem.W.nsIn K mainGlobals "len" = some none)
    (z7 : PySem.W.nsIn K mainGlobals "list" = some none)
    (z8 : PySem.W.nsIn K mainGlobals "max" = some none)
    (z9 : PySem.W.nsIn K mainGlobals "min" = some none)
    (z10 : PySem.W.nsIn K mainGlobals "range" = some none)
    (z11 : PySem.W.nsIn K mainGlobals "str" = some none)
    (z12 : PySem.W.nsIn K mainGlobals "tuple" = some none)
    (z13 : PySem.W.nsIn K mainGlobals "zip" = some none)
    {tk0 : Tok} (n0 : PySem.W.nsIn K mainGlobals "MOST_STAKE" = some (some (.int 1000000 tk0)))
    {tk1 : Tok} (n1 : PySem.W.nsIn K mainGlobals "LEAST_SEATS" = some (some (.int 2 tk1)))
    {tk2 : Tok} (n2 : PySem.W.nsIn K mainGlobals "MOST_SEATS" = some (some (.int 20 tk2)))
    {tk3 : Tok} (n3 : PySem.W.nsIn K mainGlobals "MOST_COINS" = some (some (.int 1000000000 tk3)))
    {tk4 : Tok} (n4 : PySem.W.nsIn K mainGlobals "WAITS" = some (some (.str "waits" tk4)))
    {tk5 : Tok} (n5 : PySem.W.nsIn K mainGlobals "DREW" = some (some (.str "drew" tk5)))
    {tk6 : Tok} (n6 : PySem.W.nsIn K mainGlobals "FELL" = some (some (.str "fell" tk6)))
    (cc0 : cd5 = .ref 51)
    (cc1 : cd6 = .ref 56)
    (cc2 : cd39 = .ref 430) : Top K mg where
      d__wall := ⟨f0, _, fun_mk (st := s__wall) l0 c0 k0, (fun_mk (st := s__wall) l0 c0 k0).binds (ps := ["k"]) (fun _ _ _ _ _ _ us hl => match us, hl with | [_], _ => rfl)⟩
      m__wall := PySem.W.mg_of X G a0
      d_first_covered := ⟨f1, _, fun_mk (st := s_first_covered) l1 c1 k1, (fun_mk (st := s_first_covered) l1 c1 k1).binds (ps := ["stake", "seats", "pledge"]) (fun _ _ _ _ _ _ us hl => match us, hl with | [_, _, _], _ => rfl)⟩
      m_first_covered := PySem.W.mg_of X G a1
      d_is_covered := ⟨f2, _, fun_mk (st := s_is_covered) l2 c2 k2, (fun_mk (st := s_is_covered) l2 c2 k2).binds (ps := ["stake", "seats", "pledge", "turn"]) (fun _ _ _ _ _ _ us hl => match us, hl with | [_, _, _, _], _ => rfl)⟩
      m_is_covered := PySem.W.mg_of X G a2
      d_within := ⟨f3, _, fun_mk (st := s_within) l3 c3 k3, (fun_mk (st := s_within) l3 c3 k3).binds (ps := ["windows", "a", "b"]) (fun _ _ _ _ _ _ us hl => match us, hl with | [_, _, _], _ => rfl)⟩
      m_within := PySem.W.mg_of X G a3
      d_order_or_bar := ⟨f4, _, fun_mk (st := s_order_or_bar) l4 c4 k4, (fun_mk (st := s_order_or_bar) l4 c4 k4).binds (ps := ["windows"]) (fun _ _ _ _ _ _ us hl => match us, hl with | [_], _ => rfl)⟩
      m_order_or_bar := PySem.W.mg_of X G a4
      d_told_order := ⟨f5, _, fun_mk (st := s_told_order) l5 c5 k5, (fun_mk (st := s_told_order) l5 c5 k5).binds (ps := ["windows"]) (fun _ _ _ _ _ _ us hl => match us, hl with | [_], _ => rfl)⟩
      m_told_order := PySem.W.mg_of X G a5
      d_fullest_span := ⟨f6, _, fun_mk (st := s_fullest_span) l6 c6 k6, (fun_mk (st := s_fullest_span) l6 c6 k6).binds (ps := ["windows"]) (fun _ _ _ _ _ _ us hl => match us, hl with | [_], _ => rfl)⟩
      m_fullest_span := PySem.W.mg_of X G a6
      d_surplus := ⟨f7, _, fun_mk (st := s_surplus) l7 c7 k7, (fun_mk (st := s_surplus) l7 c7 k7).binds (ps := ["windows", "a", "b"]) (fun _ _ _ _ _ _ us hl => match us, hl with | [_, _, _], _ => rfl)⟩
      m_surplus := PySem.W.mg_of X G a7
      d_rounds_between := ⟨f8, _, fun_mk (st := s_rounds_between) l8 c8 k8, (fun_mk (st := s_rounds_between) l8 c8 k8).binds (ps := ["a", "b"]) (fun _ _ _ _ _ _ us hl => match us, hl with | [_, _], _ => rfl)⟩
      m_rounds_between := PySem.W.mg_of X G a8
      d_Ledger___init__ := ⟨f9, _, fun_mk (st := s_Ledger___init__) l9 c9 k9, (fun_mk (st := s_Ledger___init__) l9 c9 k9).binds (ps := ["self", "stake", "pledges", "queue", "bidding"]) (fun _ _ _ _ _ _ us hl => match us, hl with | [_, _, _, _, _], _ => rfl)⟩
      d_Ledger_follows := ⟨⟨f10, _, fun_mk (st := s_Ledger_follows) l10 c10 k10, (fun_mk (st := s_Ledger_follows) l10 c10 k10).binds (ps := ["self", "report"]) (fun _ _ _ _ _ _ us hl => match us, hl with | [_, _], _ => rfl)⟩, ⟨a10, i10, k10⟩⟩
      d_Ledger_pledge_can_pay := ⟨⟨f11, _, fun_mk (st := s_Ledger_pledge_can_pay) l11 c11 k11, (fun_mk (st := s_Ledger_pledge_can_pay) l11 c11 k11).binds (ps := ["self", "at"]) (fun _ _ _ _ _ _ us hl => match us, hl with | [_, _], _ => rfl)⟩, ⟨a11, i11, k11⟩⟩
      d_Ledger_payers := ⟨⟨f12, _, fun_mk (st := s_Ledger_payers) l12 c12 k12, (fun_mk (st := s_Ledger_payers) l12 c12 k12).binds (ps := ["self", "fallen"]) (fun _ _ _ _ _ _ us hl => match us, hl with | [_, _], _ => rfl)⟩, ⟨a12, i12, k12⟩⟩
      d_Ledger_can_draw := ⟨⟨f13, _, fun_mk (st := s_Ledger_can_draw) l13 c13 k13, (fun_mk (st := s_Ledger_can_draw) l13 c13 k13).binds (ps := ["self", "drawer", "share"]) (fun _ _ _ _ _ _ us hl => match us, hl with | [_, _, _], _ => rfl)⟩, ⟨a13, i13, k13⟩⟩
      d_Ledger_draw_coins := ⟨⟨f14, _, fun_mk (st := s_Ledger_draw_coins) l14 c14 k14, (fun_mk (st := s_Ledger_draw_coins) l14 c14 k14).binds (ps := ["self", "share"]) (fun _ _ _ _ _ _ us hl => match us, hl with | [_, _], _ => rfl)⟩, ⟨a14, i14, k14⟩⟩
      d_Ledger_take_in := ⟨⟨f15, _, fun_mk (st := s_Ledger_take_in) l15 c15 k15, (fun_mk (st := s_Ledger_take_in) l15 c15 k15).binds (ps := ["self", "report"]) (fun _ _ _ _ _ _ us hl => match us, hl with | [_, _], _ => rfl)⟩, ⟨a15, i15, k15⟩⟩
      d_first_wrong := ⟨f16, _, fun_mk (st := s_first_wrong) l16 c16 k16, (fun_mk (st := s_first_wrong) l16 c16 k16).binds (ps := ["stake", "pledges", "queue", "bidding", "reports"]) (fun _ _ _ _ _ _ us hl => match us, hl with | [_, _, _, _, _], _ => rfl)⟩
      m_first_wrong := PySem.W.mg_of X G a16
      d_grows := ⟨f17, _, fun_mk (st := s_grows) l17 c17 k17, (fun_mk (st := s_grows) l17 c17 k17).binds (ps := ["row"]) (fun _ _ _ _ _ _ us hl => match us, hl with | [_], _ => rfl)⟩
      m_grows := PySem.W.mg_of X G a17
      d_Seat___init__ := ⟨f18, _, fun_mk (st := s_Seat___init__) l18 c18 k18, (fun_mk (st := s_Seat___init__) l18 c18 k18).binds (ps := ["self", "pledge"]) (fun _ _ _ _ _ _ us hl => match us, hl with | [_, _], _ => rfl)⟩
      d_Circle___init__ := ⟨f19, _, (fund_mk (params := defArgs s_Circle___init__) (body := defBody s_Circle___init__) (scope := defScope s_Circle___init__) (dvs := [.bl false]) l19 c19 k19 e19 (.cons rfl .nil)), binds_full (fund_mk (params := defArgs s_Circle___init__) (body := defBody s_Circle___init__) (scope := defScope s_Circle___init__) (dvs := [.bl false]) l19 c19 k19 e19 (.cons rfl .nil)) (fun _ _ _ _ _ _ _ us its hl hi => match us, hl, its, hi with | [_, _, _, _, _], _, [_], _ => ⟨_, rfl, rfl⟩), FunD.binds1 (ps := ["self", "stake", "pledges", "wishes", "bidding"]) (dvs := [.bl false]) (fund_mk (params := defArgs s_Circle___init__) (body := defBody s_Circle___init__) (scope := defScope s_Circle___init__) (dvs := [.bl false]) l19 c19 k19 e19 (.cons rfl .nil)) 4 0 (by simp) rfl (fun _ _ _ _ _ _ _ us its hl hi => match us, hl, its, hi with | [_, _, _, _], _, [_], _ => ⟨_, rfl, rfl⟩)⟩
      d_Circle_turn := ⟨⟨f20, _, fun_mk (st := s_Circle_turn) l20 c20 k20, (fun_mk (st := s_Circle_turn) l20 c20 k20).binds (ps := ["self"]) (fun _ _ _ _ _ _ us hl => match us, hl with | [_], _ => rfl)⟩, ⟨a20, i20, k20⟩⟩
      d_Circle_ended := ⟨⟨f21, _, fun_mk (st := s_Circle_ended) l21 c21 k21, (fun_mk (st := s_Circle_ended) l21 c21 k21).binds (ps := ["self"]) (fun _ _ _ _ _ _ us hl => match us, hl with | [_], _ => rfl)⟩, ⟨a21, i21, k21⟩⟩
      d_Circle_queue := ⟨⟨f22, _, fun_mk (st := s_Circle_queue) l22 c22 k22, (fun_mk (st := s_Circle_queue) l22 c22 k22).binds (ps := ["self"]) (fun _ _ _ _ _ _ us hl => match us, hl with | [_], _ => rfl)⟩, ⟨a22, i22, k22⟩⟩
      d_Circle_box := ⟨⟨f23, _, fun_mk (st := s_Circle_box) l23 c23 k23, (fun_mk (st := s_Circle_box) l23 c23 k23).binds (ps := ["self"]) (fun _ _ _ _ _ _ us hl => match us, hl with | [_], _ => rfl)⟩, ⟨a23, i23, k23⟩⟩
      d_Circle_pot := ⟨⟨f24, _, fun_mk (st := s_Circle_pot) l24 c24 k24, (fun_mk (st := s_Circle_pot) l24 c24 k24).binds (ps := ["self"]) (fun _ _ _ _ _ _ us hl => match us, hl with | [_], _ => rfl)⟩, ⟨a24, i24, k24⟩⟩
      d_Circle_seat := ⟨⟨f25, _, fun_mk (st := s_Circle_seat) l25 c25 k25, (fun_mk (st := s_Circle_seat) l25 c25 k25).binds (ps := ["self", "at"]) (fun _ _ _ _ _ _ us hl => match us, hl with | [_, _], _ => rfl)⟩, ⟨a25, i25, k25⟩⟩
      d_Circle_close := ⟨⟨f26, _, fun_mk (st := s_Circle_close) l26 c26 k26, (fun_mk (st := s_Circle_close) l26 c26 k26).binds (ps := ["self", "paid", "bids"]) (fun _ _ _ _ _ _ us hl => match us, hl with | [_, _, _], _ => rfl)⟩, ⟨a26, i26, k26⟩⟩
      d_Circle_seat_at := ⟨⟨f27, _, fun_mk (st := s_Circle_seat_at) l27 c27 k27, (fun_mk (st := s_Circle_seat_at) l27 c27 k27).binds (ps := ["self", "at"]) (fun _ _ _ _ _ _ us hl => match us, hl with | [_, _], _ => rfl)⟩, ⟨a27, i27, k27⟩⟩
      d_Circle_seats_of := ⟨⟨f28, _, fun_mk (st := s_Circle_seats_of) l28 c28 k28, (fun_mk (st := s_Circle_seats_of) l28 c28 k28).binds (ps := ["self", "numbers"]) (fun _ _ _ _ _ _ us hl => match us, hl with | [_, _], _ => rfl)⟩, ⟨a28, i28, k28⟩⟩
      d_Circle_covers := ⟨⟨f29, _, fun_mk (st := s_Circle_covers) l29 c29 k29, (fun_mk (st := s_Circle_covers) l29 c29 k29).binds (ps := ["self", "at", "turn"]) (fun _ _ _ _ _ _ us hl => match us, hl with | [_, _, _], _ => rfl)⟩, ⟨a29, i29, k29⟩⟩
      d_Circle_standings := ⟨⟨f30, _, fun_mk (st := s_Circle_standings) l30 c30 k30, (fun_mk (st := s_Circle_standings) l30 c30 k30).binds (ps := ["self"]) (fun _ _ _ _ _ _ us hl => match us, hl with | [_], _ => rfl)⟩, ⟨a30, i30, k30⟩⟩
      d_Circle_unpaid := ⟨⟨f31, _, fun_mk (st := s_Circle_unpaid) l31 c31 k31, (fun_mk (st := s_Circle_unpaid) l31 c31 k31).binds (ps := ["self", "state", "paid"]) (fun _ _ _ _ _ _ us hl => match us, hl with | [_, _, _], _ => rfl)⟩, ⟨a31, i31, k31⟩⟩
      d_Circle_refuse_lists := ⟨⟨f32, _, fun_mk (st := s_Circle_refuse_lists) l32 c32 k32, (fun_mk (st := s_Circle_refuse_lists) l32 c32 k32).binds (ps := ["self", "paid", "bids"]) (fun _ _ _ _ _ _ us hl => match us, hl with | [_, _, _], _ => rfl)⟩, ⟨a32, i32, k32⟩⟩
      d_Circle_let_fall := ⟨⟨f33, _, fun_mk (st := s_Circle_let_fall) l33 c33 k33, (fun_mk (st := s_Circle_let_fall) l33 c33 k33).binds (ps := ["self", "fallen"]) (fun _ _ _ _ _ _ us hl => match us, hl with | [_, _], _ => rfl)⟩, ⟨a33, i33, k33⟩⟩
      d_Circle_leave_queue := ⟨⟨f34, _, fun_mk (st := s_Circle_leave_queue) l34 c34 k34, (fun_mk (st := s_Circle_leave_queue) l34 c34 k34).binds (ps := ["self", "at", "state"]) (fun _ _ _ _ _ _ us hl => match us, hl with | [_, _, _], _ => rfl)⟩, ⟨a34, i34, k34⟩⟩
      d_Circle_charge_pledges := ⟨⟨f35, _, fun_mk (st := s_Circle_charge_pledges) l35 c35 k35, (fun_mk (st := s_Circle_charge_pledges) l35 c35 k35).binds (ps := ["self", "pledged"]) (fun _ _ _ _ _ _ us hl => match us, hl with | [_, _], _ => rfl)⟩, ⟨a35, i35, k35⟩⟩
      d_Circle_collect := ⟨⟨f36, _, fun_mk (st := s_Circle_collect) l36 c36 k36, (fun_mk (st := s_Circle_collect) l36 c36 k36).binds (ps := ["self"]) (fun _ _ _ _ _ _ us hl => match us, hl with | [_], _ => rfl)⟩, ⟨a36, i36, k36⟩⟩
      d_Circle_rest := ⟨⟨f37, _, fun_mk (st := s_Circle_rest) l37 c37 k37, (fun_mk (st := s_Circle_rest) l37 c37 k37).binds (ps := ["self", "payers"]) (fun _ _ _ _ _ _ us hl => match us, hl with | [_, _], _ => rfl)⟩, ⟨a37, i37, k37⟩⟩
      d_Circle_draw := ⟨⟨f38, _, fun_mk (st := s_Circle_draw) l38 c38 k38, (fun_mk (st := s_Circle_draw) l38 c38 k38).binds (ps := ["self", "payers", "bids"]) (fun _ _ _ _ _ _ us hl => match us, hl with | [_, _, _], _ => rfl)⟩, ⟨a38, i38, k38⟩⟩
      d_Circle_best_bid := ⟨⟨f39, _, fun_mk (st := s_Circle_best_bid) l39 c39 k39, (fun_mk (st := s_Circle_best_bid) l39 c39 k39).binds (ps := ["self", "bids"]) (fun _ _ _ _ _ _ us hl => match us, hl with | [_, _], _ => rfl)⟩, ⟨a39, i39, k39⟩⟩
      d_refuse_opening := ⟨f40, _, fun_mk (st := s_refuse_opening) l40 c40 k40, (fun_mk (st := s_refuse_opening) l40 c40 k40).binds (ps := ["stake", "pledges", "wishes"]) (fun _ _ _ _ _ _ us hl => match us, hl with | [_, _, _], _ => rfl)⟩
      m_refuse_opening := PySem.W.mg_of X G a40
      d_first_queue := ⟨f41, _, fun_mk (st := s_first_queue) l41 c41 k41, (fun_mk (st := s_first_queue) l41 c41 k41).binds (ps := ["stake", "pledges", "wishes"]) (fun _ _ _ _ _ _ us hl => match us, hl with | [_, _, _], _ => rfl)⟩
      m_first_queue := PySem.W.mg_of X G a41
      d__law_draws := ⟨f42, _, fun_mk (st := s__law_draws) l42 c42 k42, (fun_mk (st := s__law_draws) l42 c42 k42).binds (ps := ["_law_script", "_law_many"]) (fun _ _ _ _ _ _ us hl => match us, hl with | [_, _], _ => rfl)⟩
      m__law_draws := PySem.W.mg_of X G a42
      d__law_same := ⟨f43, _, fun_mk (st := s__law_same) l43 c43 k43, (fun_mk (st := s__law_same) l43 c43 k43).binds (ps := ["_law_told", "_law_due"]) (fun _ _ _ _ _ _ us hl => match us, hl with | [_, _], _ => rfl)⟩
      m__law_same := PySem.W.mg_of X G a43
      d__law_perm := ⟨f44, _, fun_mk (st := s__law_perm) l44 c44 k44, (fun_mk (st := s__law_perm) l44 c44 k44).binds (ps := ["_law_some", "_law_size"]) (fun _ _ _ _ _ _ us hl => match us, hl with | [_, _], _ => rfl)⟩
      m__law_perm := PySem.W.mg_of X G a44
      d__law_bits := ⟨f45, _, fun_mk (st := s__law_bits) l45 c45 k45, (fun_mk (st := s__law_bits) l45 c45 k45).binds (ps := ["_law_number", "_law_size"]) (fun _ _ _ _ _ _ us hl => match us, hl with | [_, _], _ => rfl)⟩
      m__law_bits := PySem.W.mg_of X G a45
      d__law_paid := ⟨f46, _, fun_mk (st := s__law_paid) l46 c46 k46, (fun_mk (st := s__law_paid) l46 c46 k46).binds (ps := ["_law_some", "_law_turn", "_law_size", "_law_way"]) (fun _ _ _ _ _ _ us hl => match us, hl with | [_, _, _, _], _ => rfl)⟩
      m__law_paid := PySem.W.mg_of X G a46
      d__law_opening := ⟨f47, _, fun_mk (st := s__law_opening) l47 c47 k47, (fun_mk (st := s__law_opening) l47 c47 k47).binds (ps := ["_law_some", "_law_size", "_law_stake"]) (fun _ _ _ _ _ _ us hl => match us, hl with | [_, _, _], _ => rfl)⟩
      m__law_opening := PySem.W.mg_of X G a47
      d_law := ⟨f48, _, fun_mk (st := s_law) l48 c48 k48, (fun_mk (st := s_law) l48 c48 k48).binds (ps := ["_law_script"]) (fun _ _ _ _ _ _ us hl => match us, hl with | [_], _ => rfl)⟩
      m_law := PySem.W.mg_of X G a48
      f_Ledger := gc_Ledger
      m_Ledger := PySem.W.mg_of X G g_Ledger
      cl_Ledger := ⟨pg_Ledger, hd_Ledger, po_Ledger, sa_Ledger⟩
      mk_Ledger := ⟨mi_Ledger, a9, i9, kc_Ledger⟩
      na_Ledger := (List.forall_mem_cons.mpr ⟨na_Ledger_stake, (List.forall_mem_cons.mpr ⟨na_Ledger_pledges_left, (List.forall_mem_cons.mpr ⟨na_Ledger_line, (List.forall_mem_cons.mpr ⟨na_Ledger_bidding, (List.forall_mem_cons.mpr ⟨na_Ledger_drawers, (List.forall_mem_cons.mpr ⟨na_Ledger_open_round, (List.forall_mem_cons.mpr ⟨na_Ledger_rests_due, (fun _ h => nomatch h)⟩)⟩)⟩)⟩)⟩)⟩)⟩)
      f_Seat := gc_Seat
      m_Seat := PySem.W.mg_of X G g_Seat
      cl_Seat := ⟨pg_Seat, hd_Seat, po_Seat, sa_Seat⟩
      mk_Seat := ⟨mi_Seat, a18, i18, kc_Seat⟩
      na_Seat := (List.forall_mem_cons.mpr ⟨na_Seat_state, (List.forall_mem_cons.mpr ⟨na_Seat_since, (List.forall_mem_cons.mpr ⟨na_Seat_pledge, (List.forall_mem_cons.mpr ⟨na_Seat_given, (List.forall_mem_cons.mpr ⟨na_Seat_drawn, (List.forall_mem_cons.mpr ⟨na_Seat_shared, (List.forall_mem_cons.mpr ⟨na_Seat_pledge_stakes, (fun _ h => nomatch h)⟩)⟩)⟩)⟩)⟩)⟩)⟩)
      f_Circle := gc_Circle
      m_Circle := PySem.W.mg_of X G g_Circle
      cl_Circle := ⟨pg_Circle, hd_Circle, po_Circle, sa_Circle⟩
      mk_Circle := ⟨mi_Circle, a19, i19, kc_Circle⟩
      na_Circle := (List.forall_mem_cons.mpr ⟨na_Circle_line, (List.forall_mem_cons.mpr ⟨na_Circle_stake, (List.forall_mem_cons.mpr ⟨na_Circle_first_pledges, (List.forall_mem_cons.mpr ⟨na_Circle_wishes, (List.forall_mem_cons.mpr ⟨na_Circle_bidding, (List.forall_mem_cons.mpr ⟨na_Circle_seats, (List.forall_mem_cons.mpr ⟨na_Circle_open_round, (List.forall_mem_cons.mpr ⟨na_Circle_rests_due, (List.forall_mem_cons.mpr ⟨na_Circle_chest, (List.forall_mem_cons.mpr ⟨na_Circle_flows, (fun _ h => nomatch h)⟩)⟩)⟩)⟩)⟩)⟩)⟩)⟩)⟩)⟩)
      m_abs := PySem.W.mg_none_of X G z0
      m_all := PySem.W.mg_none_of X G z1
      m_bool := PySem.W.mg_none_of X G z2
      m_enumerate := PySem.W.mg_none_of X G z3
      m_int := PySem.W.mg_none_of X G z4
      m_isinstance := PySem.W.mg_none_of X G z5
      m_len := PySem.W.mg_none_of X G z6
      m_list := PySem.W.mg_none_of X G z7
      m_max := PySem.W.mg_none_of X G z8
      m_min := PySem.W.mg_none_of X G z9
      m_range := PySem.W.mg_none_of X G z10
      m_str := PySem.W.mg_none_of X G z11
      m_tuple := PySem.W.mg_none_of X G z12
      m_zip := PySem.W.mg_none_of X G z13
      t_MOST_STAKE := tk0
      m_MOST_STAKE := PySem.W.mg_of X G n0
      t_LEAST_SEATS := tk1
      m_LEAST_SEATS := PySem.W.mg_of X G n1
      t_MOST_SEATS := tk2
      m_MOST_SEATS := PySem.W.mg_of X G n2
      t_MOST_COINS := tk3
      m_MOST_COINS := PySem.W.mg_of X G n3
      t_WAITS := tk4
      m_WAITS := PySem.W.mg_of X G n4
      t_DREW := tk5
      m_DREW := PySem.W.mg_of X G n5
      t_FELL := tk6
      m_FELL := PySem.W.mg_of X G n6
      c_told_order := 51
      P_told_order := 49
      C_told_order := func_mk (st := s_told_order) l5 c5 cc0
      c_fullest_span := 56
      P_fullest_span := 54
      C_fullest_span := func_mk (st := s_fullest_span) l6 c6 cc1
      ne_told_order_fullest_span := by show ((49 : Nat)) ≠ 54; decide
      c_Circle_best_bid := 430
      P_Circle_best_bid := 428
      C_Circle_best_bid := func_mk (st := s_Circle_best_bid) l39 c39 cc2
      ne_told_order_Circle_best_bid := by show ((49 : Nat)) ≠ 428; decide
      ne_fullest_span_Circle_best_bid := by show ((54 : Nat)) ≠ 428; decide
set_option maxHeartbeats 4000000 in
theorem all_mk {l : PySem.W.OpenLaw} {w : World} {K : PySem.W.Frag} {h : Heap} {mg : Str → Option Value} {fa : Addr} (X : K.In h) (G : h.Ns mainGlobals mg) (hfa : mg "law" = some (.ref fa))
    (hT : ∀ p ∈ ([(51, 49), (56, 54), (430, 428)] : List (Addr × Addr)), h.get? p.2 = some { cls := .none, data := .fields #[] }) (nT : ∀ p ∈ ([(51, 49), (56, 54), (430, 428)] : List (Addr × Addr)), K.lookup p.2 = none) (hC : ∀ p ∈ ([(51, 49), (56, 54), (430, 428)] : List (Addr × Addr)), PySem.W.CodeHd h p.1 p.2)
    {gc_Circle : Addr} (g_Circle : PySem.W.nsIn K mainGlobals "Circle" = some (some (.ref gc_Circle)))
    {gc_Seat : Addr} (g_Seat : PySem.W.nsIn K mainGlobals "Seat" = some (some (.ref gc_Seat)))
    {gc_Ledger : Addr} (g_Ledger : PySem.W.nsIn K mainGlobals "Ledger" = some (some (.ref gc_Ledger)))
    {od0 an0 : Option Addr} {sl0 : Array (Option Value)} {oc0 kV0 dc0 pm0 cd0 ct0 : Value} {f0 : Addr}
    (a0 : PySem.W.nsIn K mainGlobals "_wall" = some (some (.ref f0))) (l0 : K.lookup f0 = some ⟨oc0, od0, .func (PySem.W.fnOf "_wall" "_wall" (defArgs s__wall) (defBody s__wall) (defScope s__wall) .none kV0 dc0 pm0 an0 cd0 ct0), sl0⟩) (c0 : PySem.W.codeIn K cd0 "_wall" = true) (k0 : PySem.W.keepIn K (.ref f0) = true)
    {od1 an1 : Option Addr} {sl1 : Array (Option Value)} {oc1 kV1 dc1 pm1 cd1 ct1 : Value} {f1 : Addr}
    (a1 : PySem.W.nsIn K mainGlobals "first_covered" = some (some (.ref f1))) (l1 : K.lookup f1 = some ⟨oc1, od1, .func (PySem.W.fnOf "first_covered" "first_covered" (defArgs s_first_covered) (defBody s_first_covered) (defScope s_first_covered) .none kV1 dc1 pm1 an1 cd1 ct1), sl1⟩) (c1 : PySem.W.codeIn K cd1 "first_covered" = true) (k1 : PySem.W.keepIn K (.ref f1) = true)
    {od2 an2 : Option Addr} {sl2 : Array (Option Value)} {oc2 kV2 dc2 pm2 cd2 ct2 : Value} {f2 : Addr}
    (a2 : PySem.W.nsIn K mainGlobals "is_covered" = some (some (.ref f2))) (l2 : K.lookup f2 = some ⟨oc2, od2, .func (PySem.W.fnOf "is_covered" "is_covered" (defArgs s_is_covered) (defBody s_is_covered) (defScope s_is_covered) .none kV2 dc2 pm2 an2 cd2 ct2), sl2⟩) (c2 : PySem.W.codeIn K cd2 "is_covered" = true) (k2 : PySem.W.keepIn K (.ref f2) = true)
    {od3 an3 : Option Addr} {sl3 : Array (Option Value)} {oc3 kV3 dc3 pm3 cd3 ct3 : Value} {f3 : Addr}
    (a3 : PySem.W.nsIn K mainGlobals "within" = some (some (.ref f3))) (l3 : K.lookup f3 = some ⟨oc3, od3, .func (PySem.W.fnOf "within" "within" (defArgs s_within) (defBody s_within) (defScope s_within) .none kV3 dc3 pm3 an3 cd3 ct3), sl3⟩) (c3 : PySem.W.codeIn K cd3 "within" = true) (k3 : PySem.W.keepIn K (.ref f3) = true)
    {od4 an4 : Option Addr} {sl4 : Array (Option Value)} {oc4 kV4 dc4 pm4 cd4 ct4 : Value} {f4 : Addr}
    (a4 : PySem.W.nsIn K mainGlobals "order_or_bar" = some (some (.ref f4))) (l4 : K.lookup f4 = some ⟨oc4, od4, .func (PySem.W.fnOf "order_or_bar" "order_or_bar" (defArgs s_order_or_bar) (defBody s_order_or_bar) (defScope s_order_or_bar) .none kV4 dc4 pm4 an4 cd4 ct4), sl4⟩) (c4 : PySem.W.codeIn K cd4 "order_or_bar" = true) (k4 : PySem.W.keepIn K (.ref f4) = true)
    {od5 an5 : Option Addr} {sl5 : Array (Option Value)} {oc5 kV5 dc5 pm5 cd5 ct5 : Value} {f5 : Addr}
    (a5 : PySem.W.nsIn K mainGlobals "told_order" = some (some (.ref f5))) (l5 : K.lookup f5 = some ⟨oc5, od5, .func (PySem.W.fnOf "told_order" "told_order" (defArgs s_told_order) (defBody s_told_order) (defScope s_told_order) .none kV5 dc5 pm5 an5 cd5 ct5), sl5⟩) (c5 : PySem.W.codeIn K cd5 "told_order" = true) (k5 : PySem.W.keepIn K (.ref f5) = true)
    {od6 an6 : Option Addr} {sl6 : Array (Option Value)} {oc6 kV6 dc6 pm6 cd6 ct6 : Value} {f6 : Addr}
    (a6 : PySem.W.nsIn K mainGlobals "fullest_span" = some (some (.ref f6))) (l6 : K.lookup f6 = some ⟨oc6, od6, .func (PySem.W.fnOf "fullest_span" "fullest_span" (defArgs s_fullest_span) (defBody s_fullest_span) (defScope s_fullest_span) .none kV6 dc6 pm6 an6 cd6 ct6), sl6⟩) (c6 : PySem.W.codeIn K cd6 "fullest_span" = true) (k6 : PySem.W.keepIn K (.ref f6) = true)
    {od7 an7 : Option Addr} {sl7 : Array (Option Value)} {oc7 kV7 dc7 pm7 cd7 ct7 : Value} {f7 : Addr}
    (a7 : PySem.W.nsIn K mainGlobals "surplus" = some (some (.ref f7))) (l7 : K.lookup f7 = some ⟨oc7, od7, .func (PySem.W.fnOf "surplus" "surplus" (defArgs s_surplus) (defBody s_surplus) (defScope s_surplus) .none kV7 dc7 pm7 an7 cd7 ct7), sl7⟩) (c7 : PySem.W.codeIn K cd7 "surplus" = true) (k7 : PySem.W.keepIn K (.ref f7) = true)
    {od8 an8 : Option Addr} {sl8 : Array (Option Value)} {oc8 kV8 dc8 pm8 cd8 ct8 : Value} {f8 : Addr}
    (a8 : PySem.W.nsIn K mainGlobals "rounds_between" = some (some (.ref f8))) (l8 : K.lookup f8 = some ⟨oc8, od8, .func (PySem.W.fnOf "rounds_between" "rounds_between" (defArgs s_rounds_between) (defBody s_rounds_between) (defScope s_rounds_between) .none kV8 dc8 pm8 an8 cd8 ct8), sl8⟩) (c8 : PySem.W.codeIn K cd8 "rounds_between" = true) (k8 : PySem.W.keepIn K (.ref f8) = true)
    {od9 an9 : Option Addr} {sl9 : Array (Option Value)} {oc9 kV9 dc9 pm9 cd9 ct9 : Value} {f9 : Addr}
    (a9 : PySem.W.findIn K (.ref gc_Ledger) "__init__" = some (some (.ref f9))) (i9 : PySem.W.isFn K (.ref f9) = true) (l9 : K.lookup f9 = some ⟨oc9, od9, .func (PySem.W.fnOf "__init__" "Ledger.__init__" (defArgs s_Ledger___init__) (defBody s_Ledger___init__) (defScope s_Ledger___init__) .none kV9 dc9 pm9 an9 cd9 ct9), sl9⟩) (c9 : PySem.W.codeIn K cd9 "Ledger.__init__" = true) (k9 : PySem.W.keepIn K (.ref f9) = true)
    {od10 an10 : Option Addr} {sl10 : Array (Option Value)} {oc10 kV10 dc10 pm10 cd10 ct10 : Value} {f10 : Addr}
    (a10 : PySem.W.findIn K (.ref gc_Ledger) "follows" = some (some (.ref f10))) (i10 : PySem.W.isFn K (.ref f10) = true) (l10 : K.lookup f10 = some ⟨oc10, od10, .func (PySem.W.fnOf "follows" "Ledger.follows" (defArgs s_Ledger_follows) (defBody s_Ledger_follows) (defScope s_Ledger_follows) .none kV10 dc10 pm10 an10 cd10 ct10), sl10⟩) (c10 : PySem.W.codeIn K cd10 "Ledger.follows" = true) (k10 : PySem.W.keepIn K (.ref f10) = true)
    {od11 an11 : Option Addr} {sl11 : Array (Option Value)} {oc11 kV11 dc11 pm11 cd11 ct11 : Value} {f11 : Addr}
    (a11 : PySem.W.findIn K (.ref gc_Ledger) "pledge_can_pay" = some (some (.ref f11))) (i11 : PySem.W.isFn K (.ref f11) = true) (l11 : K.lookup f11 = some ⟨oc11, od11, .func (PySem.W.fnOf "pledge_can_pay" "Ledger.pledge_can_pay" (defArgs s_Ledger_pledge_can_pay) (defBody s_Ledger_pledge_can_pay) (defScope s_Ledger_pledge_can_pay) .none kV11 dc11 pm11 an11 cd11 ct11), sl11⟩) (c11 : PySem.W.codeIn K cd11 "Ledger.pledge_can_pay" = true) (k11 : PySem.W.keepIn K (.ref f11) = true)
    {od12 an12 : Option Addr} {sl12 : Array (Option Value)} {oc12 kV12 dc12 pm12 cd12 ct12 : Value} {f12 : Addr}
    (a12 : PySem.W.findIn K (.ref gc_Ledger) "payers" = some (some (.ref f12))) (i12 : PySem.W.isFn K (.ref f12) = true) (l12 : K.lookup f12 = some ⟨oc12, od12, .func (PySem.W.fnOf "payers" "Ledger.payers" (defArgs s_Ledger_payers) (defBody s_Ledger_payers) (defScope s_Ledger_payers) .none kV12 dc12 pm12 an12 cd12 ct12), sl12⟩) (c12 : PySem.W.codeIn K cd12 "Ledger.payers" = true) (k12 : PySem.W.keepIn K (.ref f12) = true)
    {od13 an13 : Option Addr} {sl13 : Array (Option Value)} {oc13 kV13 dc13 pm13 cd13 ct13 : Value} {f13 : Addr}
    (a13 : PySem.W.findIn K (.ref gc_Ledger) "can_draw" = some (some (.ref f13))) (i13 : PySem.W.isFn K (.ref f13) = true) (l13 : K.lookup f13 = some ⟨oc13, od13, .func (PySem.W.fnOf "can_draw" "Ledger.can_draw" (defArgs s_Ledger_can_draw) (defBody s_Ledger_can_draw) (defScope s_Ledger_can_draw) .none kV13 dc13 pm13 an13 cd13 ct13), sl13⟩) (c13 : PySem.W.codeIn K cd13 "Ledger.can_draw" = true) (k13 : PySem.W.keepIn K (.ref f13) = true)
    {od14 an14 : Option Addr} {sl14 : Array (Option Value)} {oc14 kV14 dc14 pm14 cd14 ct14 : Value} {f14 : Addr}
    (a14 : PySem.W.findIn K (.ref gc_Ledger) "draw_coins" = some (some (.ref f14))) (i14 : PySem.W.isFn K (.ref f14) = true) (l14 : K.lookup f14 = some ⟨oc14, od14, .func (PySem.W.fnOf "draw_coins" "Ledger.draw_coins" (defArgs s_Ledger_draw_coins) (defBody s_Ledger_draw_coins) (defScope s_Ledger_draw_coins) .none kV14 dc14 pm14 an14 cd14 ct14), sl14⟩) (c14 : PySem.W.codeIn K cd14 "Ledger.draw_coins" = true) (k14 : PySem.W.keepIn K (.ref f14) = true)
    {od15 an15 : Option Addr} {sl15 : Array (Option Value)} {oc15 kV15 dc15 pm15 cd15 ct15 : Value} {f15 : Addr}
    (a15 : PySem.W.findIn K (.ref gc_Ledger) "take_in" = some (some (.ref f15))) (i15 : PySem.W.isFn K (.ref f15) = true) (l15 : K.lookup f15 = some ⟨oc15, od15, .func (PySem.W.fnOf "take_in" "Ledger.take_in" (defArgs s_Ledger_take_in) (defBody s_Ledger_take_in) (defScope s_Ledger_take_in) .none kV15 dc15 pm15 an15 cd15 ct15), sl15⟩) (c15 : PySem.W.codeIn K cd15 "Ledger.take_in" = true) (k15 : PySem.W.keepIn K (.ref f15) = true)
    {od16 an16 : Option Addr} {sl16 : Array (Option Value)} {oc16 kV16 dc16 pm16 cd16 ct16 : Value} {f16 : Addr}
    (a16 : PySem.W.nsIn K mainGlobals "first_wrong" = some (some (.ref f16))) (l16 : K.lookup f16 = some ⟨oc16, od16, .func (PySem.W.fnOf "first_wrong" "first_wrong" (defArgs s_first_wrong) (defBody s_first_wrong) (defScope s_first_wrong) .none kV16 dc16 pm16 an16 cd16 ct16), sl16⟩) (c16 : PySem.W.codeIn K cd16 "first_wrong" = true) (k16 : PySem.W.keepIn K (.ref f16) = true)
    {od17 an17 : Option Addr} {sl17 : Array (Option Value)} {oc17 kV17 dc17 pm17 cd17 ct17 : Value} {f17 : Addr}
    (a17 : PySem.W.nsIn K mainGlobals "grows" = some (some (.ref f17))) (l17 : K.lookup f17 = some ⟨oc17, od17, .func (PySem.W.fnOf "grows" "grows" (defArgs s_grows) (defBody s_grows) (defScope s_grows) .none kV17 dc17 pm17 an17 cd17 ct17), sl17⟩) (c17 : PySem.W.codeIn K cd17 "grows" = true) (k17 : PySem.W.keepIn K (.ref f17) = true)
    {od18 an18 : Option Addr} {sl18 : Array (Option Value)} {oc18 kV18 dc18 pm18 cd18 ct18 : Value} {f18 : Addr}
    (a18 : PySem.W.findIn K (.ref gc_Seat) "__init__" = some (some (.ref f18))) (i18 : PySem.W.isFn K (.ref f18) = true) (l18 : K.lookup f18 = some ⟨oc18, od18, .func (PySem.W.fnOf "__init__" "Seat.__init__" (defArgs s_Seat___init__) (defBody s_Seat___init__) (defScope s_Seat___init__) .none kV18 dc18 pm18 an18 cd18 ct18), sl18⟩) (c18 : PySem.W.codeIn K cd18 "Seat.__init__" = true) (k18 : PySem.W.keepIn K (.ref f18) = true)
    {dT19 : Addr}
    {od19 an19 : Option Addr} {sl19 : Array (Option Value)} {oc19 kV19 dc19 pm19 cd19 ct19 : Value} {f19 : Addr}
    (a19 : PySem.W.findIn K (.ref gc_Circle) "__init__" = some (some (.ref f19))) (i19 : PySem.W.isFn K (.ref f19) = true) (l19 : K.lookup f19 = some ⟨oc19, od19, .func (PySem.W.fnOf "__init__" "Circle.__init__" (defArgs s_Circle___init__) (defBody s_Circle___init__) (defScope s_Circle___init__) (.ref dT19) kV19 dc19 pm19 an19 cd19 ct19), sl19⟩) (c19 : PySem.W.codeIn K cd19 "Circle.__init__" = true) (k19 : PySem.W.keepIn K (.ref f19) = true)
    {dc019 : Value} {dd019 : Option Addr} {dn019 : Nat} {ds019 : Array (Option Value)} (e19 : K.lookup dT19 = some ⟨dc019, dd019, .seq #[Value.bool false] dn019, ds019⟩)
    {od20 an20 : Option Addr} {sl20 : Array (Option Value)} {oc20 kV20 dc20 pm20 cd20 ct20 : Value} {f20 : Addr}
    (a20 : PySem.W.findIn K (.ref gc_Circle) "turn" = some (some (.ref f20))) (i20 : PySem.W.isFn K (.ref f20) = true) (l20 : K.lookup f20 = some ⟨oc20, od20, .func (PySem.W.fnOf "turn" "Circle.turn" (defArgs s_Circle_turn) (defBody s_Circle_turn) (defScope s_Circle_turn) .none kV20 dc20 pm20 an20 cd20 ct20), sl20⟩) (c20 : PySem.W.codeIn K cd20 "Circle.turn" = true) (k20 : PySem.W.keepIn K (.ref f20) = true)
    {od21 an21 : Option Addr} {sl21 : Array (Option Value)} {oc21 kV21 dc21 pm21 cd21 ct21 : Value} {f21 : Addr}
    (a21 : PySem.W.findIn K (.ref gc_Circle) "ended" = some (some (.ref f21))) (i21 : PySem.W.isFn K (.ref f21) = true) (l21 : K.lookup f21 = some ⟨oc21, od21, .func (PySem.W.fnOf "ended" "Circle.ended" (defArgs s_Circle_ended) (defBody s_Circle_ended) (defScope s_Circle_ended) .none kV21 dc21 pm21 an21 cd21 ct21), sl21⟩) (c21 : PySem.W.codeIn K cd21 "Circle.ended" = true) (k21 : PySem.W.keepIn K (.ref f21) = true)
    {od22 an22 : Option Addr} {sl22 : Array (Option Value)} {oc22 kV22 dc22 pm22 cd22 ct22 : Value} {f22 : Addr}
    (a22 : PySem.W.findIn K (.ref gc_Circle) "queue" = some (some (.ref f22))) (i22 : PySem.W.isFn K (.ref f22) = true) (l22 : K.lookup f22 = some ⟨oc22, od22, .func (PySem.W.fnOf "queue" "Circle.queue" (defArgs s_Circle_queue) (defBody s_Circle_queue) (defScope s_Circle_queue) .none kV22 dc22 pm22 an22 cd22 ct22), sl22⟩) (c22 : PySem.W.codeIn K cd22 "Circle.queue" = true) (k22 : PySem.W.keepIn K (.ref f22) = true)
    {od23 an23 : Option Addr} {sl23 : Array (Option Value)} {oc23 kV23 dc23 pm23 cd23 ct23 : Value} {f23 : Addr}
    (a23 : PySem.W.findIn K (.ref gc_Circle) "box" = some (some (.ref f23))) (i23 : PySem.W.isFn K (.ref f23) = true) (l23 : K.lookup f23 = some ⟨oc23, od23, .func (PySem.W.fnOf "box" "Circle.box" (defArgs s_Circle_box) (defBody s_Circle_box) (defScope s_Circle_box) .none kV23 dc23 pm23 an23 cd23 ct23), sl23⟩) (c23 : PySem.W.codeIn K cd23 "Circle.box" = true) (k23 : PySem.W.keepIn K (.ref f23) = true)
    {od24 an24 : Option Addr} {sl24 : Array (Option Value)} {oc24 kV24 dc24 pm24 cd24 ct24 : Value} {f24 : Addr}
    (a24 : PySem.W.findIn K (.ref gc_Circle) "pot" = some (some (.ref f24))) (i24 : PySem.W.isFn K (.ref f24) = true) (l24 : K.lookup f24 = some ⟨oc24, od24, .func (PySem.W.fnOf "pot" "Circle.pot" (defArgs s_Circle_pot) (defBody s_Circle_pot) (defScope s_Circle_pot) .none kV24 dc24 pm24 an24 cd24 ct24), sl24⟩) (c24 : PySem.W.codeIn K cd24 "Circle.pot" = true) (k24 : PySem.W.keepIn K (.ref f24) = true)
    {od25 an25 : Option Addr} {sl25 : Array (Option Value)} {oc25 kV25 dc25 pm25 cd25 ct25 : Value} {f25 : Addr}
    (a25 : PySem.W.findIn K (.ref gc_Circle) "seat" = some (some (.ref f25))) (i25 : PySem.W.isFn K (.ref f25) = true) (l25 : K.lookup f25 = some ⟨oc25, od25, .func (PySem.W.fnOf "seat" "Circle.seat" (defArgs s_Circle_seat) (defBody s_Circle_seat) (defScope s_Circle_seat) .none kV25 dc25 pm25 an25 cd25 ct25), sl25⟩) (c25 : PySem.W.codeIn K cd25 "Circle.seat" = true) (k25 : PySem.W.keepIn K (.ref f25) = true)
    {od26 an26 : Option Addr} {sl26 : Array (Option Value)} {oc26 kV26 dc26 pm26 cd26 ct26 : Value} {f26 : Addr}
    (a26 : PySem.W.findIn K (.ref gc_Circle) "close" = some (some (.ref f26))) (i26 : PySem.W.isFn K (.ref f26) = true) (l26 : K.lookup f26 = some ⟨oc26, od26, .func (PySem.W.fnOf "close" "Circle.close" (defArgs s_Circle_close) (defBody s_Circle_close) (defScope s_Circle_close) .none kV26 dc26 pm26 an26 cd26 ct26), sl26⟩) (c26 : PySem.W.codeIn K cd26 "Circle.close" = true) (k26 : PySem.W.keepIn K (.ref f26) = true)
    {od27 an27 : Option Addr} {sl27 : Array (Option Value)} {oc27 kV27 dc27 pm27 cd27 ct27 : Value} {f27 : Addr}
    (a27 : PySem.W.findIn K (.ref gc_Circle) "seat_at" = some (some (.ref f27))) (i27 : PySem.W.isFn K (.ref f27) = true) (l27 : K.lookup f27 = some ⟨oc27, od27, .func (PySem.W.fnOf "seat_at" "Circle.seat_at" (defArgs s_Circle_seat_at) (defBody s_Circle_seat_at) (defScope s_Circle_seat_at) .none kV27 dc27 pm27 an27 cd27 ct27), sl27⟩) (c27 : PySem.W.codeIn K cd27 "Circle.seat_at" = true) (k27 : PySem.W.keepIn K (.ref f27) = true)
    {od28 an28 : Option Addr} {sl28 : Array (Option Value)} {oc28 kV28 dc28 pm28 cd28 ct28 : Value} {f28 : Addr}
    (a28 : PySem.W.findIn K (.ref gc_Circle) "seats_of" = some (some (.ref f28))) (i28 : PySem.W.isFn K (.ref f28) = true) (l28 : K.lookup f28 = some ⟨oc28, od28, .func (PySem.W.fnOf "seats_of" "Circle.seats_of" (defArgs s_Circle_seats_of) (defBody s_Circle_seats_of) (defScope s_Circle_seats_of) .none kV28 dc28 pm28 an28 cd28 ct28), sl28⟩) (c28 : PySem.W.codeIn K cd28 "Circle.seats_of" = true) (k28 : PySem.W.keepIn K (.ref f28) = true)
    {od29 an29 : Option Addr} {sl29 : Array (Option Value)} {oc29 kV29 dc29 pm29 cd29 ct29 : Value} {f29 : Addr}
    (a29 : PySem.W.findIn K (.ref gc_Circle) "covers" = some (some (.ref f29))) (i29 : PySem.W.isFn K (.ref f29) = true) (l29 : K.lookup f29 = some ⟨oc29, od29, .func (PySem.W.fnOf "covers" "Circle.covers" (defArgs s_Circle_covers) (defBody s_Circle_covers) (defScope s_Circle_covers) .none kV29 dc29 pm29 an29 cd29 ct29), sl29⟩) (c29 : PySem.W.codeIn K cd29 "Circle.covers" = true) (k29 : PySem.W.keepIn K (.ref f29) = true)
    {od30 an30 : Option Addr} {sl30 : Array (Option Value)} {oc30 kV30 dc30 pm30 cd30 ct30 : Value} {f30 : Addr}
    (a30 : PySem.W.findIn K (.ref gc_Circle) "standings" = some (some (.ref f30))) (i30 : PySem.W.isFn K (.ref f30) = true) (l30 : K.lookup f30 = some ⟨oc30, od30, .func (PySem.W.fnOf "standings" "Circle.standings" (defArgs s_Circle_standings) (defBody s_Circle_standings) (defScope s_Circle_standings) .none kV30 dc30 pm30 an30 cd30 ct30), sl30⟩) (c30 : PySem.W.codeIn K cd30 "Circle.standings" = true) (k30 : PySem.W.keepIn K (.ref f30) = true)
    {od31 an31 : Option Addr} {sl31 : Array (Option Value)} {oc31 kV31 dc31 pm31 cd31 ct31 : Value} {f31 : Addr}
    (a31 : PySem.W.findIn K (.ref gc_Circle) "unpaid" = some (some (.ref f31))) (i31 : PySem.W.isFn K (.ref f31) = true) (l31 : K.lookup f31 = some ⟨oc31, od31, .func (PySem.W.fnOf "unpaid" "Circle.unpaid" (defArgs s_Circle_unpaid) (defBody s_Circle_unpaid) (defScope s_Circle_unpaid) .none kV31 dc31 pm31 an31 cd31 ct31), sl31⟩) (c31 : PySem.W.codeIn K cd31 "Circle.unpaid" = true) (k31 : PySem.W.keepIn K (.ref f31) = true)
    {od32 an32 : Option Addr} {sl32 : Array (Option Value)} {oc32 kV32 dc32 pm32 cd32 ct32 : Value} {f32 : Addr}
    (a32 : PySem.W.findIn K (.ref gc_Circle) "refuse_lists" = some (some (.ref f32))) (i32 : PySem.W.isFn K (.ref f32) = true) (l32 : K.lookup f32 = some ⟨oc32, od32, .func (PySem.W.fnOf "refuse_lists" "Circle.refuse_lists" (defArgs s_Circle_refuse_lists) (defBody s_Circle_refuse_lists) (defScope s_Circle_refuse_lists) .none kV32 dc32 pm32 an32 cd32 ct32), sl32⟩) (c32 : PySem.W.codeIn K cd32 "Circle.refuse_lists" = true) (k32 : PySem.W.keepIn K (.ref f32) = true)
    {od33 an33 : Option Addr} {sl33 : Array (Option Value)} {oc33 kV33 dc33 pm33 cd33 ct33 : Value} {f33 : Addr}
    (a33 : PySem.W.findIn K (.ref gc_Circle) "let_fall" = some (some (.ref f33))) (i33 : PySem.W.isFn K (.ref f33) = true) (l33 : K.lookup f33 = some ⟨oc33, od33, .func (PySem.W.fnOf "let_fall" "Circle.let_fall" (defArgs s_Circle_let_fall) (defBody s_Circle_let_fall) (defScope s_Circle_let_fall) .none kV33 dc33 pm33 an33 cd33 ct33), sl33⟩) (c33 : PySem.W.codeIn K cd33 "Circle.let_fall" = true) (k33 : PySem.W.keepIn K (.ref f33) = true)
    {od34 an34 : Option Addr} {sl34 : Array (Option Value)} {oc34 kV34 dc34 pm34 cd34 ct34 : Value} {f34 : Addr}
    (a34 : PySem.W.findIn K (.ref gc_Circle) "leave_queue" = some (some (.ref f34))) (i34 : PySem.W.isFn K (.ref f34) = true) (l34 : K.lookup f34 = some ⟨oc34, od34, .func (PySem.W.fnOf "leave_queue" "Circle.leave_queue" (defArgs s_Circle_leave_queue) (defBody s_Circle_leave_queue) (defScope s_Circle_leave_queue) .none kV34 dc34 pm34 an34 cd34 ct34), sl34⟩) (c34 : PySem.W.codeIn K cd34 "Circle.leave_queue" = true) (k34 : PySem.W.keepIn K (.ref f34) = true)
    {od35 an35 : Option Addr} {sl35 : Array (Option Value)} {oc35 kV35 dc35 pm35 cd35 ct35 : Value} {f35 : Addr}
    (a35 : PySem.W.findIn K (.ref gc_Circle) "charge_pledges" = some (some (.ref f35))) (i35 : PySem.W.isFn K (.ref f35) = true) (l35 : K.lookup f35 = some ⟨oc35, od35, .func (PySem.W.fnOf "charge_pledges" "Circle.charge_pledges" (defArgs s_Circle_charge_pledges) (defBody s_Circle_charge_pledges) (defScope s_Circle_charge_pledges) .none kV35 dc35 pm35 an35 cd35 ct35), sl35⟩) (c35 : PySem.W.codeIn K cd35 "Circle.charge_pledges" = true) (k35 : PySem.W.keepIn K (.ref f35) = true)
    {od36 an36 : Option Addr} {sl36 : Array (Option Value)} {oc36 kV36 dc36 pm36 cd36 ct36 : Value} {f36 : Addr}
    (a36 : PySem.W.findIn K (.ref gc_Circle) "collect" = some (some (.ref f36))) (i36 : PySem.W.isFn K (.ref f36) = true) (l36 : K.lookup f36 = some ⟨oc36, od36, .func (PySem.W.fnOf "collect" "Circle.collect" (defArgs s_Circle_collect) (defBody s_Circle_collect) (defScope s_Circle_collect) .none kV36 dc36 pm36 an36 cd36 ct36), sl36⟩) (c36 : PySem.W.codeIn K cd36 "Circle.collect" = true) (k36 : PySem.W.keepIn K (.ref f36) = true)
    {od37 an37 : Option Addr} {sl37 : Array (Option Value)} {oc37 kV37 dc37 pm37 cd37 ct37 : Value} {f37 : Addr}
    (a37 : PySem.W.findIn K (.ref gc_Circle) "rest" = some (some (.ref f37))) (i37 : PySem.W.isFn K (.ref f37) = true) (l37 : K.lookup f37 = some ⟨oc37, od37, .func (PySem.W.fnOf "rest" "Circle.rest" (defArgs s_Circle_rest) (defBody s_Circle_rest) (defScope s_Circle_rest) .none kV37 dc37 pm37 an37 cd37 ct37), sl37⟩) (c37 : PySem.W.codeIn K cd37 "Circle.rest" = true) (k37 : PySem.W.keepIn K (.ref f37) = true)
    {od38 an38 : Option Addr} {sl38 : Array (Option Value)} {oc38 kV38 dc38 pm38 cd38 ct38 : Value} {f38 : Addr}
    (a38 : PySem.W.findIn K (.ref gc_Circle) "draw" = some (some (.ref f38))) (i38 : PySem.W.isFn K (.ref f38) = true) (l38 : K.lookup f38 = some ⟨oc38, od38, .func (PySem.W.fnOf "draw" "Circle.draw" (defArgs s_Circle_draw) (defBody s_Circle_draw) (defScope s_Circle_draw) .none kV38 dc38 pm38 an38 cd38 ct38), sl38⟩) (c38 : PySem.W.codeIn K cd38 "Circle.draw" = true) (k38 : PySem.W.keepIn K (.ref f38) = true)
    {od39 an39 : Option Addr} {sl39 : Array (Option Value)} {oc39 kV39 dc39 pm39 cd39 ct39 : Value} {f39 : Addr}
    (a39 : PySem.W.findIn K (.ref gc_Circle) "best_bid" = some (some (.ref f39))) (i39 : PySem.W.isFn K (.ref f39) = true) (l39 : K.lookup f39 = some ⟨oc39, od39, .func (PySem.W.fnOf "best_bid" "Circle.best_bid" (defArgs s_Circle_best_bid) (defBody s_Circle_best_bid) (defScope s_Circle_best_bid) .none kV39 dc39 pm39 an39 cd39 ct39), sl39⟩) (c39 : PySem.W.codeIn K cd39 "Circle.best_bid" = true) (k39 : PySem.W.keepIn K (.ref f39) = true)
    {od40 an40 : Option Addr} {sl40 : Array (Option Value)} {oc40 kV40 dc40 pm40 cd40 ct40 : Value} {f40 : Addr}
    (a40 : PySem.W.nsIn K mainGlobals "refuse_opening" = some (some (.ref f40))) (l40 : K.lookup f40 = some ⟨oc40, od40, .func (PySem.W.fnOf "refuse_opening" "refuse_opening" (defArgs s_refuse_opening) (defBody s_refuse_opening) (defScope s_refuse_opening) .none kV40 dc40 pm40 an40 cd40 ct40), sl40⟩) (c40 : PySem.W.codeIn K cd40 "refuse_opening" = true) (k40 : PySem.W.keepIn K (.ref f40) = true)
    {od41 an41 : Option Addr} {sl41 : Array (Option Value)} {oc41 kV41 dc41 pm41 cd41 ct41 : Value} {f41 : Addr}
    (a41 : PySem.W.nsIn K mainGlobals "first_queue" = some (some (.ref f41))) (l41 : K.lookup f41 = some ⟨oc41, od41, .func (PySem.W.fnOf "first_queue" "first_queue" (defArgs s_first_queue) (defBody s_first_queue) (defScope s_first_queue) .none kV41 dc41 pm41 an41 cd41 ct41), sl41⟩) (c41 : PySem.W.codeIn K cd41 "first_queue" = true) (k41 : PySem.W.keepIn K (.ref f41) = true)
    {od42 an42 : Option Addr} {sl42 : Array (Option Value)} {oc42 kV42 dc42 pm42 cd42 ct42 : Value} {f42 : Addr}
    (a42 : PySem.W.nsIn K mainGlobals "_law_draws" = some (some (.ref f42))) (l42 : K.lookup f42 = some ⟨oc42, od42, .func (PySem.W.fnOf "_law_draws" "_law_draws" (defArgs s__law_draws) (defBody s__law_draws) (defScope s__law_draws) .none kV42 dc42 pm42 an42 cd42 ct42), sl42⟩) (c42 : PySem.W.codeIn K cd42 "_law_draws" = true) (k42 : PySem.W.keepIn K (.ref f42) = true)
    {od43 an43 : Option Addr} {sl43 : Array (Option Value)} {oc43 kV43 dc43 pm43 cd43 ct43 : Value} {f43 : Addr}
    (a43 : PySem.W.nsIn K mainGlobals "_law_same" = some (some (.ref f43))) (l43 : K.lookup f43 = some ⟨oc43, od43, .func (PySem.W.fnOf "_law_same" "_law_same" (defArgs s__law_same) (defBody s__law_same) (defScope s__law_same) .none kV43 dc43 pm43 an43 cd43 ct43), sl43⟩) (c43 : PySem.W.codeIn K cd43 "_law_same" = true) (k43 : PySem.W.keepIn K (.ref f43) = true)
    {od44 an44 : Option Addr} {sl44 : Array (Option Value)} {oc44 kV44 dc44 pm44 cd44 ct44 : Value} {f44 : Addr}
    (a44 : PySem.W.nsIn K mainGlobals "_law_perm" = some (some (.ref f44))) (l44 : K.lookup f44 = some ⟨oc44, od44, .func (PySem.W.fnOf "_law_perm" "_law_perm" (defArgs s__law_perm) (defBody s__law_perm) (defScope s__law_perm) .none kV44 dc44 pm44 an44 cd44 ct44), sl44⟩) (c44 : PySem.W.codeIn K cd44 "_law_perm" = true) (k44 : PySem.W.keepIn K (.ref f44) = true)
    {od45 an45 : Option Addr} {sl45 : Array (Option Value)} {oc45 kV45 dc45 pm45 cd45 ct45 : Value} {f45 : Addr}
    (a45 : PySem.W.nsIn K mainGlobals "_law_bits" = some (some (.ref f45))) (l45 : K.lookup f45 = some ⟨oc45, od45, .func (PySem.W.fnOf "_law_bits" "_law_bits" (defArgs s__law_bits) (defBody s__law_bits) (defScope s__law_bits) .none kV45 dc45 pm45 an45 cd45 ct45), sl45⟩) (c45 : PySem.W.codeIn K cd45 "_law_bits" = true) (k45 : PySem.W.keepIn K (.ref f45) = true)
    {od46 an46 : Option Addr} {sl46 : Array (Option Value)} {oc46 kV46 dc46 pm46 cd46 ct46 : Value} {f46 : Addr}
    (a46 : PySem.W.nsIn K mainGlobals "_law_paid" = some (some (.ref f46))) (l46 : K.lookup f46 = some ⟨oc46, od46, .func (PySem.W.fnOf "_law_paid" "_law_paid" (defArgs s__law_paid) (defBody s__law_paid) (defScope s__law_paid) .none kV46 dc46 pm46 an46 cd46 ct46), sl46⟩) (c46 : PySem.W.codeIn K cd46 "_law_paid" = true) (k46 : PySem.W.keepIn K (.ref f46) = true)
    {od47 an47 : Option Addr} {sl47 : Array (Option Value)} {oc47 kV47 dc47 pm47 cd47 ct47 : Value} {f47 : Addr}
    (a47 : PySem.W.nsIn K mainGlobals "_law_opening" = some (some (.ref f47))) (l47 : K.lookup f47 = some ⟨oc47, od47, .func (PySem.W.fnOf "_law_opening" "_law_opening" (defArgs s__law_opening) (defBody s__law_opening) (defScope s__law_opening) .none kV47 dc47 pm47 an47 cd47 ct47), sl47⟩) (c47 : PySem.W.codeIn K cd47 "_law_opening" = true) (k47 : PySem.W.keepIn K (.ref f47) = true)
    {od48 an48 : Option Addr} {sl48 : Array (Option Value)} {oc48 kV48 dc48 pm48 cd48 ct48 : Value} {f48 : Addr}
    (a48 : PySem.W.nsIn K mainGlobals "law" = some (some (.ref f48))) (l48 : K.lookup f48 = some ⟨oc48, od48, .func (PySem.W.fnOf "law" "law" (defArgs s_law) (defBody s_law) (defScope s_law) .none kV48 dc48 pm48 an48 cd48 ct48), sl48⟩) (c48 : PySem.W.codeIn K cd48 "law" = true) (k48 : PySem.W.keepIn K (.ref f48) = true)
    (pg_Ledger : PySem.W.plainGet K gc_Ledger Str.empty = true)
    (hd_Ledger : PySem.W.hasDictIn K gc_Ledger = true)
    (po_Ledger : PySem.W.plainOver K gc_Ledger = true)
    (sa_Ledger : PySem.W.findIn K (.ref gc_Ledger) "__setattr__" = some (some (.builtin "object.__setattr__")))
    (mi_Ledger : PySem.W.makesIn K gc_Ledger = true)
    (kc_Ledger : PySem.W.keepIn K (.ref gc_Ledger) = true)
    (na_Ledger_stake : PySem.W.findIn K (.ref gc_Ledger) "stake" = some none)
    (na_Ledger_pledges_left : PySem.W.findIn K (.ref gc_Ledger) "pledges_left" = some none)
    (na_Ledger_line : PySem.W.findIn K (.ref gc_Ledger) "line" = some none)
    (na_Ledger_bidding : PySem.W.findIn K (.ref gc_Ledger) "bidding" = some none)
    (na_Ledger_drawers : PySem.W.findIn K (.ref gc_Ledger) "drawers" = some none)
    (na_Ledger_open_round : PySem.W.findIn K (.ref gc_Ledger) "open_round" = some none)
    (na_Ledger_rests_due : PySem.W.findIn K (.ref gc_Ledger) "rests_due" = some none)
    (pg_Seat : PySem.W.plainGet K gc_Seat Str.empty = true)
    (hd_Seat : PySem.W.hasDictIn K gc_Seat = true)
    (po_Seat : PySem.W.plainOver K gc_Seat = true)
    (sa_Seat : PySem.W.findIn K (.ref gc_Seat) "__setattr__" = some (some (.builtin "object.__setattr__")))
    (mi_Seat : PySem.W.makesIn K gc_Seat = true)
    (kc_Seat : PySem.W.keepIn K (.ref gc_Seat) = true)
    (na_Seat_state : PySem.W.findIn K (.ref gc_Seat) "state" = some none)
    (na_Seat_since : PySem.W.findIn K (.ref gc_Seat) "since" = some none)
    (na_Seat_pledge : PySem.W.findIn K (.ref gc_Seat) "pledge" = some none)
    (na_Seat_given : PySem.W.findIn K (.ref gc_Seat) "given" = some none)
    (na_Seat_drawn : PySem.W.findIn K (.ref gc_Seat) "drawn" = some none)
    (na_Seat_shared : PySem.W.findIn K (.ref gc_Seat) "shared" = some none)
    (na_Seat_pledge_stakes : PySem.W.findIn K (.ref gc_Seat) "pledge_stakes" = some none)
    (pg_Circle : PySem.W.plainGet K gc_Circle Str.empty = true)
    (hd_Circle : PySem.W.hasDictIn K gc_Circle = true)
    (po_Circle : PySem.W.plainOver K gc_Circle = true)
    (sa_Circle : PySem.W.findIn K (.ref gc_Circle) "__setattr__" = some (some (.builtin "object.__setattr__")))
    (mi_Circle : PySem.W.makesIn K gc_Circle = true)
    (kc_Circle : PySem.W.keepIn K (.ref gc_Circle) = true)
    (na_Circle_line : PySem.W.findIn K (.ref gc_Circle) "line" = some none)
    (na_Circle_stake : PySem.W.findIn K (.ref gc_Circle) "stake" = some none)
    (na_Circle_first_pledges : PySem.W.findIn K (.ref gc_Circle) "first_pledges" = some none)
    (na_Circle_wishes : PySem.W.findIn K (.ref gc_Circle) "wishes" = some none)
    (na_Circle_bidding : PySem.W.findIn K (.ref gc_Circle) "bidding" = some none)
    (na_Circle_seats : PySem.W.findIn K (.ref gc_Circle) "seats" = some none)
    (na_Circle_open_round : PySem.W.findIn K (.ref gc_Circle) "open_round" = some none)
    (na_Circle_rests_due : PySem.W.findIn K (.ref gc_Circle) "rests_due" = some none)
    (na_Circle_chest : PySem.W.findIn K (.ref gc_Circle) "chest" = some none)
    (na_Circle_flows : PySem.W.findIn K (.ref gc_Circle) "flows" = some none)
    (z0 : PySem.W.nsIn K mainGlobals "abs" = some none)
    (z1 : PySem.W.nsIn K mainGlobals "all" = some none)
    (z2 : PySem.W.nsIn K mainGlobals "bool" = some none)
    (z3 : PySem.W.nsIn K mainGlobals "enumerate" = some none)
    (z4 : PySem.W.nsIn K mainGlobals "int" = some none)
    (z5 : PySem.W.nsIn K mainGlobals "isinstance" = some none)
    (z6 : PySem.W.nsIn K mainGlobals "len" = some none)
    (z7 : PySem.W.nsIn K mainGlobals "list" = some none)
    (z8 : PySem.W.nsIn K mainGlobals "max" = some none)
    (z9 : PySem.W.nsIn K mainGlobals "min" = some none)
    (z10 : PySem.W.nsIn K mainGlobals "range" = some none)
    (z11 : PySem.W.nsIn K mainGlobals "str" = some none)
    (z12 : PySem.W.nsIn K mainGlobals "tuple" = some none)
    (z13 : PySem.W.nsIn K mainGlobals "zip" = some none)
    {tk0 : Tok} (n0 : PySem.W.nsIn K mainGlobals "MOST_STAKE" = some (some (.int 1000000 tk0)))
    {tk1 : Tok} (n1 : PySem.W.nsIn K mainGlobals "LEAST_SEATS" = some (some (.int 2 tk1)))
    {tk2 : Tok} (n2 : PySem.W.nsIn K mainGlobals "MOST_SEATS" = some (some (.int 20 tk2)))
    {tk3 : Tok} (n3 : PySem.W.nsIn K mainGlobals "MOST_COINS" = some (some (.int 1000000000 tk3)))
    {tk4 : Tok} (n4 : PySem.W.nsIn K mainGlobals "WAITS" = some (some (.str "waits" tk4)))
    {tk5 : Tok} (n5 : PySem.W.nsIn K mainGlobals "DREW" = some (some (.str "drew" tk5)))
    {tk6 : Tok} (n6 : PySem.W.nsIn K mainGlobals "FELL" = some (some (.str "fell" tk6)))
    (cc0 : cd5 = .ref 51)
    (cc1 : cd6 = .ref 56)
    (cc2 : cd39 = .ref 430) :
    LamX.LawAtS l w K CX0 10 63 "_law_script" mg fa h := by
  have e := hfa.symm.trans (PySem.W.mg_of X G a48)
  cases e
  exact ⟨PySem.W.fnOf "law" "law" (defArgs s_law) (defBody s_law) (defScope s_law) .none kV48 dc48 pm48 an48 cd48 ct48, ([(51, 49), (56, 54), (430, 428)] : List (Addr × Addr)), spLaw K (top_mk X G g_Circle g_Seat g_Ledger a0 l0 c0 k0 a1 l1 c1 k1 a2 l2 c2 k2 a3 l3 c3 k3 a4 l4 c4 k4 a5 l5 c5 k5 a6 l6 c6 k6 a7 l7 c7 k7 a8 l8 c8 k8 a9 i9 l9 c9 k9 a10 i10 l10 c10 k10 a11 i11 l11 c11 k11 a12 i12 l12 c12 k12 a13 i13 l13 c13 k13 a14 i14 l14 c14 k14 a15 i15 l15 c15 k15 a16 l16 c16 k16 a17 l17 c17 k17 a18 i18 l18 c18 k18 a19 i19 l19 c19 k19 e19 a20 i20 l20 c20 k20 a21 i21 l21 c21 k21 a22 i22 l22 c22 k22 a23 i23 l23 c23 k23 a24 i24 l24 c24 k24 a25 i25 l25 c25 k25 a26 i26 l26 c26 k26 a27 i27 l27 c27 k27 a28 i28 l28 c28 k28 a29 i29 l29 c29 k29 a30 i30 l30 c30 k30 a31 i31 l31 c31 k31 a32 i32 l32 c32 k32 a33 i33 l33 c33 k33 a34 i34 l34 c34 k34 a35 i35 l35 c35 k35 a36 i36 l36 c36 k36 a37 i37 l37 c37 k37 a38 i38 l38 c38 k38 a39 i39 l39 c39 k39 a40 l40 c40 k40 a41 l41 c41 k41 a42 l42 c42 k42 a43 l43 c43 k43 a44 l44 c44 k44 a45 l45 c45 k45 a46 l46 c46 k46 a47 l47 c47 k47 a48 l48 c48 k48 pg_Ledger hd_Ledger po_Ledger sa_Ledger mi_Ledger kc_Ledger na_Ledger_stake na_Ledger_pledges_left na_Ledger_line na_Ledger_bidding na_Ledger_drawers na_Ledger_open_round na_Ledger_rests_due pg_Seat hd_Seat po_Seat sa_Seat mi_Seat kc_Seat na_Seat_state na_Seat_since na_Seat_pledge na_Seat_given na_Seat_drawn na_Seat_shared na_Seat_pledge_stakes pg_Circle hd_Circle po_Circle sa_Circle mi_Circle kc_Circle na_Circle_line na_Circle_stake na_Circle_first_pledges na_Circle_wishes na_Circle_bidding na_Circle_seats na_Circle_open_round na_Circle_rests_due na_Circle_chest na_Circle_flows z0 z1 z2 z3 z4 z5 z6 z7 z8 z9 z10 z11 z12 z13 n0 n1 n2 n3 n4 n5 n6 cc0 cc1 cc2).tabs, hT, nT, hC, fun s v => .of_eq rfl,
    fun H a ns hl _ hH hS => ⟨a, ns, rfl, hS, hl, (List.forall_mem_cons.mpr ⟨LamX.TabS.nil (hH (51, 49) List.mem_cons_self), (List.forall_mem_cons.mpr ⟨LamX.TabS.nil (hH (56, 54) (List.mem_cons_of_mem _ List.mem_cons_self)), (List.forall_mem_cons.mpr ⟨LamX.TabS.nil (hH (430, 428) (List.mem_cons_of_mem _ (List.mem_cons_of_mem _ List.mem_cons_self))), (fun _ h => nomatch h)⟩)⟩)⟩), fun _ => rfl⟩,
    fun base _ _ hB => ok_law (fun_mk (st := s_law) l48 c48 k48) (top_mk X G g_Circle g_Seat g_Ledger a0 l0 c0 k0 a1 l1 c1 k1 a2 l2 c2 k2 a3 l3 c3 k3 a4 l4 c4 k4 a5 l5 c5 k5 a6 l6 c6 k6 a7 l7 c7 k7 a8 l8 c8 k8 a9 i9 l9 c9 k9 a10 i10 l10 c10 k10 a11 i11 l11 c11 k11 a12 i12 l12 c12 k12 a13 i13 l13 c13 k13 a14 i14 l14 c14 k14 a15 i15 l15 c15 k15 a16 l16 c16 k16 a17 l17 c17 k17 a18 i18 l18 c18 k18 a19 i19 l19 c19 k19 e19 a20 i20 l20 c20 k20 a21 i21 l21 c21 k21 a22 i22 l22 c22 k22 a23 i23 l23 c23 k23 a24 i24 l24 c24 k24 a25 i25 l25 c25 k25 a26 i26 l26 c26 k26 a27 i27 l27 c27 k27 a28 i28 l28 c28 k28 a29 i29 l29 c29 k29 a30 i30 l30 c30 k30 a31 i31 l31 c31 k31 a32 i32 l32 c32 k32 a33 i33 l33 c33 k33 a34 i34 l34 c34 k34 a35 i35 l35 c35 k35 a36 i36 l36 c36 k36 a37 i37 l37 c37 k37 a38 i38 l38 c38 k38 a39 i39 l39 c39 k39 a40 l40 c40 k40 a41 l41 c41 k41 a42 l42 c42 k42 a43 l43 c43 k43 a44 l44 c44 k44 a45 l45 c45 k45 a46 l46 c46 k46 a47 l47 c47 k47 a48 l48 c48 k48 pg_Ledger hd_Ledger po_Ledger sa_Ledger mi_Ledger kc_Ledger na_Ledger_stake na_Ledger_pledges_left na_Ledger_line na_Ledger_bidding na_Ledger_drawers na_Ledger_open_round na_Ledger_rests_due pg_Seat hd_Seat po_Seat sa_Seat mi_Seat kc_Seat na_Seat_state na_Seat_since na_Seat_pledge na_Seat_given na_Seat_drawn na_Seat_shared na_Seat_pledge_stakes pg_Circle hd_Circle po_Circle sa_Circle mi_Circle kc_Circle na_Circle_line na_Circle_stake na_Circle_first_pledges na_Circle_wishes na_Circle_bidding na_Circle_seats na_Circle_open_round na_Circle_rests_due na_Circle_chest na_Circle_flows z0 z1 z2 z3 z4 z5 z6 z7 z8 z9 z10 z11 z12 z13 n0 n1 n2 n3 n4 n5 n6 cc0 cc1 cc2) (hB (51, 49) List.mem_cons_self) (hB (56, 54) (List.mem_cons_of_mem _ List.mem_cons_self)) (hB (430, 428) (List.mem_cons_of_mem _ (List.mem_cons_of_mem _ List.mem_cons_self)))⟩
end Su
open PySem PySem.W PyProof.Rows
set_option maxHeartbeats 0 in
theorem PySem.Challenge.cw_susu_k35_reports_let_by_holds : PySem.Challenge.rw_susu_k35_reports_let_by.Holds := by
  w_on; o_law; k_head; (case hw => w_witness2)
  k_fill
  refine LamX.walk_ofTs (l := PySem.Challenge.rw_susu_k35_reports_let_by) (n := 63) (k := 10) (x := "_law_script") (CX := fun _ => L2.CX0) rfl (by decide) rfl ⟨rfl, by decide, by decide⟩ (fun w h Y => PySem.W.km_in_of Y) ?F (fun _ _ _ _ _ h => h)
  case F =>
    intro w mg fa h Y KX G hmg
    have hT8 := PySem.W.km_tabs_of Y
    refine' Su.all_mk KX G hmg (List.forall_mem_cons.mpr ⟨hT8 49 (by simp), (List.forall_mem_cons.mpr ⟨hT8 54 (by simp), (List.forall_mem_cons.mpr ⟨hT8 428 (by simp), (fun _ h => nomatch h)⟩)⟩)⟩) (List.forall_mem_cons.mpr ⟨(show _ = none from by kernel_rfl), (List.forall_mem_cons.mpr ⟨(show _ = none from by kernel_rfl), (List.forall_mem_cons.mpr ⟨(show _ = none from by kernel_rfl), (fun _ h => nomatch h)⟩)⟩)⟩) (List.forall_mem_cons.mpr ⟨PySem.W.codeHd_of_K KX (by kernel_rfl), (List.forall_mem_cons.mpr ⟨PySem.W.codeHd_of_K KX (by kernel_rfl), (List.forall_mem_cons.mpr ⟨PySem.W.codeHd_of_K KX (by kernel_rfl), (fun _ h => nomatch h)⟩)⟩)⟩) ?g_Circle ?g_Seat ?g_Ledger ?a0 ?l0 ?c0 ?k0 ?a1 ?l1 ?c1 ?k1 ?a2 ?l2 ?c2 ?k2 ?a3 ?l3 ?c3 ?k3 ?a4 ?l4 ?c4 ?k4 ?a5 ?l5 ?c5 ?k5 ?a6 ?l6 ?c6 ?k6 ?a7 ?l7 ?c7 ?k7 ?a8 ?l8 ?c8 ?k8 ?a9 ?i9 ?l9 ?c9 ?k9 ?a10 ?i10 ?l10 ?c10 ?k10 ?a11 ?i11 ?l11 ?c11 ?k11 ?a12 ?i12 ?l12 ?c12 ?k12 ?a13 ?i13 ?l13 ?c13 ?k13 ?a14 ?i14 ?l14 ?c14 ?k14 ?a15 ?i15 ?l15 ?c15 ?k15 ?a16 ?l16 ?c16 ?k16 ?a17 ?l17 ?c17 ?k17 ?a18 ?i18 ?l18 ?c18 ?k18 ?a19 ?i19 ?l19 ?c19 ?k19 ?e19 ?a20 ?i20 ?l20 ?c20 ?k20 ?a21 ?i21 ?l21 ?c21 ?k21 ?a22 ?i22 ?l22 ?c22 ?k22 ?a23 ?i23 ?l23 ?c23 ?k23 ?a24 ?i24 ?l24 ?c24 ?k24 ?a25 ?i25 ?l25 ?c25 ?k25 ?a26 ?i26 ?l26 ?c26 ?k26 ?a27 ?i27 ?l27 ?c27 ?k27 ?a28 ?i28 ?l28 ?c28 ?k28 ?a29 ?i29 ?l29 ?c29 ?k29 ?a30 ?i30 ?l30 ?c30 ?k30 ?a31 ?i31 ?l31 ?c31 ?k31 ?a32 ?i32 ?l32 ?c32 ?k32 ?a33 ?i33 ?l33 ?c33 ?k33 ?a34 ?i34 ?l34 ?c34 ?k34 ?a35 ?i35 ?l35 ?c35 ?k35 ?a36 ?i36 ?l36 ?c36 ?k36 ?a37 ?i37 ?l37 ?c37 ?k37 ?a38 ?i38 ?l38 ?c38 ?k38 ?a39 ?i39 ?l39 ?c39 ?k39 ?a40 ?l40 ?c40 ?k40 ?a41 ?l41 ?c41 ?k41 ?a42 ?l42 ?c42 ?k42 ?a43 ?l43 ?c43 ?k43 ?a44 ?l44 ?c44 ?k44 ?a45 ?l45 ?c45 ?k45 ?a46 ?l46 ?c46 ?k46 ?a47 ?l47 ?c47 ?k47 ?a48 ?l48 ?c48 ?k48 ?pg_Ledger ?hd_Ledger ?po_Ledger ?sa_Ledger ?mi_Ledger ?kc_Ledger ?na_Ledger_stake ?na_Ledger_pledges_left ?na_Ledger_line ?na_Ledger_bidding ?na_Ledger_drawers ?na_Ledger_open_round ?na_Ledger_rests_due ?pg_Seat ?hd_Seat ?po_Seat ?sa_Seat ?mi_Seat ?kc_Seat ?na_Seat_state ?na_Seat_since ?na_Seat_pledge ?na_Seat_given ?na_Seat_drawn ?na_Seat_shared ?na_Seat_pledge_stakes ?pg_Circle ?hd_Circle ?po_Circle ?sa_Circle ?mi_Circle ?kc_Circle ?na_Circle_line ?na_Circle_stake ?na_Circle_first_pledges ?na_Circle_wishes ?na_Circle_bidding ?na_Circle_seats ?na_Circle_open_round ?na_Circle_rests_due ?na_Circle_chest ?na_Circle_flows ?z0 ?z1 ?z2 ?z3 ?z4 ?z5 ?z6 ?z7 ?z8 ?z9 ?z10 ?z11 ?z12 ?z13 ?n0 ?n1 ?n2 ?n3 ?n4 ?n5 ?n6 ?cc0 ?cc1 ?cc2
    (case g_Circle => k_is); (case g_Seat => k_is); (case g_Ledger => k_is); (case a0 => k_is); (case l0 => k_is); (case c0 => k_is); (case k0 => k_is); (case a1 => k_is); (case l1 => k_is); (case c1 => k_is); (case k1 => k_is); (case a2 => k_is); (case l2 => k_is); (case c2 => k_is); (case k2 => k_is); (case a3 => k_is); (case l3 => k_is); (case c3 => k_is); (case k3 => k_is); (case a4 => k_is); (case l4 => k_is); (case c4 => k_is); (case k4 => k_is); (case a5 => k_is); (case l5 => k_is); (case c5 => k_is); (case k5 => k_is); (case a6 => k_is); (case l6 => k_is); (case c6 => k_is); (case k6 => k_is); (case a7 => k_is); (case l7 => k_is); (case c7 => k_is); (case k7 => k_is); (case a8 => k_is); (case l8 => k_is); (case c8 => k_is); (case k8 => k_is); (case a9 => k_is); (case i9 => k_is); (case l9 => k_is); (case c9 => k_is); (case k9 => k_is); (case a10 => k_is); (case i10 => k_is); (case l10 => k_is); (case c10 => k_is); (case k10 => k_is); (case a11 => k_is); (case i11 => k_is); (case l11 => k_is); (case c11 => k_is); (case k11 => k_is); (case a12 => k_is); (case i12 => k_is); (case l12 => k_is); (case c12 => k_is); (case k12 => k_is); (case a13 => k_is); (case i13 => k_is); (case l13 => k_is); (case c13 => k_is); (case k13 => k_is); (case a14 => k_is); (case i14 => k_is); (case l14 => k_is); (case c14 => k_is); (case k14 => k_is); (case a15 => k_is); (case i15 => k_is); (case l15 => k_is); (case c15 => k_is); (case k15 => k_is); (case a16 => k_is); (case l16 => k_is); (case c16 => k_is); (case k16 => k_is); (case a17 => k_is); (case l17 => k_is); (case c17 => k_is); (case k17 => k_is); (case a18 => k_is); (case i18 => k_is); (case l18 => k_is); (case c18 => k_is); (case k18 => k_is); (case a19 => k_is); (case i19 => k_is); (case l19 => k_is); (case c19 => k_is); (case k19 => k_is); (case e19 => k_is); (case a20 => k_is); (case i20 => k_is); (case l20 => k_is); (case c20 => k_is); (case k20 => k_is); (case a21 => k_is); (case i21 => k_is); (case l21 => k_is); (case c21 => k_is); (case k21 => k_is); (case a22 => k_is); (case i22 => k_is); (case l22 => k_is); (case c22 => k_is); (case k22 => k_is); (case a23 => k_is); (case i23 => k_is); (case l23 => k_is); (case c23 => k_is); (case k23 => k_is); (case a24 => k_is); (case i24 => k_is); (case l24 => k_is); (case c24 => k_is); (case k24 => k_is); (case a25 => k_is); (case i25 => k_is); (case l25 => k_is); (case c25 => k_is); (case k25 => k_is); (case a26 => k_is); (case i26 => k_is); (case l26 => k_is); (case c26 => k_is); (case k26 => k_is); (case a27 => k_is); (case i27 => k_is); (case l27 => k_is); (case c27 => k_is); (case k27 => k_is); (case a28 => k_is); (case i28 => k_is); (case l28 => k_is); (case c28 => k_is); (case k28 => k_is); (case a29 => k_is); (case i29 => k_is); (case l29 => k_is); (case c29 => k_is); (case k29 => k_is); (case a30 => k_is); (case i30 => k_is); (case l30 => k_is); (case c30 => k_is); (case k30 => k_is); (case a31 => k_is); (case i31 => k_is); (case l31 => k_is); (case c31 => k_is); (case k31 => k_is); (case a32 => k_is); (case i32 => k_is); (case l32 => k_is); (case c32 => k_is); (case k32 => k_is); (case a33 => k_is); (case i33 => k_is); (case l33 => k_is); (case c33 => k_is); (case k33 => k_is); (case a34 => k_is); (case i34 => k_is); (case l34 => k_is); (case c34 => k_is); (case k34 => k_is); (case a35 => k_is); (case i35 => k_is); (case l35 => k_is); (case c35 => k_is); (case k35 => k_is); (case a36 => k_is); (case i36 => k_is); (case l36 => k_is); (case c36 => k_is); (case k36 => k_is); (case a37 => k_is); (case i37 => k_is); (case l37 => k_is); (case c37 => k_is); (case k37 => k_is); (case a38 => k_is); (case i38 => k_is); (case l38 => k_is); (case c38 => k_is); (case k38 => k_is); (case a39 => k_is); (case i39 => k_is); (case l39 => k_is); (case c39 => k_is); (case k39 => k_is); (case a40 => k_is); (case l40 => k_is); (case c40 => k_is); (case k40 => k_is); (case a41 => k_is); (case l41 => k_is); (case c41 => k_is); (case k41 => k_is); (case a42 => k_is); (case l42 => k_is); (case c42 => k_is); (case k42 => k_is); (case a43 => k_is); (case l43 => k_is); (case c43 => k_is); (case k43 => k_is); (case a44 => k_is); (case l44 => k_is); (case c44 => k_is); (case k44 => k_is); (case a45 => k_is); (case l45 => k_is); (case c45 => k_is); (case k45 => k_is); (case a46 => k_is); (case l46 => k_is); (case c46 => k_is); (case k46 => k_is); (case a47 => k_is); (case l47 => k_is); (case c47 => k_is); (case k47 => k_is); (case a48 => k_is); (case l48 => k_is); (case c48 => k_is); (case k48 => k_is); (case pg_Ledger => k_is); (case hd_Ledger => k_is); (case po_Ledger => k_is); (case sa_Ledger => k_is); (case mi_Ledger => k_is); (case kc_Ledger => k_is); (case na_Ledger_stake => k_is); (case na_Ledger_pledges_left => k_is); (case na_Ledger_line => k_is); (case na_Ledger_bidding => k_is); (case na_Ledger_drawers => k_is); (case na_Ledger_open_round => k_is); (case na_Ledger_rests_due => k_is); (case pg_Seat => k_is); (case hd_Seat => k_is); (case po_Seat => k_is); (case sa_Seat => k_is); (case mi_Seat => k_is); (case kc_Seat => k_is); (case na_Seat_state => k_is); (case na_Seat_since => k_is); (case na_Seat_pledge => k_is); (case na_Seat_given => k_is); (case na_Seat_drawn => k_is); (case na_Seat_shared => k_is); (case na_Seat_pledge_stakes => k_is); (case pg_Circle => k_is); (case hd_Circle => k_is); (case po_Circle => k_is); (case sa_Circle => k_is); (case mi_Circle => k_is); (case kc_Circle => k_is); (case na_Circle_line => k_is); (case na_Circle_stake => k_is); (case na_Circle_first_pledges => k_is); (case na_Circle_wishes => k_is); (case na_Circle_bidding => k_is); (case na_Circle_seats => k_is); (case na_Circle_open_round => k_is); (case na_Circle_rests_due => k_is); (case na_Circle_chest => k_is); (case na_Circle_flows => k_is); (case z0 => k_is); (case z1 => k_is); (case z2 => k_is); (case z3 => k_is); (case z4 => k_is); (case z5 => k_is); (case z6 => k_is); (case z7 => k_is); (case z8 => k_is); (case z9 => k_is); (case z10 => k_is); (case z11 => k_is); (case z12 => k_is); (case z13 => k_is); (case n0 => k_is); (case n1 => k_is); (case n2 => k_is); (case n3 => k_is); (case n4 => k_is); (case n5 => k_is); (case n6 => k_is); (case cc0 => rfl); (case cc1 => rfl); (case cc2 => rfl)

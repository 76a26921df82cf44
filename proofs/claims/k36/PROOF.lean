import PyProof.Rows.All
import Wide.All
import OpenK.AllK
import Wide.FinOn
import KE.KNestM
import KE.KLam
import KE.DataMinKey
import HandS.Nested
import HandS.EndTab
import HandS.Words
import HandS.ForMost
import HandS.WordsExc
import HandS.ExcOwn
import HandS.Exc
import HandS.Evl
import HandS.IsInst
import HandS.Wide
import HandS.Zip
import HandS.More
import KE.GoesEnumKw
import KE.GoesMore
import HandS.SortKw
import KE.KEqDeep
import HandS.Conv
import HandS.ExcIs
import HandS.Strs
import HandS.SetFor
import HandS.Set
import HandS.Iter
import HandS.Dict
import HandS.Comp
import HandS.Defaults
import HandS.Text
import HandS.Walk
import HandS.Star
import KE.KRevSl
import PySem.Challenge.RW_susu_k36_reports_judged
set_option Elab.async false
set_option linter.all false
set_option maxRecDepth 100000

namespace Su
open PySem PySem.Spec PyProof.Rows L2 Evl
/-! ### small rules over HandS.Evl -/
theorem CMul.l {i j : Int} (h1 : -(2 ^ 64) < i) (h2 : i < 2 ^ 64) : CMul i j := .inl ⟨h1, h2⟩
theorem CMul.r {i j : Int} (h1 : -(2 ^ 64) < j) (h2 : j < 2 ^ 64) : CMul i j := .inr ⟨h1, h2⟩
theorem rv_mod {H : Hp} {i j : Int} (h : 0 < j) : RV (rI (fun _ j => 0 < j) fun i j => .int (i % j)) (.int i) (.int j) H (.int (i % j)) := rv_I h
theorem rv_div {H : Hp} {i j : Int} (h : 0 < j) (h2 : j < 1073741824) : RV (rI CDiv fun i j => .int (i / j)) (.int i) (.int j) H (.int (i / j)) := rv_I ⟨h, h2⟩
theorem rv_mul {H : Hp} {i j : Int} (h : CMul i j) : RV (rI CMul fun i j => .int (i * j)) (.int i) (.int j) H (.int (i * j)) := rv_I h
theorem rv_pow {H : Hp} {i j : Int} (h : CPow i j) : RV (rI CPow fun i j => .int (i ^ j.toNat)) (.int i) (.int j) H (.int (i ^ j.toNat)) := rv_I h
theorem rv_p18 {H : Hp} : RV (rI CPow fun i j => .int (i ^ j.toNat)) (.int 10) (.int 18) H (.int (10 ^ 18)) := rv_I (C := CPow) (g := fun i j => .int (i ^ j.toNat)) ⟨by decide, by decide, by decide⟩
theorem rv_p12 {H : Hp} : RV (rI CPow fun i j => .int (i ^ j.toNat)) (.int 10) (.int 12) H (.int (10 ^ 12)) := rv_I (C := CPow) (g := fun i j => .int (i ^ j.toNat)) ⟨by decide, by decide, by decide⟩
theorem rv_p20 {H : Hp} : RV (rI CPow fun i j => .int (i ^ j.toNat)) (.int 10) (.int 20) H (.int (10 ^ 20)) := rv_I (C := CPow) (g := fun i j => .int (i ^ j.toNat)) ⟨by decide, by decide, by decide⟩
theorem rv_divW {H : Hp} {i j : Int} (h : CDivW i j) : RV (rI CDivW fun i j => .int (i / j)) (.int i) (.int j) H (.int (i / j)) := rv_I h
theorem rv_mulW {H : Hp} {i j : Int} (h : CMulW i j) : RV (rI CMulW fun i j => .int (i * j)) (.int i) (.int j) H (.int (i * j)) := rv_I h
theorem rc_abs {H : Hp} {i : Int} : RC (fun xs H Q => ∃ i, xs = [V.int i] ∧ Q (.int (if i < 0 then -i else i)) H) [.int i] H (.int (if i < 0 then -i else i)) := fun H1 _ _ q => ⟨i, rfl, q H1 (Ex.refl H1)⟩
theorem rc_max {H : Hp} {i j : Int} : RC (fun xs H Q => ∃ i j, xs = [V.int i, .int j] ∧ Q (.int (if j > i then j else i)) H) [.int i, .int j] H (.int (if j > i then j else i)) := fun H1 _ _ q => ⟨i, j, rfl, q H1 (Ex.refl H1)⟩
theorem rc_min {H : Hp} {i j : Int} : RC (fun xs H Q => ∃ i j, xs = [V.int i, .int j] ∧ Q (.int (if j < i then j else i)) H) [.int i, .int j] H (.int (if j < i then j else i)) := fun H1 _ _ q => ⟨i, j, rfl, q H1 (Ex.refl H1)⟩
theorem rc_len {K : PySem.W.Frag} {H : Hp} {p : Addr} {ys : List V} (h : SqL K H p ys ∨ SqT K H p ys) : RC (fun xs H Q => ∃ p ys, xs = [V.ref p] ∧ (SqL K H p ys ∨ SqT K H p ys) ∧ Q (.int ys.length) H) [.ref p] H (.int ys.length) :=
  fun H1 e _ q => ⟨p, ys, rfl, h.elim (fun h => .inl (ex_l e h)) (fun h => .inr (ex_t e h)), q H1 (Ex.refl H1)⟩
theorem rc_isi_int {K : PySem.W.Frag} {H : Hp} {i : Int} {n : String} {b : Bool} (h : kitB "int" n = some b) : RC (rIsi K) [.int i, .ty n] H (.bl b) :=
  fun H1 _ _ q => ⟨.int i, .ty n, .type "int", .type n, b, rfl, .ty n, .base (.int i), kit_ty h, q H1 (Ex.refl H1)⟩
theorem ex_g {H H' : Hp} {a : Addr} {o : HO} (e : Ex H H') (h : H a = some o) : H' a = some o := e a o h
theorem at_rows {rows : List Int} {z : Int} (h0 : 0 ≤ z) (h : z < rows.length) : atI (rows.map V.int) z = some (.int (rows.getD z.toNat 0)) := by
  have hz : z = ((z.toNat : Nat) : Int) := by omega
  have hl : z.toNat < rows.length := by omega
  refine at_of hz ?_
  rw [List.getElem?_map, List.getElem?_eq_getElem hl, List.getD_eq_getElem?_getD, List.getElem?_eq_getElem hl]
  rfl
theorem at4 {a b c d z : Int} (h0 : 0 ≤ z) (h : z < 4) : atI [V.int a, .int b, .int c, .int d] z = some (.int (if z = 0 then a else if z = 1 then b else if z = 2 then c else d)) := by
  have h4 : z = 0 ∨ z = 1 ∨ z = 2 ∨ z = 3 := by omega
  rcases h4 with rfl | rfl | rfl | rfl <;> rfl
theorem wm {i j : Int} (h1 : i.natAbs < 2 ^ 240) (h2 : j.natAbs < 2 ^ 240) : CMulW i j := wide_mul h1 h2 (by decide) (by decide) (by decide)
theorem wd {i j : Int} (h : 0 < j) (h2 : j.natAbs < 2 ^ 240) : CDivW i j := wide_div h h2 (by decide) (by decide)
theorem n400 {i : Int} {n : Int} (h1 : -n ≤ i) (h2 : i ≤ n) (h : n.toNat < 2 ^ 240) : i.natAbs < 2 ^ 240 := by omega
theorem n400' {i : Int} (h1 : -(10 ^ 70) ≤ i) (h2 : i ≤ 10 ^ 70) : i.natAbs < 2 ^ 240 := n400 h1 h2 (by decide)
theorem decT {p : Prop} [Decidable p] (h : p) {b : Bool} (e : decide p = b) : b = true := by rw [← e]; exact decide_eq_true h
abbrev vErr : List Value := [.type "ValueError", .type "Exception", .type "BaseException", .type "object"]
theorem ex_up {H : Hp} {p : Addr} {o' : HO} {H0 : Hp} (e : Ex H0 H) (hp : H0 p = none) : Ex H0 (upd H p o') := Ex.mut e hp
theorem seq_ne {K : PySem.W.Frag} {H H' : Hp} {a : Addr} {xs : List V} (e : Ex H H') (h : SqL K H a xs) : SqL K H' a xs := ex_l e h
/-- a def's call that hands back a new list of which something is known -/
def SpN (sp : Sp) (vs : List V) (H : Hp) (P : List V → Prop) : Prop := ∀ H1, Ex H H1 → ∀ Q : VK, (∀ xs p H2, P xs → H1 p = none → Ex H1 H2 → H2 p = some (.lst xs) → Q (.ref p) H2) → ∀ E : XK, sp vs H1 Q E
theorem q_callN {sp : Sp} {dvs vs : List V} {E : XK} {ta : TA} {σ : L2.St} {H : Hp} {i : Nat} {D : Ends} {tz : TS} {P : List V → Prop} (h : EvA ta σ H vs) (hs : SpN sp (vs ++ dvs) H P)
    (k : ∀ xs p H1, P xs → H p = none → Ex H H1 → H1 p = some (.lst xs) → tz D (σ.set i (some (.ref p))) H1) : tSeq (tAsg (tCall sp dvs E ta) (gName i)) tz D σ H :=
  h H (Ex.refl H) _ fun H1 e1 => hs H1 e1 _ (fun xs p H2 hP hp e2 h2 => k xs p H2 hP (fresh_back e1 hp) (e1.trans e2) h2) E
theorem s_callN {sp : Sp} {dvs vs : List V} {E : XK} {ta : TA} {σ : L2.St} {H : Hp} {i : Nat} {D : Ends} {P : List V → Prop} (h : EvA ta σ H vs) (hs : SpN sp (vs ++ dvs) H P)
    (k : ∀ xs p H1, P xs → H p = none → Ex H H1 → H1 p = some (.lst xs) → D.nx (σ.set i (some (.ref p))) H1) : tAsg (tCall sp dvs E ta) (gName i) D σ H :=
  h H (Ex.refl H) _ fun H1 e1 => hs H1 e1 _ (fun xs p H2 hP hp e2 h2 => k xs p H2 hP (fresh_back e1 hp) (e1.trans e2) h2) E
/-- .. whose first argument is a new list -/
theorem s_callN1 {sp : Sp} {dvs vs xs0 : List V} {E : XK} {te : TE} {tr : TA} {σ : L2.St} {H : Hp} {i : Nat} {D : Ends} {P : List V → Prop} (h1 : EvL te σ H xs0) (h2 : EvA tr σ H vs) (hs : ∀ p0 H1, Ex H H1 → H1 p0 = some (.lst xs0) → SpN sp (.ref p0 :: vs ++ dvs) H1 P)
    (k : ∀ xs p H1, P xs → H p = none → Ex H H1 → H1 p = some (.lst xs) → D.nx (σ.set i (some (.ref p))) H1) : tAsg (tCall sp dvs E (tCons te tr)) (gName i) D σ H :=
  h1 H (Ex.refl H) _ fun p0 H1 _ e1 hp0 => h2 H1 e1 _ fun H2 e2 => hs p0 H2 (e1.trans e2) (e2 _ _ hp0) H2 (Ex.refl H2) _ (fun xs p H3 hP hp e3 h3 => k xs p H3 hP (fresh_back (e1.trans e2) hp) ((e1.trans e2).trans e3) h3) E
theorem ev_callL {sp : Sp} {dvs vs xs0 : List V} {E : XK} {te : TE} {tr : TA} {σ : L2.St} {H : Hp} {z : V} (h1 : EvL te σ H xs0) (h2 : EvA tr σ H vs) (hs : ∀ p0 H1, Ex H H1 → H1 p0 = some (.lst xs0) → SpV sp (.ref p0 :: vs ++ dvs) H1 z) : Ev (tCall sp dvs E (tCons te tr)) σ H z := fun H0 e0 Q q =>
  h1 H0 e0 _ fun p0 H1 _ e1 hp0 => h2 H1 (e0.trans e1) _ fun H2 e2 => hs p0 H2 ((e0.trans e1).trans e2) (e2 _ _ hp0) H2 (Ex.refl H2) _ (fun H3 e3 => q H3 ((e1.trans e2).trans e3)) E
theorem cut_from (xs : List V) (k : Nat) : cutV xs (some (k : Int)) none = xs.drop k := by
  unfold cutV
  rw [HT.sIx_nat, HT.sIx_none]
  by_cases h : k ≤ xs.length
  · rw [Nat.min_eq_left h, List.take_of_length_le (by rw [List.length_drop]; omega)]
  · rw [Nat.min_eq_right (by omega), Nat.sub_self, List.take_zero, List.drop_of_length_le (by omega)]
theorem s_asgSub {l : Addr} {xs : List V} {z : Int} {j : Nat} {te ta tb : TE} {σ : L2.St} {H : Hp} {v : V} {D : Ends} (hl : H l = some (.lst xs)) (h : Ev te σ H v) (ho : Ev ta σ H (.ref l)) (hi : Ev tb σ H (.int z)) (hz : z = (j : Int)) (hj : j < xs.length)
    (k : ∀ H1, Ex H H1 → D.nx σ (upd H1 l (.lst (xs.set j v)))) : tAsg te (gSub ta tb rSetL) D σ H := s_setL hl h ho (hz ▸ hi) hj k
end Su
open PySem PySem.Spec PyProof.Rows L2 Evl Su
/-! ### small tactics: "ev" an expression, "et" a test, "ea" arguments, "rv" an operator, "rc" a built-in, "hc" a bound -/
local macro_rules | `(tactic| walk_at "hc") => `(tactic| first | assumption | omega | (exact Su.CMul.l (by omega) (by omega)) | (exact Su.CMul.r (by omega) (by omega)) | (exact Su.wm (Su.n400' (by omega) (by omega)) (Su.n400' (by omega) (by omega))) | (exact Su.wd (by omega) (Su.n400' (by omega) (by omega))) | decide)
local macro_rules | `(tactic| walk_at "rv") => `(tactic| first
  | (with_reducible exact rv_I0)
  | (with_reducible exact rv_eq rfl)
  | (with_reducible exact rv_ne rfl)
  | (with_reducible refine Su.rv_mod ?_; walk_at "hc")
  | (with_reducible refine Su.rv_div ?_ ?_ <;> walk_at "hc")
  | (with_reducible refine Su.rv_mul ?_; walk_at "hc")
  | exact Su.rv_p18
  | exact Su.rv_p12
  | exact Su.rv_p20
  | (with_reducible refine Su.rv_divW ?_; walk_at "hc")
  | (with_reducible refine Su.rv_mulW ?_; walk_at "hc")
  | (apply rv_ixL; (first | assumption | (exact sq_of (by assumption))); (first | (apply Su.at_rows <;> walk_at "hc") | rfl | assumption)))
local macro_rules | `(tactic| walk_at "rc") => `(tactic| first
  | exact Su.rc_abs
  | exact Su.rc_max
  | exact Su.rc_min
  | exact Su.rc_isi_int (b := true) (by decide +kernel)
  | exact Su.rc_isi_int (b := false) (by decide +kernel))
local macro_rules | `(tactic| walk_at "ea") => `(tactic| first
  | exact ea_nil
  | (apply ea_cons; (walk_at "ev"); (walk_at "ea")))
local macro_rules | `(tactic| walk_at "ev") => `(tactic| first
  | exact ev_c
  | exact ev_var rfl
  | (apply ev_op; (walk_at "ev"); (walk_at "ev"); (walk_at "rv"))
  | (apply ev_un; (walk_at "ev"); (exact ru_neg))
  | (apply ev_andV; (walk_at "ev"); (intro _; walk_at "ev"))
  | (apply ev_orV; (walk_at "ev"); (intro _; walk_at "ev"))
  | (apply ev_notV; (walk_at "ev"))
  | (apply ev_len; (walk_at "ev"); first | assumption | (exact sq_of (by assumption)))
  | (apply ev_cb; (walk_at "ea"); (walk_at "rc")))
local macro_rules | `(tactic| walk_at "et") => `(tactic| first
  | (apply et_and; (walk_at "et"); (intro _; walk_at "et"))
  | (apply et_or; (walk_at "et"); (intro _; walk_at "et"))
  | (apply et_not; (walk_at "et"))
  | (apply et_test; (walk_at "ev"))
  | (apply et_B; (walk_at "ev")))

open PySem PySem.Spec PyProof.Rows L2 Evl Su
namespace Su
def topS (i : Nat) : Stmt := PySem.Challenge.pw_susu_k36_reports_judged.main.body.getD i (.Pass ⟨0, 0, 0, 0⟩)
abbrev s_is_covered : Stmt := topS 1
abbrev N_is_covered : List Str := ["stake", "seats", "pledge", "turn"]
theorem sc_is_covered : FnScope N_is_covered ["stake", "seats", "pledge", "turn"] (defScope s_is_covered) := ⟨rfl, rfl, rfl, by decide +kernel, rfl, by decide +kernel, by decide +kernel⟩
abbrev s_Ledger___init__ : Stmt := inClass (topS 3) 0
abbrev N_Ledger___init__ : List Str := ["self", "stake", "pledges", "queue", "bidding"]
theorem sc_Ledger___init__ : FnScope N_Ledger___init__ ["self", "stake", "pledges", "queue", "bidding"] (defScope s_Ledger___init__) := ⟨rfl, rfl, rfl, by decide +kernel, rfl, by decide +kernel, by decide +kernel⟩
abbrev s_Ledger_follows : Stmt := inClass (topS 3) 1
abbrev N_Ledger_follows : List Str := ["self", "report", "turn", "kind", "drawer", "coins", "share", "fallen", "pledged", "at"]
theorem sc_Ledger_follows : FnScope N_Ledger_follows ["self", "report"] (defScope s_Ledger_follows) := ⟨rfl, rfl, rfl, by decide +kernel, rfl, by decide +kernel, by decide +kernel⟩
abbrev s_Ledger_pledge_can_pay : Stmt := inClass (topS 3) 2
abbrev N_Ledger_pledge_can_pay : List Str := ["self", "at"]
theorem sc_Ledger_pledge_can_pay : FnScope N_Ledger_pledge_can_pay ["self", "at"] (defScope s_Ledger_pledge_can_pay) := ⟨rfl, rfl, rfl, by decide +kernel, rfl, by decide +kernel, by decide +kernel⟩
abbrev s_Ledger_payers : Stmt := inClass (topS 3) 3
abbrev N_Ledger_payers : List Str := ["self", "fallen"]
theorem sc_Ledger_payers : FnScope N_Ledger_payers ["self", "fallen"] (defScope s_Ledger_payers) := ⟨rfl, rfl, rfl, by decide +kernel, rfl, by decide +kernel, by decide +kernel⟩
abbrev s_Ledger_can_draw : Stmt := inClass (topS 3) 4
abbrev N_Ledger_can_draw : List Str := ["self", "drawer", "share"]
theorem sc_Ledger_can_draw : FnScope N_Ledger_can_draw ["self", "drawer", "share"] (defScope s_Ledger_can_draw) := ⟨rfl, rfl, rfl, by decide +kernel, rfl, by decide +kernel, by decide +kernel⟩
abbrev s_Ledger_draw_coins : Stmt := inClass (topS 3) 5
abbrev N_Ledger_draw_coins : List Str := ["self", "share"]
theorem sc_Ledger_draw_coins : FnScope N_Ledger_draw_coins ["self", "share"] (defScope s_Ledger_draw_coins) := ⟨rfl, rfl, rfl, by decide +kernel, rfl, by decide +kernel, by decide +kernel⟩
abbrev s_Ledger_take_in : Stmt := inClass (topS 3) 6
abbrev N_Ledger_take_in : List Str := ["self", "report", "turn", "kind", "drawer", "coins", "share", "fallen", "pledged", "at"]
theorem sc_Ledger_take_in : FnScope N_Ledger_take_in ["self", "report"] (defScope s_Ledger_take_in) := ⟨rfl, rfl, rfl, by decide +kernel, rfl, by decide +kernel, by decide +kernel⟩
abbrev s_first_wrong : Stmt := topS 4
abbrev N_first_wrong : List Str := ["stake", "pledges", "queue", "bidding", "reports", "ledger", "number", "report"]
theorem sc_first_wrong : FnScope N_first_wrong ["stake", "pledges", "queue", "bidding", "reports"] (defScope s_first_wrong) := ⟨rfl, rfl, rfl, by decide +kernel, rfl, by decide +kernel, by decide +kernel⟩
abbrev s_grows : Stmt := topS 5
abbrev N_grows : List Str := ["row", "at"]
theorem sc_grows : FnScope N_grows ["row"] (defScope s_grows) := ⟨rfl, rfl, rfl, by decide +kernel, rfl, by decide +kernel, by decide +kernel⟩
abbrev s__law_draws : Stmt := topS 7
abbrev N__law_draws : List Str := ["_law_script", "_law_many", "_law_rows", "_law_mix", "_law_cell", "_law_rest"]
theorem sc__law_draws : FnScope N__law_draws ["_law_script", "_law_many"] (defScope s__law_draws) := ⟨rfl, rfl, rfl, by decide +kernel, rfl, by decide +kernel, by decide +kernel⟩
abbrev s__law_same : Stmt := topS 8
abbrev N__law_same : List Str := ["_law_told", "_law_due", "_law_one", "_law_other"]
theorem sc__law_same : FnScope N__law_same ["_law_told", "_law_due"] (defScope s__law_same) := ⟨rfl, rfl, rfl, by decide +kernel, rfl, by decide +kernel, by decide +kernel⟩
abbrev s__law_perm : Stmt := topS 9
abbrev N__law_perm : List Str := ["_law_some", "_law_size", "_law_row", "_law_at"]
theorem sc__law_perm : FnScope N__law_perm ["_law_some", "_law_size"] (defScope s__law_perm) := ⟨rfl, rfl, rfl, by decide +kernel, rfl, by decide +kernel, by decide +kernel⟩
abbrev s__law_opening : Stmt := topS 10
abbrev N__law_opening : List Str := ["_law_some", "_law_size", "_law_stake", "_law_pledges", "_law_wishes", "_law_at", "_law_number", "_law_rest"]
theorem sc__law_opening : FnScope N__law_opening ["_law_some", "_law_size", "_law_stake"] (defScope s__law_opening) := ⟨rfl, rfl, rfl, by decide +kernel, rfl, by decide +kernel, by decide +kernel⟩
abbrev s__law_grows : Stmt := topS 11
abbrev N__law_grows : List Str := ["_law_row", "_law_allowed", "_law_ahead", "_law_at"]
theorem sc__law_grows : FnScope N__law_grows ["_law_row", "_law_allowed"] (defScope s__law_grows) := ⟨rfl, rfl, rfl, by decide +kernel, rfl, by decide +kernel, by decide +kernel⟩
abbrev s__law_can : Stmt := topS 12
abbrev N__law_can : List Str := ["_law_book", "_law_report", "_law_stake", "_law_size", "_law_bidding", "_law_seen", "_law_waits", "_law_due", "_law_left", "_law_drew", "_law_at", "_law_still", "_law_unfallen"]
theorem sc__law_can : FnScope N__law_can ["_law_book", "_law_report"] (defScope s__law_can) := ⟨rfl, rfl, rfl, by decide +kernel, rfl, by decide +kernel, by decide +kernel⟩
abbrev s__law_after : Stmt := topS 13
abbrev N__law_after : List Str := ["_law_book", "_law_report", "_law_left", "_law_at", "_law_waits", "_law_drew", "_law_due"]
theorem sc__law_after : FnScope N__law_after ["_law_book", "_law_report"] (defScope s__law_after) := ⟨rfl, rfl, rfl, by decide +kernel, rfl, by decide +kernel, by decide +kernel⟩
abbrev s__law_free : Stmt := topS 14
abbrev N__law_free : List Str := ["_law_book", "_law_some", "_law_stake", "_law_size", "_law_bidding", "_law_seen", "_law_waits", "_law_due", "_law_left", "_law_drew", "_law_fallen", "_law_helped", "_law_still", "_law_unfallen", "_law_able", "_law_here", "_law_share", "_law_at"]
theorem sc__law_free : FnScope N__law_free ["_law_book", "_law_some"] (defScope s__law_free) := ⟨rfl, rfl, rfl, by decide +kernel, rfl, by decide +kernel, by decide +kernel⟩
abbrev s__law_spoilt : Stmt := topS 15
abbrev N__law_spoilt : List Str := ["_law_report", "_law_way", "_law_raw", "_law_size", "_law_row"]
theorem sc__law_spoilt : FnScope N__law_spoilt ["_law_report", "_law_way", "_law_raw", "_law_size"] (defScope s__law_spoilt) := ⟨rfl, rfl, rfl, by decide +kernel, rfl, by decide +kernel, by decide +kernel⟩
abbrev s__law_bent : Stmt := topS 16
abbrev N__law_bent : List Str := ["_law_reports", "_law_way", "_law_place", "_law_size"]
theorem sc__law_bent : FnScope N__law_bent ["_law_reports", "_law_way", "_law_place", "_law_size"] (defScope s__law_bent) := ⟨rfl, rfl, rfl, by decide +kernel, rfl, by decide +kernel, by decide +kernel⟩
abbrev s__law_first : Stmt := topS 17
abbrev N__law_first : List Str := ["_law_book", "_law_reports", "_law_number", "_law_report"]
theorem sc__law_first : FnScope N__law_first ["_law_book", "_law_reports"] (defScope s__law_first) := ⟨rfl, rfl, rfl, by decide +kernel, rfl, by decide +kernel, by decide +kernel⟩
abbrev s_law : Stmt := topS 18
abbrev N_law : List Str := ["_law_script", "_law_some", "_law_size", "_law_stake", "_law_bidding", "_law_pledges", "_law_queue", "_law_book", "_law_reports", "_law_way", "_law_place", "_law_turn", "_law_report", "_law_others", "_law_share", "_law_due", "_law_handed", "_law_lent", "_law_again", "_law_row"]
theorem sc_law : FnScope N_law ["_law_script"] (defScope s_law) := ⟨rfl, rfl, rfl, by decide +kernel, rfl, by decide +kernel, by decide +kernel⟩
/-- a def of the text, and a method -/
structure FnI (K : PySem.W.Frag) (x qual : Str) (st : Stmt) (ps : List Str) where
  f : Addr
  fd : FuncData
  F : Fun K x qual st f fd
  b : Binds K fd ps []
structure FnD (K : PySem.W.Frag) (x qual : Str) (st : Stmt) (ps : List Str) (dvs : List V) where
  f : Addr
  fd : FuncData
  F : FunD K x qual (defArgs st) (defBody st) (defScope st) dvs [] f fd
  b : Binds K fd ps []
  bd : ∃ ds, Vals dvs ds ∧ Binds K fd ps ds
structure MtI (K : PySem.W.Frag) (C : Addr) (x qual : Str) (st : Stmt) (ps : List Str) extends FnI K x qual st ps where
  mt : Meth K C x f
set_option maxHeartbeats 4000000 in
structure Top (K : PySem.W.Frag) (mg : Str → Option Value) where
  f_Ledger : Addr
  m_Ledger : mg "Ledger" = some (.ref f_Ledger)
  cl_Ledger : Cls K f_Ledger
  d_is_covered : FnI K "is_covered" "is_covered" s_is_covered ["stake", "seats", "pledge", "turn"]
  m_is_covered : mg "is_covered" = some (.ref d_is_covered.f)
  d_Ledger___init__ : FnI K "__init__" "Ledger.__init__" s_Ledger___init__ ["self", "stake", "pledges", "queue", "bidding"]
  d_Ledger_follows : MtI K f_Ledger "follows" "Ledger.follows" s_Ledger_follows ["self", "report"]
  d_Ledger_pledge_can_pay : MtI K f_Ledger "pledge_can_pay" "Ledger.pledge_can_pay" s_Ledger_pledge_can_pay ["self", "at"]
  d_Ledger_payers : MtI K f_Ledger "payers" "Ledger.payers" s_Ledger_payers ["self", "fallen"]
  d_Ledger_can_draw : MtI K f_Ledger "can_draw" "Ledger.can_draw" s_Ledger_can_draw ["self", "drawer", "share"]
  d_Ledger_draw_coins : MtI K f_Ledger "draw_coins" "Ledger.draw_coins" s_Ledger_draw_coins ["self", "share"]
  d_Ledger_take_in : MtI K f_Ledger "take_in" "Ledger.take_in" s_Ledger_take_in ["self", "report"]
  d_first_wrong : FnI K "first_wrong" "first_wrong" s_first_wrong ["stake", "pledges", "queue", "bidding", "reports"]
  m_first_wrong : mg "first_wrong" = some (.ref d_first_wrong.f)
  d_grows : FnI K "grows" "grows" s_grows ["row"]
  m_grows : mg "grows" = some (.ref d_grows.f)
  d__law_draws : FnI K "_law_draws" "_law_draws" s__law_draws ["_law_script", "_law_many"]
  m__law_draws : mg "_law_draws" = some (.ref d__law_draws.f)
  d__law_same : FnI K "_law_same" "_law_same" s__law_same ["_law_told", "_law_due"]
  m__law_same : mg "_law_same" = some (.ref d__law_same.f)
  d__law_perm : FnI K "_law_perm" "_law_perm" s__law_perm ["_law_some", "_law_size"]
  m__law_perm : mg "_law_perm" = some (.ref d__law_perm.f)
  d__law_opening : FnI K "_law_opening" "_law_opening" s__law_opening ["_law_some", "_law_size", "_law_stake"]
  m__law_opening : mg "_law_opening" = some (.ref d__law_opening.f)
  d__law_grows : FnI K "_law_grows" "_law_grows" s__law_grows ["_law_row", "_law_allowed"]
  m__law_grows : mg "_law_grows" = some (.ref d__law_grows.f)
  d__law_can : FnI K "_law_can" "_law_can" s__law_can ["_law_book", "_law_report"]
  m__law_can : mg "_law_can" = some (.ref d__law_can.f)
  d__law_after : FnI K "_law_after" "_law_after" s__law_after ["_law_book", "_law_report"]
  m__law_after : mg "_law_after" = some (.ref d__law_after.f)
  d__law_free : FnI K "_law_free" "_law_free" s__law_free ["_law_book", "_law_some"]
  m__law_free : mg "_law_free" = some (.ref d__law_free.f)
  d__law_spoilt : FnI K "_law_spoilt" "_law_spoilt" s__law_spoilt ["_law_report", "_law_way", "_law_raw", "_law_size"]
  m__law_spoilt : mg "_law_spoilt" = some (.ref d__law_spoilt.f)
  d__law_bent : FnI K "_law_bent" "_law_bent" s__law_bent ["_law_reports", "_law_way", "_law_place", "_law_size"]
  m__law_bent : mg "_law_bent" = some (.ref d__law_bent.f)
  d__law_first : FnI K "_law_first" "_law_first" s__law_first ["_law_book", "_law_reports"]
  m__law_first : mg "_law_first" = some (.ref d__law_first.f)
  d_law : FnI K "law" "law" s_law ["_law_script"]
  m_law : mg "law" = some (.ref d_law.f)
  mk_Ledger : Mk K f_Ledger d_Ledger___init__.f
  na_Ledger : ∀ x ∈ (["stake", "pledges_left", "line", "bidding", "drawers", "open_round", "rests_due"] : List Str), NoAttr K f_Ledger x
  m_abs : mg "abs" = none
  m_all : mg "all" = none
  m_bool : mg "bool" = none
  m_enumerate : mg "enumerate" = none
  m_int : mg "int" = none
  m_isinstance : mg "isinstance" = none
  m_len : mg "len" = none
  m_list : mg "list" = none
  m_max : mg "max" = none
  m_range : mg "range" = none
  m_sorted : mg "sorted" = none
  m_str : mg "str" = none
  m_tuple : mg "tuple" = none
  m_zip : mg "zip" = none
abbrev Top.f_is_covered {K : PySem.W.Frag} {mg : Str → Option Value} (T : Top K mg) : Addr := T.d_is_covered.f
abbrev Top.fd_is_covered {K : PySem.W.Frag} {mg : Str → Option Value} (T : Top K mg) : FuncData := T.d_is_covered.fd
theorem Top.F_is_covered {K : PySem.W.Frag} {mg : Str → Option Value} (T : Top K mg) : Fun K "is_covered" "is_covered" s_is_covered T.f_is_covered T.fd_is_covered := T.d_is_covered.F
theorem Top.b_is_covered {K : PySem.W.Frag} {mg : Str → Option Value} (T : Top K mg) : Binds K T.fd_is_covered ["stake", "seats", "pledge", "turn"] [] := T.d_is_covered.b
abbrev Top.f_Ledger___init__ {K : PySem.W.Frag} {mg : Str → Option Value} (T : Top K mg) : Addr := T.d_Ledger___init__.f
abbrev Top.fd_Ledger___init__ {K : PySem.W.Frag} {mg : Str → Option Value} (T : Top K mg) : FuncData := T.d_Ledger___init__.fd
theorem Top.F_Ledger___init__ {K : PySem.W.Frag} {mg : Str → Option Value} (T : Top K mg) : Fun K "__init__" "Ledger.__init__" s_Ledger___init__ T.f_Ledger___init__ T.fd_Ledger___init__ := T.d_Ledger___init__.F
theorem Top.b_Ledger___init__ {K : PySem.W.Frag} {mg : Str → Option Value} (T : Top K mg) : Binds K T.fd_Ledger___init__ ["self", "stake", "pledges", "queue", "bidding"] [] := T.d_Ledger___init__.b
abbrev Top.f_Ledger_follows {K : PySem.W.Frag} {mg : Str → Option Value} (T : Top K mg) : Addr := T.d_Ledger_follows.f
abbrev Top.fd_Ledger_follows {K : PySem.W.Frag} {mg : Str → Option Value} (T : Top K mg) : FuncData := T.d_Ledger_follows.fd
theorem Top.F_Ledger_follows {K : PySem.W.Frag} {mg : Str → Option Value} (T : Top K mg) : Fun K "follows" "Ledger.follows" s_Ledger_follows T.f_Ledger_follows T.fd_Ledger_follows := T.d_Ledger_follows.F
theorem Top.b_Ledger_follows {K : PySem.W.Frag} {mg : Str → Option Value} (T : Top K mg) : Binds K T.fd_Ledger_follows ["self", "report"] [] := T.d_Ledger_follows.b
theorem Top.mt_Ledger_follows {K : PySem.W.Frag} {mg : Str → Option Value} (T : Top K mg) : Meth K T.f_Ledger "follows" T.f_Ledger_follows := T.d_Ledger_follows.mt
abbrev Top.f_Ledger_pledge_can_pay {K : PySem.W.Frag} {mg : Str → Option Value} (T : Top K mg) : Addr := T.d_Ledger_pledge_can_pay.f
abbrev Top.fd_Ledger_pledge_can_pay {K : PySem.W.Frag} {mg : Str → Option Value} (T : Top K mg) : FuncData := T.d_Ledger_pledge_can_pay.fd
theorem Top.F_Ledger_pledge_can_pay {K : PySem.W.Frag} {mg : Str → Option Value} (T : Top K mg) : Fun K "pledge_can_pay" "Ledger.pledge_can_pay" s_Ledger_pledge_can_pay T.f_Ledger_pledge_can_pay T.fd_Ledger_pledge_can_pay := T.d_Ledger_pledge_can_pay.F
theorem Top.b_Ledger_pledge_can_pay {K : PySem.W.Frag} {mg : Str → Option Value} (T : Top K mg) : Binds K T.fd_Ledger_pledge_can_pay ["self", "at"] [] := T.d_Ledger_pledge_can_pay.b
theorem Top.mt_Ledger_pledge_can_pay {K : PySem.W.Frag} {mg : Str → Option Value} (T : Top K mg) : Meth K T.f_Ledger "pledge_can_pay" T.f_Ledger_pledge_can_pay := T.d_Ledger_pledge_can_pay.mt
abbrev Top.f_Ledger_payers {K : PySem.W.Frag} {mg : Str → Option Value} (T : Top K mg) : Addr := T.d_Ledger_payers.f
abbrev Top.fd_Ledger_payers {K : PySem.W.Frag} {mg : Str → Option Value} (T : Top K mg) : FuncData := T.d_Ledger_payers.fd
theorem Top.F_Ledger_payers {K : PySem.W.Frag} {mg : Str → Option Value} (T : Top K mg) : Fun K "payers" "Ledger.payers" s_Ledger_payers T.f_Ledger_payers T.fd_Ledger_payers := T.d_Ledger_payers.F
theorem Top.b_Ledger_payers {K : PySem.W.Frag} {mg : Str → Option Value} (T : Top K mg) : Binds K T.fd_Ledger_payers ["self", "fallen"] [] := T.d_Ledger_payers.b
theorem Top.mt_Ledger_payers {K : PySem.W.Frag} {mg : Str → Option Value} (T : Top K mg) : Meth K T.f_Ledger "payers" T.f_Ledger_payers := T.d_Ledger_payers.mt
abbrev Top.f_Ledger_can_draw {K : PySem.W.Frag} {mg : Str → Option Value} (T : Top K mg) : Addr := T.d_Ledger_can_draw.f
abbrev Top.fd_Ledger_can_draw {K : PySem.W.Frag} {mg : Str → Option Value} (T : Top K mg) : FuncData := T.d_Ledger_can_draw.fd
theorem Top.F_Ledger_can_draw {K : PySem.W.Frag} {mg : Str → Option Value} (T : Top K mg) : Fun K "can_draw" "Ledger.can_draw" s_Ledger_can_draw T.f_Ledger_can_draw T.fd_Ledger_can_draw := T.d_Ledger_can_draw.F
theorem Top.b_Ledger_can_draw {K : PySem.W.Frag} {mg : Str → Option Value} (T : Top K mg) : Binds K T.fd_Ledger_can_draw ["self", "drawer", "share"] [] := T.d_Ledger_can_draw.b
theorem Top.mt_Ledger_can_draw {K : PySem.W.Frag} {mg : Str → Option Value} (T : Top K mg) : Meth K T.f_Ledger "can_draw" T.f_Ledger_can_draw := T.d_Ledger_can_draw.mt
abbrev Top.f_Ledger_draw_coins {K : PySem.W.Frag} {mg : Str → Option Value} (T : Top K mg) : Addr := T.d_Ledger_draw_coins.f
abbrev Top.fd_Ledger_draw_coins {K : PySem.W.Frag} {mg : Str → Option Value} (T : Top K mg) : FuncData := T.d_Ledger_draw_coins.fd
theorem Top.F_Ledger_draw_coins {K : PySem.W.Frag} {mg : Str → Option Value} (T : Top K mg) : Fun K "draw_coins" "Ledger.draw_coins" s_Ledger_draw_coins T.f_Ledger_draw_coins T.fd_Ledger_draw_coins := T.d_Ledger_draw_coins.F
theorem Top.b_Ledger_draw_coins {K : PySem.W.Frag} {mg : Str → Option Value} (T : Top K mg) : Binds K T.fd_Ledger_draw_coins ["self", "share"] [] := T.d_Ledger_draw_coins.b
theorem Top.mt_Ledger_draw_coins {K : PySem.W.Frag} {mg : Str → Option Value} (T : Top K mg) : Meth K T.f_Ledger "draw_coins" T.f_Ledger_draw_coins := T.d_Ledger_draw_coins.mt
abbrev Top.f_Ledger_take_in {K : PySem.W.Frag} {mg : Str → Option Value} (T : Top K mg) : Addr := T.d_Ledger_take_in.f
abbrev Top.fd_Ledger_take_in {K : PySem.W.Frag} {mg : Str → Option Value} (T : Top K mg) : FuncData := T.d_Ledger_take_in.fd
theorem Top.F_Ledger_take_in {K : PySem.W.Frag} {mg : Str → Option Value} (T : Top K mg) : Fun K "take_in" "Ledger.take_in" s_Ledger_take_in T.f_Ledger_take_in T.fd_Ledger_take_in := T.d_Ledger_take_in.F
theorem Top.b_Ledger_take_in {K : PySem.W.Frag} {mg : Str → Option Value} (T : Top K mg) : Binds K T.fd_Ledger_take_in ["self", "report"] [] := T.d_Ledger_take_in.b
theorem Top.mt_Ledger_take_in {K : PySem.W.Frag} {mg : Str → Option Value} (T : Top K mg) : Meth K T.f_Ledger "take_in" T.f_Ledger_take_in := T.d_Ledger_take_in.mt
abbrev Top.f_first_wrong {K : PySem.W.Frag} {mg : Str → Option Value} (T : Top K mg) : Addr := T.d_first_wrong.f
abbrev Top.fd_first_wrong {K : PySem.W.Frag} {mg : Str → Option Value} (T : Top K mg) : FuncData := T.d_first_wrong.fd
theorem Top.F_first_wrong {K : PySem.W.Frag} {mg : Str → Option Value} (T : Top K mg) : Fun K "first_wrong" "first_wrong" s_first_wrong T.f_first_wrong T.fd_first_wrong := T.d_first_wrong.F
theorem Top.b_first_wrong {K : PySem.W.Frag} {mg : Str → Option Value} (T : Top K mg) : Binds K T.fd_first_wrong ["stake", "pledges", "queue", "bidding", "reports"] [] := T.d_first_wrong.b
abbrev Top.f_grows {K : PySem.W.Frag} {mg : Str → Option Value} (T : Top K mg) : Addr := T.d_grows.f
abbrev Top.fd_grows {K : PySem.W.Frag} {mg : Str → Option Value} (T : Top K mg) : FuncData := T.d_grows.fd
theorem Top.F_grows {K : PySem.W.Frag} {mg : Str → Option Value} (T : Top K mg) : Fun K "grows" "grows" s_grows T.f_grows T.fd_grows := T.d_grows.F
theorem Top.b_grows {K : PySem.W.Frag} {mg : Str → Option Value} (T : Top K mg) : Binds K T.fd_grows ["row"] [] := T.d_grows.b
abbrev Top.f__law_draws {K : PySem.W.Frag} {mg : Str → Option Value} (T : Top K mg) : Addr := T.d__law_draws.f
abbrev Top.fd__law_draws {K : PySem.W.Frag} {mg : Str → Option Value} (T : Top K mg) : FuncData := T.d__law_draws.fd
theorem Top.F__law_draws {K : PySem.W.Frag} {mg : Str → Option Value} (T : Top K mg) : Fun K "_law_draws" "_law_draws" s__law_draws T.f__law_draws T.fd__law_draws := T.d__law_draws.F
theorem Top.b__law_draws {K : PySem.W.Frag} {mg : Str → Option Value} (T : Top K mg) : Binds K T.fd__law_draws ["_law_script", "_law_many"] [] := T.d__law_draws.b
abbrev Top.f__law_same {K : PySem.W.Frag} {mg : Str → Option Value} (T : Top K mg) : Addr := T.d__law_same.f
abbrev Top.fd__law_same {K : PySem.W.Frag} {mg : Str → Option Value} (T : Top K mg) : FuncData := T.d__law_same.fd
theorem Top.F__law_same {K : PySem.W.Frag} {mg : Str → Option Value} (T : Top K mg) : Fun K "_law_same" "_law_same" s__law_same T.f__law_same T.fd__law_same := T.d__law_same.F
theorem Top.b__law_same {K : PySem.W.Frag} {mg : Str → Option Value} (T : Top K mg) : Binds K T.fd__law_same ["_law_told", "_law_due"] [] := T.d__law_same.b
abbrev Top.f__law_perm {K : PySem.W.Frag} {mg : Str → Option Value} (T : Top K mg) : Addr := T.d__law_perm.f
abbrev Top.fd__law_perm {K : PySem.W.Frag} {mg : Str → Option Value} (T : Top K mg) : FuncData := T.d__law_perm.fd
theorem Top.F__law_perm {K : PySem.W.Frag} {mg : Str → Option Value} (T : Top K mg) : Fun K "_law_perm" "_law_perm" s__law_perm T.f__law_perm T.fd__law_perm := T.d__law_perm.F
theorem Top.b__law_perm {K : PySem.W.Frag} {mg : Str → Option Value} (T : Top K mg) : Binds K T.fd__law_perm ["_law_some", "_law_size"] [] := T.d__law_perm.b
abbrev Top.f__law_opening {K : PySem.W.Frag} {mg : Str → Option Value} (T : Top K mg) : Addr := T.d__law_opening.f
abbrev Top.fd__law_opening {K : PySem.W.Frag} {mg : Str → Option Value} (T : Top K mg) : FuncData := T.d__law_opening.fd
theorem Top.F__law_opening {K : PySem.W.Frag} {mg : Str → Option Value} (T : Top K mg) : Fun K "_law_opening" "_law_opening" s__law_opening T.f__law_opening T.fd__law_opening := T.d__law_opening.F
theorem Top.b__law_opening {K : PySem.W.Frag} {mg : Str → Option Value} (T : Top K mg) : Binds K T.fd__law_opening ["_law_some", "_law_size", "_law_stake"] [] := T.d__law_opening.b
abbrev Top.f__law_grows {K : PySem.W.Frag} {mg : Str → Option Value} (T : Top K mg) : Addr := T.d__law_grows.f
abbrev Top.fd__law_grows {K : PySem.W.Frag} {mg : Str → Option Value} (T : Top K mg) : FuncData := T.d__law_grows.fd
theorem Top.F__law_grows {K : PySem.W.Frag} {mg : Str → Option Value} (T : Top K mg) : Fun K "_law_grows" "_law_grows" s__law_grows T.f__law_grows T.fd__law_grows := T.d__law_grows.F
theorem Top.b__law_grows {K : PySem.W.Frag} {mg : Str → Option Value} (T : Top K mg) : Binds K T.fd__law_grows ["_law_row", "_law_allowed"] [] := T.d__law_grows.b
abbrev Top.f__law_can {K : PySem.W.Frag} {mg : Str → Option Value} (T : Top K mg) : Addr := T.d__law_can.f
abbrev Top.fd__law_can {K : PySem.W.Frag} {mg : Str → Option Value} (T : Top K mg) : FuncData := T.d__law_can.fd
theorem Top.F__law_can {K : PySem.W.Frag} {mg : Str → Option Value} (T : Top K mg) : Fun K "_law_can" "_law_can" s__law_can T.f__law_can T.fd__law_can := T.d__law_can.F
theorem Top.b__law_can {K : PySem.W.Frag} {mg : Str → Option Value} (T : Top K mg) : Binds K T.fd__law_can ["_law_book", "_law_report"] [] := T.d__law_can.b
abbrev Top.f__law_after {K : PySem.W.Frag} {mg : Str → Option Value} (T : Top K mg) : Addr := T.d__law_after.f
abbrev Top.fd__law_after {K : PySem.W.Frag} {mg : Str → Option Value} (T : Top K mg) : FuncData := T.d__law_after.fd
theorem Top.F__law_after {K : PySem.W.Frag} {mg : Str → Option Value} (T : Top K mg) : Fun K "_law_after" "_law_after" s__law_after T.f__law_after T.fd__law_after := T.d__law_after.F
theorem Top.b__law_after {K : PySem.W.Frag} {mg : Str → Option Value} (T : Top K mg) : Binds K T.fd__law_after ["_law_book", "_law_report"] [] := T.d__law_after.b
abbrev Top.f__law_free {K : PySem.W.Frag} {mg : Str → Option Value} (T : Top K mg) : Addr := T.d__law_free.f
abbrev Top.fd__law_free {K : PySem.W.Frag} {mg : Str → Option Value} (T : Top K mg) : FuncData := T.d__law_free.fd
theorem Top.F__law_free {K : PySem.W.Frag} {mg : Str → Option Value} (T : Top K mg) : Fun K "_law_free" "_law_free" s__law_free T.f__law_free T.fd__law_free := T.d__law_free.F
theorem Top.b__law_free {K : PySem.W.Frag} {mg : Str → Option Value} (T : Top K mg) : Binds K T.fd__law_free ["_law_book", "_law_some"] [] := T.d__law_free.b
abbrev Top.f__law_spoilt {K : PySem.W.Frag} {mg : Str → Option Value} (T : Top K mg) : Addr := T.d__law_spoilt.f
abbrev Top.fd__law_spoilt {K : PySem.W.Frag} {mg : Str → Option Value} (T : Top K mg) : FuncData := T.d__law_spoilt.fd
theorem Top.F__law_spoilt {K : PySem.W.Frag} {mg : Str → Option Value} (T : Top K mg) : Fun K "_law_spoilt" "_law_spoilt" s__law_spoilt T.f__law_spoilt T.fd__law_spoilt := T.d__law_spoilt.F
theorem Top.b__law_spoilt {K : PySem.W.Frag} {mg : Str → Option Value} (T : Top K mg) : Binds K T.fd__law_spoilt ["_law_report", "_law_way", "_law_raw", "_law_size"] [] := T.d__law_spoilt.b
abbrev Top.f__law_bent {K : PySem.W.Frag} {mg : Str → Option Value} (T : Top K mg) : Addr := T.d__law_bent.f
abbrev Top.fd__law_bent {K : PySem.W.Frag} {mg : Str → Option Value} (T : Top K mg) : FuncData := T.d__law_bent.fd
theorem Top.F__law_bent {K : PySem.W.Frag} {mg : Str → Option Value} (T : Top K mg) : Fun K "_law_bent" "_law_bent" s__law_bent T.f__law_bent T.fd__law_bent := T.d__law_bent.F
theorem Top.b__law_bent {K : PySem.W.Frag} {mg : Str → Option Value} (T : Top K mg) : Binds K T.fd__law_bent ["_law_reports", "_law_way", "_law_place", "_law_size"] [] := T.d__law_bent.b
abbrev Top.f__law_first {K : PySem.W.Frag} {mg : Str → Option Value} (T : Top K mg) : Addr := T.d__law_first.f
abbrev Top.fd__law_first {K : PySem.W.Frag} {mg : Str → Option Value} (T : Top K mg) : FuncData := T.d__law_first.fd
theorem Top.F__law_first {K : PySem.W.Frag} {mg : Str → Option Value} (T : Top K mg) : Fun K "_law_first" "_law_first" s__law_first T.f__law_first T.fd__law_first := T.d__law_first.F
theorem Top.b__law_first {K : PySem.W.Frag} {mg : Str → Option Value} (T : Top K mg) : Binds K T.fd__law_first ["_law_book", "_law_reports"] [] := T.d__law_first.b
abbrev Top.f_law {K : PySem.W.Frag} {mg : Str → Option Value} (T : Top K mg) : Addr := T.d_law.f
abbrev Top.fd_law {K : PySem.W.Frag} {mg : Str → Option Value} (T : Top K mg) : FuncData := T.d_law.fd
theorem Top.F_law {K : PySem.W.Frag} {mg : Str → Option Value} (T : Top K mg) : Fun K "law" "law" s_law T.f_law T.fd_law := T.d_law.F
theorem Top.b_law {K : PySem.W.Frag} {mg : Str → Option Value} (T : Top K mg) : Binds K T.fd_law ["_law_script"] [] := T.d_law.b
theorem Top.na_Ledger_stake {K : PySem.W.Frag} {mg : Str → Option Value} (T : Top K mg) : NoAttr K T.f_Ledger "stake" := T.na_Ledger _ (List.mem_cons_self)
theorem Top.na_Ledger_pledges_left {K : PySem.W.Frag} {mg : Str → Option Value} (T : Top K mg) : NoAttr K T.f_Ledger "pledges_left" := T.na_Ledger _ (List.mem_cons_of_mem _ (List.mem_cons_self))
theorem Top.na_Ledger_line {K : PySem.W.Frag} {mg : Str → Option Value} (T : Top K mg) : NoAttr K T.f_Ledger "line" := T.na_Ledger _ (List.mem_cons_of_mem _ (List.mem_cons_of_mem _ (List.mem_cons_self)))
theorem Top.na_Ledger_bidding {K : PySem.W.Frag} {mg : Str → Option Value} (T : Top K mg) : NoAttr K T.f_Ledger "bidding" := T.na_Ledger _ (List.mem_cons_of_mem _ (List.mem_cons_of_mem _ (List.mem_cons_of_mem _ (List.mem_cons_self))))
theorem Top.na_Ledger_drawers {K : PySem.W.Frag} {mg : Str → Option Value} (T : Top K mg) : NoAttr K T.f_Ledger "drawers" := T.na_Ledger _ (List.mem_cons_of_mem _ (List.mem_cons_of_mem _ (List.mem_cons_of_mem _ (List.mem_cons_of_mem _ (List.mem_cons_self)))))
theorem Top.na_Ledger_open_round {K : PySem.W.Frag} {mg : Str → Option Value} (T : Top K mg) : NoAttr K T.f_Ledger "open_round" := T.na_Ledger _ (List.mem_cons_of_mem _ (List.mem_cons_of_mem _ (List.mem_cons_of_mem _ (List.mem_cons_of_mem _ (List.mem_cons_of_mem _ (List.mem_cons_self))))))
theorem Top.na_Ledger_rests_due {K : PySem.W.Frag} {mg : Str → Option Value} (T : Top K mg) : NoAttr K T.f_Ledger "rests_due" := T.na_Ledger _ (List.mem_cons_of_mem _ (List.mem_cons_of_mem _ (List.mem_cons_of_mem _ (List.mem_cons_of_mem _ (List.mem_cons_of_mem _ (List.mem_cons_of_mem _ (List.mem_cons_self)))))))
end Su
namespace Su
/-! ### rules whose written part is named, for blocks -/
section
variable {X : Cx} {K : PySem.W.Frag}
theorem ix_listK (h : X.K = K := by rfl) : IxR X (rIxL K) := h ▸ ix_list
theorem ix_tupK (h : X.K = K := by rfl) : IxR X (rIxT K) := h ▸ ix_tup
theorem sl_listK (h : X.K = K := by rfl) : SlR X (rSlL K) := h ▸ sl_list
theorem call_len_seqK (h : X.K = K := by rfl) : CallR X (.builtin "len") (fun xs H Q => ∃ p ys, xs = [.ref p] ∧ (SqL K H p ys ∨ SqT K H p ys) ∧ Q (.int ys.length) H) := h ▸ call_len_seq
theorem op_in_seqK (h : X.K = K := by rfl) : OpR X (compareOp .In) (rIn K false) := h ▸ op_in_seq
theorem op_notIn_seqK (h : X.K = K := by rfl) : OpR X (compareOp .NotIn) (rIn K true) := h ▸ op_notIn_seq
theorem call_list_ofK (h : X.K = K := by rfl) : CallR X (.type "list") (fun xs H Q => ∃ p ys, xs = [.ref p] ∧ (SqL K H p ys ∨ SqT K H p ys) ∧ ∀ l, H l = none → Q (.ref l) (upd H l (.lst ys))) := h ▸ call_list_of
theorem call_isiK' (h : X.K = K := by rfl) : CallR X (.builtin "isinstance") (rIsi K) := h ▸ call_isi
end

end Su
namespace Su
theorem chain_le' {σ : L2.St} {H : Hp} {ta tb tc : TE} {a b c : Int} (h1 : Ev ta σ H (.int a)) (h2 : Ev tb σ H (.int b)) (h3 : Ev tc σ H (.int c)) :
    Ev (tChain (rI0 fun i j => .bl (decide (i ≤ j))) (rI0 fun i j => .bl (decide (i ≤ j))) ta tb tc) σ H (.bl (decide (a ≤ b) && decide (b ≤ c))) := fun H1 e Q q =>
  h1 H1 e _ fun H2 e2 => h2 H2 (e.trans e2) _ fun H3 e3 => ⟨a, b, rfl, rfl, decide (a ≤ b), rfl, by
    cases hd : decide (a ≤ b) with
    | true =>
      show tc σ H3 _
      exact h3 H3 ((e.trans e2).trans e3) _ fun H4 e4 => ⟨b, c, rfl, rfl, by rw [hd] at q; exact q H4 ((e2.trans e3).trans e4)⟩
    | false =>
      rw [hd] at q
      exact q H3 (e2.trans e3)⟩
theorem chain_le {σ : L2.St} {H : Hp} {ta tb tc : TE} {a b c : Int} (h1 : Ev ta σ H (.int a)) (h2 : Ev tb σ H (.int b)) (h3 : Ev tc σ H (.int c)) :
    EvT (tTest (tChain (rI0 fun i j => .bl (decide (i ≤ j))) (rI0 fun i j => .bl (decide (i ≤ j))) ta tb tc)) σ H (decide (a ≤ b) && decide (b ≤ c)) := fun H1 e Q q =>
  h1 H1 e _ fun H2 e2 => h2 H2 (e.trans e2) _ fun H3 e3 => ⟨a, b, rfl, rfl, decide (a ≤ b), rfl, by
    cases hd : decide (a ≤ b) with
    | true =>
      show tc σ H3 _
      exact h3 H3 ((e.trans e2).trans e3) _ fun H4 e4 => ⟨b, c, rfl, rfl, decide (b ≤ c), rfl, by rw [hd] at q; exact q H4 ((e2.trans e3).trans e4)⟩
    | false =>
      rw [hd] at q
      exact ⟨false, rfl, q H3 (e2.trans e3)⟩⟩
theorem et_chain {f g : Int → Int → Bool} {σ : L2.St} {H : Hp} {ta tb tc : TE} {a b c : Int} (h1 : Ev ta σ H (.int a)) (h2 : Ev tb σ H (.int b)) (h3 : Ev tc σ H (.int c)) :
    EvT (tTest (tChain (rI0 fun i j => .bl (f i j)) (rI0 fun i j => .bl (g i j)) ta tb tc)) σ H (f a b && g b c) := fun H1 e Q q =>
  h1 H1 e _ fun H2 e2 => h2 H2 (e.trans e2) _ fun H3 e3 => ⟨a, b, rfl, rfl, f a b, rfl, by
    cases hd : f a b with
    | true =>
      show tc σ H3 _
      exact h3 H3 ((e.trans e2).trans e3) _ fun H4 e4 => ⟨b, c, rfl, rfl, g b c, rfl, by rw [hd] at q; exact q H4 ((e2.trans e3).trans e4)⟩
    | false =>
      rw [hd] at q
      exact ⟨false, rfl, q H3 (e2.trans e3)⟩⟩

end Su
namespace Su
/-! ### the drawn numbers -/
def Rows (m : Nat) (rows : List Int) : Prop := m ≤ rows.length ∧ rows.length ≤ m + 63 ∧ ∀ x ∈ rows, -(10 ^ 18) < x ∧ x < 10 ^ 18
theorem Rows.add {rows : List Int} {x : Int} (h : ∀ x ∈ rows, -(10 ^ 18) < x ∧ x < 10 ^ 18) (h1 : -(10 ^ 18) < x) (h2 : x < 10 ^ 18) : ∀ y ∈ rows ++ [x], -(10 ^ 18) < y ∧ y < 10 ^ 18 := fun y hy => by
  rcases List.mem_append.mp hy with h' | h'
  · exact h y h'
  · obtain rfl := List.mem_singleton.mp h'
    exact ⟨h1, h2⟩
theorem Rows.get {m : Nat} {rows : List Int} (h : Rows m rows) (i : Nat) : -(10 ^ 18) < rows.getD i 0 ∧ rows.getD i 0 < 10 ^ 18 := by
  by_cases hi : i < rows.length
  · rw [List.getD_eq_getElem?_getD, List.getElem?_eq_getElem hi]
    exact h.2.2 _ (List.getElem_mem hi)
  · rw [List.getD_eq_getElem?_getD, List.getElem?_eq_none (by omega)]
    decide
section
variable {P : Program} {w : World} {K : PySem.W.Frag} {mg : Str → Option Value} {base : Heap}
def spDraws (K : PySem.W.Frag) : Sp := fun vs H Q _ => ∃ (a : Addr) (ns : List Int) (m : Nat), vs = [.ref a, .int (m : Int)] ∧ SqL K H a (ns.map V.int) ∧ ns.length ≤ 63 ∧ m ≤ 1000 ∧
  ∀ rows H' p, H p = none → Ex H H' → H' p = some (.lst (rows.map V.int)) → Rows m rows → Q (.ref p) H'
theorem spN_draws {K : PySem.W.Frag} {a : Addr} {ns : List Int} {m : Nat} {H : Hp} (hS : SqL K H a (ns.map V.int)) (hl : ns.length ≤ 63) (hm : m ≤ 1000) : SpN (spDraws K) [.ref a, .int (m : Int)] H (fun xs => ∃ rows : List Int, Rows m rows ∧ xs = rows.map V.int) :=
  fun H1 e Q q E => ⟨a, ns, m, rfl, ex_l e hS, hl, hm, fun rows H' p hp e' h' hr => q _ p H' ⟨rows, hr, rfl⟩ hp e' h'⟩
def DrI (H0 : Hp) (a p : Addr) (m i : Nat) (σ : L2.St) (H : Hp) : Prop := ∃ (rows : List Int) (mix : Int) (y4 y5 : Option V), σ = [some (.ref a), some (.int (m : Int)), some (.ref p), some (.int mix), y4, y5] ∧ Ex H0 H ∧ H p = some (.lst (rows.map V.int)) ∧
  rows.length ≤ m + i ∧ 0 ≤ mix ∧ mix < 2147483647 ∧ ∀ x ∈ rows, -(10 ^ 18) < x ∧ x < 10 ^ 18
theorem ok__law_draws {f : Addr} {fd : FuncData} {k : Nat} (F : Fun K "_law_draws" "_law_draws" s__law_draws f fd) (T : Top K mg) : FnOk P w K mg base CX0 (k + 1) f fd ["_law_script", "_law_many"] (spDraws K) := by
  have nd := sc__law_draws.nd
  refine F.ok sc__law_draws (fun vs H Q E h => ?_) (fun cdv A outer s H vs Q E hr h => ?_)
  · obtain ⟨a, ns, m, rfl, _⟩ := h
    rfl
  · obtain ⟨a, ns, m, rfl, hS, hlen, hm, q⟩ := h
    refine ⟨_, (pss_cons (ps_set (i := 2) nd rfl (.inl rfl) (pe_lst pa_nil))
      (pss_cons (ps_set (i := 3) nd rfl (.inl rfl) pe_int)
      (pss_cons (ps_for PassesOwn.never rfl (pi_list (pv 0)) (pg_name (i := 4) nd rfl (.inl rfl))
        (pss_cons (ps_set (i := 3) nd rfl (.inl rfl) (pe_op op_mod (pe_op op_add (pe_op op_mul (pv 3) pe_int) (pv 4)) pe_int))
          (pss_cons (ps_set (i := 5) nd rfl (.inl rfl) (pe_callB call_abs (by rfl) T.m_abs (by decide +kernel) (pa_cons (pv 4) pa_nil)))
          (pss_cons (ps_if (pt_cmpR op_lt (pv 5) (pe_op op_pow pe_int pe_int) (nomark _))
            (pss_cons (ps_expr (pe_bm PySem.F.plainAttrs_list PySem.F.slot_list_append PySem.F.type_list_append mt_append (pv 2) (pa_cons (pv 4) pa_nil)))
              (pss_one (ps_set (i := 5) nd rfl (.inl rfl) pe_int)))
            pss_nil)
          (pss_one (ps_while PassesOwn.never (PW.pt (pw_and (pt_cmpR op_gt (pv 5) pe_int (nomark _)) (pw_and1 (pt_cmpR op_lt (pe_callB call_len_seq (by rfl) T.m_len PySem.boot_len (pa_cons (pv 2) pa_nil)) (pv 1) (nomark _)))))
            (pss_cons (ps_expr (pe_bm PySem.F.plainAttrs_list PySem.F.slot_list_append PySem.F.type_list_append mt_append (pv 2) (pa_cons (pe_op op_mod (pv 5) pe_int) pa_nil)))
              (pss_one (ps_set (i := 5) nd rfl (.inl rfl) (pe_op op_fdiv (pv 5) pe_int))))))))))
      (pss_cons (ps_while PassesOwn.never (pt_cmpR op_lt (pe_callB call_len_seq (by rfl) T.m_len PySem.boot_len (pa_cons (pv 2) pa_nil)) (pv 1) (nomark _))
        (pss_cons (ps_set (i := 3) nd rfl (.inl rfl) (pe_op op_mod (pe_op op_add (pe_op op_mul (pv 3) pe_int) pe_int) pe_int))
          (pss_one (ps_expr (pe_bm PySem.F.plainAttrs_list PySem.F.slot_list_append PySem.F.type_list_append mt_append (pv 2) (pa_cons (pe_op op_mod (pe_op op_mul (pv 3) (pv 3)) pe_int) pa_nil))))))
      (pss_one (ps_ret (pv 2))))))), ?_⟩
    -- rows = []; mix = 1
    refine q_asgL (el_lst ea_nil (by decide)) fun p H1 hp e1 h1 => ?_
    have hS1 := ex_l e1 hS
    refine q_asg (by walk_at "ev") fun H2 e2 => ?_
    refine q_forL (by walk_at "ev") (ex_l e2 hS1) (DrI H a p m) ?_ ?_ ?_ ?_
    · intro H3 e3
      exact ⟨[], 1, none, none, rfl, (e1.trans e2).trans e3, e3 p _ (e2 p _ h1), Nat.zero_le _, by omega, by omega, fun x hx => by cases hx⟩
    · rintro i σ' H' _ ⟨rows, mix, y4, y5, rfl, ex, _⟩
      exact ex_l ex hS
    · rintro i x σ' H' hx ⟨rows, mix, y4, y5, rfl, ex, hr', hrl, m0, m1, hb⟩
      obtain ⟨c, rfl⟩ : ∃ c : Int, x = .int c := by
        rw [List.getElem?_map] at hx
        cases hc : ns[i]? with
        | none => rw [hc] at hx; cases hx
        | some c => rw [hc] at hx; exact ⟨c, (Option.some.inj hx).symm⟩
      have hi : i < 63 := by
        have := (List.getElem?_eq_some_iff.mp hx).1
        rw [List.length_map] at this
        omega
      refine q_asg (by walk_at "ev") fun H3 e3 => ?_
      have m0' := Int.emod_nonneg (mix * 31 + c) (show (2147483647 : Int) ≠ 0 by decide)
      have m1' := Int.emod_lt_of_pos (mix * 31 + c) (show (0 : Int) < 2147483647 by decide)
      generalize (mix * 31 + c) % 2147483647 = mix' at m0' m1' ⊢
      refine q_asg (by walk_at "ev") fun H4 e4 => ?_
      have hr4 := ex_g e4 (ex_g e3 hr')
      have ex4 := (ex.trans e3).trans e4
      have r0 : 0 ≤ (if c < 0 then -c else c) := by split <;> omega
      have rc : (if c < 0 then -c else c) < 10 ^ 18 → -(10 ^ 18) < c ∧ c < 10 ^ 18 := by split <;> omega
      generalize (if c < 0 then -c else c) = rest at r0 rc ⊢
      -- what stands behind the if: the while
      have hwh : ∀ (rows' : List Int) (rest' : Int) (y4' : Option V) (H5 : Hp), Ex H H5 → H5 p = some (.lst (rows'.map V.int)) → rows'.length ≤ m + (i + 1) → 0 ≤ rest' → (0 < rest' → rows'.length ≤ m + i) → (∀ x ∈ rows', -(10 ^ 18) < x ∧ x < 10 ^ 18) →
          ∀ (tc : TT) (tb : TS) (D : Ends), True → True := fun _ _ _ _ _ _ _ _ _ _ _ _ _ _ => trivial
      clear hwh
      refine q_when (by walk_at "et") (fun hb' H5 e5 => ?_) (fun hb' H5 e5 => ?_)
      · have hlt : rest < 10 ^ 18 := of_decide_eq_true hb'
        obtain ⟨c1, c2⟩ := rc hlt
        refine q_app (ex_g e5 hr4) (by walk_at "ev") (by walk_at "ev") (by rw [List.length_map]; omega) fun H6 e6 => ?_
        refine s_asg (by walk_at "ev") fun H7 e7 => ?_
        have hp7 : H7 p = some (.lst ((rows ++ [c]).map V.int)) := e7 p _ (by rw [upd_same, List.map_append]; rfl)
        have ex7 : Ex H H7 := (ex_up ((ex4.trans e5).trans e6) hp).trans e7
        refine s_while (fun n σ2 H2 => n = 0 ∧ σ2 = [some (.ref a), some (.int (m : Int)), some (.ref p), some (.int mix'), some (.int c), some (.int 0)] ∧ Ex H H2 ∧ H2 p = some (.lst ((rows ++ [c]).map V.int))) 0 ⟨rfl, rfl, ex7, hp7⟩ ?_
        rintro n σ2 H2 ⟨rfl, rfl, ex2, hp2⟩
        refine ⟨_, by walk_at "et", fun hb2 => ?_, fun hb2 H8 e8 => ?_⟩
        · simp at hb2
        · exact ⟨rows ++ [c], mix', _, _, rfl, ex2.trans e8, e8 p _ hp2, by rw [List.length_append]; show rows.length + 1 ≤ _; omega, m0', m1', Rows.add hb c1 c2⟩
      · refine s_while (fun n σ2 H2 => ∃ (rows' : List Int) (rest' : Int), σ2 = [some (.ref a), some (.int (m : Int)), some (.ref p), some (.int mix'), some (.int c), some (.int rest')] ∧ n = rest'.toNat ∧ Ex H H2 ∧ H2 p = some (.lst (rows'.map V.int)) ∧ rows'.length ≤ m + i ∧ 0 ≤ rest' ∧ ∀ x ∈ rows', -(10 ^ 18) < x ∧ x < 10 ^ 18) rest.toNat
          ⟨rows, rest, rfl, rfl, ex4.trans e5, ex_g e5 hr4, hrl, r0, hb⟩ ?_
        rintro n σ2 H2 ⟨rows', rest', rfl, rfl, ex2, hp2, hrl', r0', hb'⟩
        refine ⟨_, by walk_at "et", fun hb2 H8 e8 => ?_, fun hb2 H8 e8 => ?_⟩
        · have hb3 := Bool.and_eq_true_iff.mp hb2
          have hpos : 0 < rest' := of_decide_eq_true hb3.1
          have hlm : ((rows'.map V.int).length : Int) < m := of_decide_eq_true hb3.2
          rw [List.length_map] at hlm
          refine ⟨fun σ3 H3 => ∃ n', n' < rest'.toNat ∧ ∃ (rows' : List Int) (rest' : Int), σ3 = [some (.ref a), some (.int (m : Int)), some (.ref p), some (.int mix'), some (.int c), some (.int rest')] ∧ n' = rest'.toNat ∧ Ex H H3 ∧ H3 p = some (.lst (rows'.map V.int)) ∧ rows'.length ≤ m + i ∧ 0 ≤ rest' ∧ ∀ x ∈ rows', -(10 ^ 18) < x ∧ x < 10 ^ 18, fun _ _ h => h, ?_⟩
          refine q_app (ex_g e8 hp2) (by walk_at "ev") (by walk_at "ev") (by rw [List.length_map]; omega) fun H9 e9 => ?_
          refine s_asg (by walk_at "ev") fun H10 e10 => ?_
          have d0 := Int.emod_nonneg rest' (show (1000003 : Int) ≠ 0 by decide)
          have d1 := Int.emod_lt_of_pos rest' (show (0 : Int) < 1000003 by decide)
          refine ⟨(rest' / 1000003).toNat, by omega, rows' ++ [rest' % 1000003], rest' / 1000003, rfl, rfl, (ex_up ((ex2.trans e8).trans e9) hp).trans e10, e10 p _ (by rw [upd_same, List.map_append]; rfl), ?_, by omega, Rows.add hb' (by omega) (by omega)⟩
          rw [List.length_append]
          show rows'.length + 1 ≤ _
          omega
        · exact ⟨rows', mix', _, _, rfl, ex2.trans e8, e8 p _ hp2, by omega, m0', m1', hb'⟩
    · rintro σ' H' ⟨rows, mix, y4, y5, rfl, ex, hr', hrl, m0, m1, hb⟩
      rw [List.length_map] at hrl
      refine q_while (fun n σ2 H2 => ∃ (rows : List Int) (mix : Int), σ2 = [some (.ref a), some (.int (m : Int)), some (.ref p), some (.int mix), y4, y5] ∧ n = m - rows.length ∧ Ex H H2 ∧ H2 p = some (.lst (rows.map V.int)) ∧ rows.length ≤ m + 63 ∧ 0 ≤ mix ∧ mix < 2147483647 ∧ ∀ x ∈ rows, -(10 ^ 18) < x ∧ x < 10 ^ 18)
        (m - rows.length) ⟨rows, mix, rfl, rfl, ex, hr', by omega, m0, m1, hb⟩ ?_
      rintro n σ2 H2 ⟨rows, mix, rfl, rfl, ex, hr', hrl, m0, m1, hb⟩
      refine ⟨_, by walk_at "et", fun hb2 H8 e8 => ?_, fun hb2 H8 e8 => ?_⟩
      · have hlm : ((rows.map V.int).length : Int) < m := of_decide_eq_true hb2
        rw [List.length_map] at hlm
        refine ⟨fun σ3 H3 => ∃ n', n' < m - rows.length ∧ ∃ (rows : List Int) (mix : Int), σ3 = [some (.ref a), some (.int (m : Int)), some (.ref p), some (.int mix), y4, y5] ∧ n' = m - rows.length ∧ Ex H H3 ∧ H3 p = some (.lst (rows.map V.int)) ∧ rows.length ≤ m + 63 ∧ 0 ≤ mix ∧ mix < 2147483647 ∧ ∀ x ∈ rows, -(10 ^ 18) < x ∧ x < 10 ^ 18, fun _ _ h => h, ?_⟩
        refine q_asg (by walk_at "ev") fun H9 e9 => ?_
        have m0' := Int.emod_nonneg (mix * 48271 + 11) (show (2147483647 : Int) ≠ 0 by decide)
        have m1' := Int.emod_lt_of_pos (mix * 48271 + 11) (show (0 : Int) < 2147483647 by decide)
        generalize (mix * 48271 + 11) % 2147483647 = mix' at m0' m1' ⊢
        refine s_app (ex_g e9 (ex_g e8 hr')) (by walk_at "ev") (by walk_at "ev") (by rw [List.length_map]; omega) fun H10 e10 => ?_
        have d0 := Int.emod_nonneg (mix' * mix') (show (999983 : Int) ≠ 0 by decide)
        have d1 := Int.emod_lt_of_pos (mix' * mix') (show (0 : Int) < 999983 by decide)
        refine ⟨m - (rows.length + 1), by omega, rows ++ [mix' * mix' % 999983], mix', rfl, by rw [List.length_append]; rfl, ex_up (((ex.trans e8).trans e9).trans e10) hp, by rw [upd_same, List.map_append]; rfl, ?_, m0', m1', Rows.add hb (by omega) (by omega)⟩
        rw [List.length_append]
        show rows.length + 1 ≤ _
        omega
      · refine s_ret (by walk_at "ev") fun H9 e9 => ?_
        have hlm : ¬ ((rows.map V.int).length : Int) < m := of_decide_eq_false hb2
        rw [List.length_map] at hlm
        exact q rows H9 p hp ((ex.trans e8).trans e9) (e9 p _ (e8 p _ hr')) ⟨by omega, hrl, hb⟩
end

end Su
namespace Su
/-! ### comprehensions over enumerate and zip -/
def dropAt (H : Hp) (D : Addr) : Hp := fun b => if b = D then none else H b
theorem drop_ex {H : Hp} {D : Addr} : Ex (dropAt H D) H := fun a o e => by
  unfold dropAt at e
  split at e
  · cases e
  · exact e
theorem drop_self {H : Hp} {D : Addr} : dropAt H D D = none := by unfold dropAt; rw [if_pos rfl]
theorem drop_of {H : Hp} {D T : Addr} {o : HO} (e : H T = some o) (n : T ≠ D) : dropAt H D T = some o := by unfold dropAt; rw [if_neg n]; exact e
theorem ex_drop {H H1 : Hp} {D : Addr} (e : Ex H1 H) (n : H1 D = none) : Ex H1 (dropAt H D) := fun a o h => drop_of (e a o h) fun z => by rw [z, n] at h; cases h
theorem cw_turn2 {H H' Hb : Hp} {t : TT} {te : TE} {f : Nat → Bool} {v : Nat → V} {Dl : Addr} {i : Nat} {σ2 : L2.St} (p : Cw H f v Dl i H') (hi : i < 50000) (hb : Ex Hb H') (ht : EvT t σ2 Hb (f i)) (he : f i = true → Ev te σ2 Hb (v i)) :
    t σ2 H' fun b H3 => if b = true then te σ2 H3 fun y H4 => ∃ acc, H4 Dl = some (.lst acc) ∧ acc.length < sizeLine ∧ Cw H f v Dl (i + 1) (upd H4 Dl (.lst (acc ++ [y]))) else Cw H f v Dl (i + 1) H3 := by
  obtain ⟨p1, p2, p3⟩ := p
  refine ht H' hb _ fun H3 e3 => ?_
  cases hf : f i with
  | true =>
    show te σ2 H3 fun y H4 => ∃ acc, H4 Dl = some (.lst acc) ∧ acc.length < sizeLine ∧ Cw H f v Dl (i + 1) (upd H4 Dl (.lst (acc ++ [y])))
    refine he hf H3 (hb.trans e3) _ fun H4 e4 => ⟨given i f v, e4 Dl _ (e3 Dl _ p3), sz_lt (by have := given_len i f v; omega), p1, Ex.mut ((p2.trans e3).trans e4) p1, ?_⟩
    rw [given_yes hf]
    exact upd_same
  | false =>
    show Cw H f v Dl (i + 1) H3
    refine ⟨p1, p2.trans e3, ?_⟩
    rw [given_no hf]
    exact e3 Dl _ p3
theorem cw_ex {H H1 H2 : Hp} {f : Nat → Bool} {v : Nat → V} {Dl : Addr} {i : Nat} (p : Cw H f v Dl i H1) (e : Ex H1 H2) : Cw H f v Dl i H2 := ⟨p.1, p.2.1.trans e, e Dl _ p.2.2⟩
/-- what a target does with a value: from the slots s to s2 -/
def Tgt (g : TG) (x : V) (σ σ2 : L2.St) (H : Hp) : Prop := ∀ H2, Ex H H2 → ∀ Q : L2.St → Hp → Prop, Q σ2 H2 → g x σ H2 Q
theorem tg_name {i : Nat} {x : V} {σ : L2.St} {H : Hp} : Tgt (gName i) x σ (σ.set i (some x)) H := fun _ _ _ q => q
theorem tg_two {K : PySem.W.Frag} {g1 g2 : TG} {T : Addr} {x y : V} {σ σ1 σ2 : L2.St} {H : Hp} (h : SqT K H T [x, y]) (h1 : Tgt g1 x σ σ1 H) (h2 : Tgt g2 y σ1 σ2 H) : Tgt (gTup K 2 (gCons g1 (gCons g2 gNil))) (.ref T) σ σ2 H := fun H2 e Q q =>
  ⟨T, [x, y], rfl, ex_t e h, rfl, x, [y], rfl, h1 H2 e _ ⟨y, [], rfl, h2 H2 e _ ⟨rfl, q⟩⟩⟩
theorem tg_three {K : PySem.W.Frag} {g1 g2 g3 : TG} {T : Addr} {x y z : V} {σ σ1 σ2 σ3 : L2.St} {H : Hp} (h : SqT K H T [x, y, z]) (h1 : Tgt g1 x σ σ1 H) (h2 : Tgt g2 y σ1 σ2 H) (h3 : Tgt g3 z σ2 σ3 H) : Tgt (gTup K 3 (gCons g1 (gCons g2 (gCons g3 gNil)))) (.ref T) σ σ3 H := fun H2 e Q q =>
  ⟨T, [x, y, z], rfl, ex_t e h, rfl, x, [y, z], rfl, h1 H2 e _ ⟨y, [z], rfl, h2 H2 e _ ⟨z, [], rfl, h3 H2 e _ ⟨rfl, q⟩⟩⟩⟩
section
variable {K : PySem.W.Frag} {σ : L2.St} {H : Hp} {t : TT} {te : TE} {g : TG} {vs : List Nat} {a b : Addr} {xs ys : List V} {ta : TA}
theorem et_yes {σ : L2.St} {H : Hp} : EvT tYes σ H true := fun H1 _ _ q => q H1 (Ex.refl H1)
theorem el_lcLg {tl : TE} (f : Nat → Bool) (v : Nat → V) (h : Ev tl σ H (.ref a)) (hx : SqL K H a xs) (hz : xs.length ≤ 40000)
    (hs : ∀ (i : Nat) (x : V) Hb, Ex H Hb → xs[i]? = some x → ∃ σ2, Tgt g x (wipe σ vs) σ2 Hb ∧ wipe σ2 vs = wipe σ vs ∧ EvT t σ2 Hb (f i) ∧ (f i = true → Ev te σ2 Hb (v i))) :
    EvL (tLc (iList K tl) g t te vs) σ H (given xs.length f v) := fun H0 e Q q => h H0 e _ fun H1 e1 => ⟨a, rfl, ⟨xs, ex_l (e.trans e1) hx⟩, fun Dl hD =>
  lc_list (xs := xs) (Cw H1 f v Dl) ⟨hD, Ex.new hD, upd_same⟩ (fun i H' _ p => ex_l ((e.trans e1).trans p.2.1) hx) (fun i x H' hi p => by
    obtain ⟨σ2, h1, h2, h3, h4⟩ := hs i x H1 (e.trans e1) hi
    exact h1 H' p.2.1 _ ⟨h2, cw_turn2 p (by have := (List.getElem?_eq_some_iff.mp hi).1; omega) p.2.1 h3 h4⟩)
    (fun H' p => q Dl H' (fresh_back e1 p.1) (e1.trans p.2.1) p.2.2)⟩
theorem el_lcE (f : Nat → Bool) (v : Nat → V) (h : EvA ta σ H [.ref a]) (hx : SqL K H a xs) (hz : xs.length ≤ 40000)
    (hs : ∀ (i : Nat) (x : V) T Hb, Ex H Hb → xs[i]? = some x → Hb T = some (.tup [.int (i : Nat), x]) → ∃ σ2, Tgt g (.ref T) (wipe σ vs) σ2 Hb ∧ wipe σ2 vs = wipe σ vs ∧ EvT t σ2 Hb (f i) ∧ (f i = true → Ev te σ2 Hb (v i))) :
    EvL (tLc (iEnum K ta) g t te vs) σ H (given xs.length f v) := fun H0 e Q q => h H0 e _ fun H1 e1 => ⟨a, xs, rfl, ex_l (e.trans e1) hx, fun Dl hD => by
  refine ⟨fun i m H' => m = xs.length - i ∧ i ≤ xs.length ∧ Cw H1 f v Dl i H', ⟨xs.length, by simp, Nat.zero_le _, hD, Ex.new hD, upd_same⟩, ?_⟩
  rintro i m H' ⟨rfl, hi, p⟩
  have hX := ex_l ((e.trans e1).trans p.2.1) hx
  by_cases hlt : i < xs.length
  · refine .inr ⟨⟨xs, xs[i], hX, List.getElem?_eq_getElem hlt⟩, Cw H1 f v Dl (i + 1), fun H2 p' => ⟨xs.length - (i + 1), by omega, rfl, hlt, p'⟩, fun y H2 hy => ?_⟩
    obtain ⟨T, x, rfl, nT, rfl, hxx⟩ := hy
    have gi := hxx xs hX
    have eT : Ex H' (upd H' T (.tup [.int (i : Nat), x])) := Ex.new nT
    have hTD : T ≠ Dl := fun z => by rw [z, p.2.2] at nT; cases nT
    have p2 := cw_ex p eT
    obtain ⟨σ2, h1, h2, h3, h4⟩ := hs i x T (dropAt (upd H' T (.tup [.int (i : Nat), x])) Dl) (ex_drop (((e.trans e1).trans p.2.1).trans eT) (fresh_back (e.trans e1) p.1)) gi (drop_of upd_same hTD)
    exact h1 _ drop_ex _ ⟨h2, cw_turn2 p2 (by omega) drop_ex h3 h4⟩
  · have ei : i = xs.length := by omega
    subst ei
    exact .inl ⟨⟨xs, hX, Nat.le_refl _⟩, q Dl H' (fresh_back e1 p.1) (e1.trans p.2.1) p.2.2⟩⟩
theorem el_lcZ (f : Nat → Bool) (v : Nat → V) (h : EvA ta σ H [.ref a, .ref b]) (hx : SqL K H a xs) (hy : SqL K H b ys) (hl : xs.length = ys.length) (hz : xs.length ≤ 40000)
    (hs : ∀ (i : Nat) (x y : V) T Hb, Ex H Hb → xs[i]? = some x → ys[i]? = some y → Hb T = some (.tup [x, y]) → ∃ σ2, Tgt g (.ref T) (wipe σ vs) σ2 Hb ∧ wipe σ2 vs = wipe σ vs ∧ EvT t σ2 Hb (f i) ∧ (f i = true → Ev te σ2 Hb (v i))) :
    EvL (tLc (RZ.iZipA K ta) g t te vs) σ H (given xs.length f v) := fun H0 e Q q => h H0 e _ fun H1 e1 => ⟨a, b, xs, ys, rfl, .inl ⟨ex_l (e.trans e1) hx, ex_l (e.trans e1) hy, fun Dl hD => by
  refine ⟨fun i m H' => m = xs.length - i ∧ i ≤ xs.length ∧ Cw H1 f v Dl i H', ⟨xs.length, by simp, Nat.zero_le _, hD, Ex.new hD, upd_same⟩, ?_⟩
  rintro i m H' ⟨rfl, hi, p⟩
  have hX := ex_l ((e.trans e1).trans p.2.1) hx
  have hY := ex_l ((e.trans e1).trans p.2.1) hy
  by_cases hlt : i < xs.length
  · have hlt2 : i < ys.length := by omega
    refine .inr ⟨⟨xs, ys, xs[i], ys[i], hX, hY, List.getElem?_eq_getElem hlt, List.getElem?_eq_getElem hlt2⟩, Cw H1 f v Dl (i + 1), fun H2 p' => ⟨xs.length - (i + 1), by omega, rfl, hlt, p'⟩, fun z H2 hzz => ?_⟩
    obtain ⟨T, x, y, rfl, nT, rfl, hxx, hyy⟩ := hzz
    have eT : Ex H' (upd H' T (.tup [x, y])) := Ex.new nT
    have hTD : T ≠ Dl := fun z => by rw [z, p.2.2] at nT; cases nT
    have p2 := cw_ex p eT
    obtain ⟨σ2, h1, h2, h3, h4⟩ := hs i x y T (dropAt (upd H' T (.tup [x, y])) Dl) (ex_drop (((e.trans e1).trans p.2.1).trans eT) (fresh_back (e.trans e1) p.1)) (hxx xs hX) (hyy ys hY) (drop_of upd_same hTD)
    exact h1 _ drop_ex _ ⟨h2, cw_turn2 p2 (by omega) drop_ex h3 h4⟩
  · have ei : i = xs.length := by omega
    subst ei
    exact .inl ⟨⟨xs, ys, hX, hY, .inl (Nat.le_refl _)⟩, q Dl H' (fresh_back e1 p.1) (e1.trans p.2.1) p.2.2⟩⟩⟩
theorem el_lcZT (f : Nat → Bool) (v : Nat → V) (h : EvA ta σ H [.ref a, .ref b]) (hx : SqT K H a xs) (hy : SqT K H b ys) (hl : xs.length = ys.length) (hz : xs.length ≤ 40000)
    (hs : ∀ (i : Nat) (x y : V) T Hb, Ex H Hb → xs[i]? = some x → ys[i]? = some y → Hb T = some (.tup [x, y]) → ∃ σ2, Tgt g (.ref T) (wipe σ vs) σ2 Hb ∧ wipe σ2 vs = wipe σ vs ∧ EvT t σ2 Hb (f i) ∧ (f i = true → Ev te σ2 Hb (v i))) :
    EvL (tLc (RZ.iZipA K ta) g t te vs) σ H (given xs.length f v) := fun H0 e Q q => h H0 e _ fun H1 e1 => ⟨a, b, xs, ys, rfl, .inr ⟨ex_t (e.trans e1) hx, ex_t (e.trans e1) hy, fun Dl hD => by
  refine ⟨fun i m H' => m = xs.length - i ∧ i ≤ xs.length ∧ Cw H1 f v Dl i H', ⟨xs.length, by simp, Nat.zero_le _, hD, Ex.new hD, upd_same⟩, ?_⟩
  rintro i m H' ⟨rfl, hi, p⟩
  have hX := ex_t ((e.trans e1).trans p.2.1) hx
  have hY := ex_t ((e.trans e1).trans p.2.1) hy
  by_cases hlt : i < xs.length
  · have hlt2 : i < ys.length := by omega
    refine .inr ⟨⟨xs, ys, xs[i], ys[i], hX, hY, List.getElem?_eq_getElem hlt, List.getElem?_eq_getElem hlt2⟩, Cw H1 f v Dl (i + 1), fun H2 p' => ⟨xs.length - (i + 1), by omega, rfl, hlt, p'⟩, fun z H2 hzz => ?_⟩
    obtain ⟨T, x, y, rfl, nT, rfl, hxx, hyy⟩ := hzz
    have eT : Ex H' (upd H' T (.tup [x, y])) := Ex.new nT
    have hTD : T ≠ Dl := fun z => by rw [z, p.2.2] at nT; cases nT
    have p2 := cw_ex p eT
    obtain ⟨σ2, h1, h2, h3, h4⟩ := hs i x y T (dropAt (upd H' T (.tup [x, y])) Dl) (ex_drop (((e.trans e1).trans p.2.1).trans eT) (fresh_back (e.trans e1) p.1)) (hxx xs hX) (hyy ys hY) (drop_of upd_same hTD)
    exact h1 _ drop_ex _ ⟨h2, cw_turn2 p2 (by omega) drop_ex h3 h4⟩
  · have ei : i = xs.length := by omega
    subst ei
    exact .inl ⟨⟨xs, ys, hX, hY, .inl (Nat.le_refl _)⟩, q Dl H' (fresh_back e1 p.1) (e1.trans p.2.1) p.2.2⟩⟩⟩
end

end Su
namespace Su
/-! ### data as a whole: _law_same of two alike -/
mutual
theorem dp_ex {K : PySem.W.Frag} {H H' : Hp} (e : Ex H H') : ∀ {x : V} {d : PyData}, Dp K H x d → Dp K H' x d
  | _, _, .non => .non
  | _, _, .bl b => .bl b
  | _, _, .int i => .int i
  | _, _, .str x => .str x
  | _, _, .lst h1 h2 => .lst (ex_l e h1) (dpa_ex e h2)
  | _, _, .tup h1 h2 => .tup (ex_t e h1) (dpa_ex e h2)
theorem dpa_ex {K : PySem.W.Frag} {H H' : Hp} (e : Ex H H') : ∀ {xs : List V} {ds : List PyData}, DpAll K H xs ds → DpAll K H' xs ds
  | _, _, .nil => .nil
  | _, _, .cons h1 h2 => .cons (dp_ex e h1) (dpa_ex e h2)
end
theorem dpa_len {K : PySem.W.Frag} {H : Hp} : ∀ {xs : List V} {ds : List PyData}, DpAll K H xs ds → xs.length = ds.length
  | _, _, .nil => rfl
  | _, _, .cons _ h2 => by rw [List.length_cons, List.length_cons, dpa_len h2]
theorem dpa_get {K : PySem.W.Frag} {H : Hp} : ∀ {xs : List V} {ds : List PyData} {i : Nat} {x : V}, DpAll K H xs ds → xs[i]? = some x → ∃ d, ds[i]? = some d ∧ Dp K H x d
  | _, _, _, _, .nil, e => by simp at e
  | _, _, 0, _, .cons h _, e => by simp at e; subst e; exact ⟨_, rfl, h⟩
  | _, _, i + 1, x, .cons _ h2, e => by
    obtain ⟨d, h1, h3⟩ := dpa_get (i := i) (x := x) h2 (by simpa using e)
    exact ⟨d, by simpa using h1, h3⟩
theorem dpa_of {K : PySem.W.Frag} {H : Hp} {α : Type} (f : α → V) (g : α → PyData) : ∀ l : List α, (∀ a ∈ l, Dp K H (f a) (g a)) → DpAll K H (l.map f) (l.map g)
  | [], _ => .nil
  | a :: r, h => .cons (h a List.mem_cons_self) (dpa_of f g r fun b hb => h b (List.mem_cons_of_mem _ hb))
def tyN : PyData → String
  | .none => "NoneType" | .bool _ => "bool" | .int _ => "int" | .str _ => "str" | .list _ => "list" | .tuple _ => "tuple" | .dict _ => "dict"
theorem ty_dp {K : PySem.W.Frag} {H : Hp} {x : V} {d : PyData} (h : Dp K H x d) : TyX K H x (.type (tyN d)) := by
  cases h with
  | non => exact .base .non
  | bl b => exact .base (.bl b)
  | int i => exact .base (.int i)
  | str s => exact .base (.str s)
  | lst h1 _ =>
    rcases h1 with (h1 | ⟨o, h1⟩) | ⟨o, its, n, h1, h2, _⟩
    · exact .base (.lst h1)
    · exact .base (.frz h1)
    · exact .kList h1 h2
  | tup h1 _ =>
    rcases h1 with (h1 | ⟨o, h1⟩) | ⟨o, its, n, h1, h2, _⟩
    · exact .base (.tup h1)
    · exact .fTuple h1
    · exact .kTuple h1 h2
theorem rc_isi_dp {K : PySem.W.Frag} {H : Hp} {x : V} {d : PyData} {n : String} {b : Bool} (h : Dp K H x d) (hk : kitB (tyN d) n = some b) : RC (rIsi K) [x, .ty n] H (.bl b) :=
  fun H1 e _ q => ⟨x, .ty n, .type (tyN d), .type n, b, rfl, .ty n, ty_dp (dp_ex e h), kit_ty hk, q H1 (Ex.refl H1)⟩
theorem kit_tab {t m : String} (ht : t = "NoneType" ∨ t = "bool" ∨ t = "int" ∨ t = "str" ∨ t = "list" ∨ t = "tuple") (hm : m = "bool" ∨ m = "int" ∨ m = "list" ∨ m = "tuple" ∨ m = "str") : ∃ b, kitB t m = some b := by
  rcases ht with rfl | rfl | rfl | rfl | rfl | rfl <;> rcases hm with rfl | rfl | rfl | rfl | rfl <;> first | exact ⟨true, by decide +kernel⟩ | exact ⟨false, by decide +kernel⟩
/-- data of ints, texts, None, bools, lists and tuples, n deep -/
inductive PlD : Nat → PyData → Prop
  | non {n : Nat} : PlD n .none
  | bool {n : Nat} (b : Bool) : PlD n (.bool b)
  | int {n : Nat} (i : Int) : PlD n (.int i)
  | str {n : Nat} (x : Str) : PlD n (.str x)
  | list {n : Nat} {xs : List PyData} : xs.length ≤ 1000 → (∀ x ∈ xs, PlD n x) → PlD (n + 1) (.list xs)
  | tuple {n : Nat} {xs : List PyData} : xs.length ≤ 1000 → (∀ x ∈ xs, PlD n x) → PlD (n + 1) (.tuple xs)
theorem PlD.ty {n : Nat} {d : PyData} (h : PlD n d) : tyN d = "NoneType" ∨ tyN d = "bool" ∨ tyN d = "int" ∨ tyN d = "str" ∨ tyN d = "list" ∨ tyN d = "tuple" := by
  cases h <;> simp [tyN]
theorem given_all {n : Nat} {v : V} : given n (fun _ => true) (fun _ => v) = List.replicate n v := by
  induction n with
  | zero => rfl
  | succ n ih => rw [given_yes rfl, ih, List.replicate_succ']
theorem all_rep (n : Nat) : (List.replicate n true).all id = true := by
  induction n with
  | zero => rfl
  | succ n ih => rw [List.replicate_succ, List.all_cons, ih]; rfl
section
variable {P : Program} {w : World} {K : PySem.W.Frag} {mg : Str → Option Value} {base : Heap}
theorem ev_isi {σ : L2.St} {H : Hp} {ta tb : TE} {x : V} {d : PyData} {n : String} {b : Bool} (ha : Ev ta σ H x) (hb : Ev tb σ H (.ty n)) (h : Dp K H x d) (hk : kitB (tyN d) n = some b) : Ev (tCB (rIsi K) (tCons ta (tCons tb tNil))) σ H (.bl b) := ev_cb (ea_cons ha (ea_cons hb ea_nil)) (rc_isi_dp h hk)
theorem ev_allT {σ : L2.St} {H : Hp} {te : TE} {n : Nat} (h : EvL te σ H (List.replicate n (V.bl true))) : Ev (tCB (rAll K) (tCons te tNil)) σ H (.bl true) := fun H1 e Q q =>
  h H1 e _ fun p H2 _ e2 h2 => ⟨p, List.replicate n true, rfl, sq_of (by rw [List.map_replicate]; exact h2), by rw [all_rep]; exact q H2 e2⟩
theorem rv_sc {H : Hp} {x : V} (h : scal x x = true) : RV rEq x x H (.bl true) := fun H1 e Q q => ⟨h, by rw [decide_eq_true rfl]; exact q H1 (Ex.refl H1)⟩
theorem rv_neb {H : Hp} {b : Bool} : RV rNe (.bl b) (.bl b) H (.bl false) := fun H1 e Q q => ⟨by cases b <;> rfl, by rw [decide_eq_true rfl]; exact q H1 (Ex.refl H1)⟩
end

end Su
namespace Su
section
variable {P : Program} {w : World} {K : PySem.W.Frag} {mg : Str → Option Value} {base : Heap}
def spSame (K : PySem.W.Frag) (n : Nat) : Sp := fun vs H Q _ => ∃ (x y : V) (d : PyData), vs = [x, y] ∧ PlD n d ∧ Dp K H x d ∧ Dp K H y d ∧ ∀ H', Ex H H' → Q (.bl true) H'
def spPrev (K : PySem.W.Frag) : Nat → Sp
  | 0 => fun _ _ _ _ => False
  | n + 1 => spSame K n
theorem spV_same {n : Nat} {x y : V} {d : PyData} {H : Hp} (hp : PlD n d) (h1 : Dp K H x d) (h2 : Dp K H y d) : SpV (spSame K n) [x, y] H (.bl true) := fun H1 e Q q _ => ⟨x, y, d, rfl, hp, dp_ex e h1, dp_ex e h2, q⟩
end
section
variable {P : Program} {w : World} {K : PySem.W.Frag} {mg : Str → Option Value} {base : Heap}
theorem ok__law_same (T : Top K mg) : ∀ n : Nat, FnOk P w K mg base CX0 (n + 1) T.f__law_same T.fd__law_same ["_law_told", "_law_due"] (spSame K n) := fun n => by
  have G__law_same : FnOk P w K mg base CX0 n T.f__law_same T.fd__law_same ["_law_told", "_law_due"] (spPrev K n) := by
    cases n with
    | zero => exact ⟨fun _ _ _ _ h => h.elim, fun _ _ _ _ _ _ _ _ _ _ _ _ _ h => h.elim⟩
    | succ n => exact ok__law_same T n
  have nd := sc__law_same.nd
  refine T.F__law_same.ok sc__law_same (fun vs H Q E h => ?_) (fun cdv A outer s H vs Q E hr h => ?_)
  · obtain ⟨x, y, d, rfl, _⟩ := h
    rfl
  · obtain ⟨x, y, d, rfl, hp, hx, hy, q⟩ := h
    refine ⟨_, (pss_cons (ps_if (PW.pt (pw_or (pt_cmpR op_ne (pe_callB call_isi (by rfl) T.m_isinstance (by decide +kernel) (pa_cons (pv 0) (pa_cons (pe_bltn (v := .ty "bool") (by rfl) T.m_bool (by decide +kernel) rfl) pa_nil))) (pe_callB call_isi (by rfl) T.m_isinstance (by decide +kernel) (pa_cons (pv 1) (pa_cons (pe_bltn (v := .ty "bool") (by rfl) T.m_bool (by decide +kernel) rfl) pa_nil))) (nomark _)) (pw_or1 (pt_cmpR op_ne (pe_callB call_isi (by rfl) T.m_isinstance (by decide +kernel) (pa_cons (pv 0) (pa_cons (pe_bltn (v := .ty "int") (by rfl) T.m_int (by decide +kernel) rfl) pa_nil))) (pe_callB call_isi (by rfl) T.m_isinstance (by decide +kernel) (pa_cons (pv 1) (pa_cons (pe_bltn (v := .ty "int") (by rfl) T.m_int (by decide +kernel) rfl) pa_nil))) (nomark _)))))
        (pss_one (ps_ret pe_bl))
        pss_nil)
      (pss_cons (ps_if (PW.pt (pw_or (pt_cmpR op_ne (pe_callB call_isi (by rfl) T.m_isinstance (by decide +kernel) (pa_cons (pv 0) (pa_cons (pe_bltn (v := .ty "list") (by rfl) T.m_list (by decide +kernel) rfl) pa_nil))) (pe_callB call_isi (by rfl) T.m_isinstance (by decide +kernel) (pa_cons (pv 1) (pa_cons (pe_bltn (v := .ty "list") (by rfl) T.m_list (by decide +kernel) rfl) pa_nil))) (nomark _)) (pw_or1 (pt_cmpR op_ne (pe_callB call_isi (by rfl) T.m_isinstance (by decide +kernel) (pa_cons (pv 0) (pa_cons (pe_bltn (v := .ty "tuple") (by rfl) T.m_tuple (by decide +kernel) rfl) pa_nil))) (pe_callB call_isi (by rfl) T.m_isinstance (by decide +kernel) (pa_cons (pv 1) (pa_cons (pe_bltn (v := .ty "tuple") (by rfl) T.m_tuple (by decide +kernel) rfl) pa_nil))) (nomark _)))))
        (pss_one (ps_ret pe_bl))
        pss_nil)
      (pss_cons (ps_if (PW.pt (pw_and (pt_not (pt_val (pe_callB call_isi (by rfl) T.m_isinstance (by decide +kernel) (pa_cons (pv 1) (pa_cons (pe_bltn (v := .ty "list") (by rfl) T.m_list (by decide +kernel) rfl) pa_nil))))) (pw_and1 (pt_not (pt_val (pe_callB call_isi (by rfl) T.m_isinstance (by decide +kernel) (pa_cons (pv 1) (pa_cons (pe_bltn (v := .ty "tuple") (by rfl) T.m_tuple (by decide +kernel) rfl) pa_nil))))))))
        (pss_one (ps_ret (pe_and (pe_cmpR op_eq (pe_callB call_isi (by rfl) T.m_isinstance (by decide +kernel) (pa_cons (pv 0) (pa_cons (pe_bltn (v := .ty "str") (by rfl) T.m_str (by decide +kernel) rfl) pa_nil))) (pe_callB call_isi (by rfl) T.m_isinstance (by decide +kernel) (pa_cons (pv 1) (pa_cons (pe_bltn (v := .ty "str") (by rfl) T.m_str (by decide +kernel) rfl) pa_nil))) (nomark _)) (pe_one (pe_cmpR op_eq (pv 0) (pv 1) (nomark _))))))
        pss_nil)
      (pss_one (ps_ret (pe_and (pe_cmpR op_eq (pe_callB call_len_seq (by rfl) T.m_len PySem.boot_len (pa_cons (pv 0) pa_nil)) (pe_callB call_len_seq (by rfl) T.m_len PySem.boot_len (pa_cons (pv 1) pa_nil)) (nomark _)) (pe_one (pe_callB (cr_all rfl) (by rfl) T.m_all (by decide +kernel) (pa_cons (pe_lc (own := [("_law_one", 2), ("_law_other", 3)]) (g := gTup K 2 (gCons (gName 2) (gCons (gName 3) gNil))) (tt := tYes) rfl nd (RZ.pi_zipA (by rfl) T.m_zip (pa_cons (pv 0) (pa_cons (pv 1) pa_nil))) (blkOk_by (own := [("_law_one", 2), ("_law_other", 3)]) (N := Su.N__law_same) (sc := defScope s__law_same) (by decide +kernel)) (fun _ _ _ _ _ => (pg_tup rfl (pgs_cons (pg_name (i := 2) nd rfl (.inl rfl)) (pgs_cons (pg_name (i := 3) nd rfl (.inl rfl)) pgs_nil)))) (fun _ _ _ _ _ => pts_nil) (fun _ _ _ _ _ => (pe_call G__law_same hr (by rfl) T.m__law_same T.F__law_same.kp T.b__law_same .nil pass0 (pa_cons (pv 2) (pa_cons (pv 3) pa_nil))))) pa_nil))))))))), ?_⟩
    have kb := fun (m : String) hm => kit_tab (m := m) hp.ty hm
    obtain ⟨b1, k1⟩ := kb "bool" (by simp)
    obtain ⟨b2, k2⟩ := kb "int" (by simp)
    obtain ⟨b3, k3⟩ := kb "list" (by simp)
    obtain ⟨b4, k4⟩ := kb "tuple" (by simp)
    obtain ⟨b5, k5⟩ := kb "str" (by simp)
    refine q_when (b := false) ?_ (fun h => by cases h) fun _ H1 e1 => ?_
    · exact et_or (a := false) (b := false) (et_test (ev_op (ev_isi (ev_var rfl) ev_c hx k1) (ev_isi (ev_var rfl) ev_c hy k1) rv_neb)) fun _ => et_test (ev_op (ev_isi (ev_var rfl) ev_c hx k2) (ev_isi (ev_var rfl) ev_c hy k2) rv_neb)
    have hx := dp_ex e1 hx
    have hy := dp_ex e1 hy
    refine q_when (b := false) ?_ (fun h => by cases h) fun _ H2 e2 => ?_
    · exact et_or (a := false) (b := false) (et_test (ev_op (ev_isi (ev_var rfl) ev_c hx k3) (ev_isi (ev_var rfl) ev_c hy k3) rv_neb)) fun _ => et_test (ev_op (ev_isi (ev_var rfl) ev_c hx k4) (ev_isi (ev_var rfl) ev_c hy k4) rv_neb)
    have hx := dp_ex e2 hx
    have hy := dp_ex e2 hy
    refine q_when (et_and (et_not (et_B (ev_isi (ev_var rfl) ev_c hy k3))) fun _ => et_not (et_B (ev_isi (ev_var rfl) ev_c hy k4))) (fun hb H3 e3 => ?_) (fun hb H3 e3 => ?_)
    · -- no list, no tuple
      have hx := dp_ex e3 hx
      have hy := dp_ex e3 hy
      have hsc : scal x x = true ∧ x = y := by
        cases hp with
        | non => cases hx; cases hy; exact ⟨rfl, rfl⟩
        | bool b => cases hx; cases hy; exact ⟨rfl, rfl⟩
        | int i => cases hx; cases hy; exact ⟨rfl, rfl⟩
        | str s => cases hx; cases hy; exact ⟨rfl, rfl⟩
        | list _ _ =>
          have z : b3 = true := Option.some.inj (k3.symm.trans (show kitB "list" "list" = some true by decide +kernel))
          rw [z] at hb
          exact absurd hb (by cases b4 <;> decide)
        | tuple _ _ =>
          have z : b4 = true := Option.some.inj (k4.symm.trans (show kitB "tuple" "tuple" = some true by decide +kernel))
          rw [z, Bool.not_true, Bool.and_false] at hb
          exact absurd hb (by decide)
      obtain ⟨hsc, rfl⟩ := hsc
      refine s_ret (v := .bl (true && true)) (ev_andV (ev_op (ev_isi (ev_var rfl) ev_c hx k5) (ev_isi (ev_var rfl) ev_c hy k5) (rv_sc (by cases b5 <;> rfl))) fun _ => ev_op (ev_var rfl) (ev_var rfl) (rv_sc hsc)) fun H4 e4 => q H4 (((e1.trans e2).trans e3).trans e4)
    · have hx := dp_ex e3 hx
      have hy := dp_ex e3 hy
      have ex3 := (e1.trans e2).trans e3
      cases hp with
      | non => exact absurd hb (by rw [← Option.some.inj ((show kitB "NoneType" "list" = some false by decide +kernel).symm.trans k3), ← Option.some.inj ((show kitB "NoneType" "tuple" = some false by decide +kernel).symm.trans k4)]; decide)
      | bool b => exact absurd hb (by rw [← Option.some.inj ((show kitB "bool" "list" = some false by decide +kernel).symm.trans k3), ← Option.some.inj ((show kitB "bool" "tuple" = some false by decide +kernel).symm.trans k4)]; decide)
      | int i => exact absurd hb (by rw [← Option.some.inj ((show kitB "int" "list" = some false by decide +kernel).symm.trans k3), ← Option.some.inj ((show kitB "int" "tuple" = some false by decide +kernel).symm.trans k4)]; decide)
      | str z => exact absurd hb (by rw [← Option.some.inj ((show kitB "str" "list" = some false by decide +kernel).symm.trans k3), ← Option.some.inj ((show kitB "str" "tuple" = some false by decide +kernel).symm.trans k4)]; decide)
      | @list n ds hn hds =>
        cases hx with
        | @lst a xs _ hX aX => cases hy with
          | @lst b ys _ hY aY =>
            have lx := dpa_len aX
            have ly := dpa_len aY
            refine s_ret (v := .bl (true && true)) (ev_andV (ev_op (ev_cb (ea_cons (ev_var rfl) ea_nil) (rc_len (.inl hX))) (ev_cb (ea_cons (ev_var rfl) ea_nil) (rc_len (.inl hY))) ?_) fun _ => ev_allT (n := xs.length) ?_) fun H4 e4 => q H4 (ex3.trans e4)
            · rw [lx, ly]
              exact rv_sc rfl
            · rw [← given_all]
              refine el_lcZ _ _ (ea_cons (ev_var rfl) (ea_cons (ev_var rfl) ea_nil)) hX hY (by omega) (by omega) fun i x y Tt Hb eb gx gy hT => ?_
              obtain ⟨d1, g1, p1⟩ := dpa_get aX gx
              obtain ⟨d2, g2, p2⟩ := dpa_get aY gy
              obtain rfl : d1 = d2 := Option.some.inj (g1.symm.trans g2)
              refine ⟨_, tg_two (.inl (.inl hT)) tg_name tg_name, rfl, et_yes, fun _ => ?_⟩
              refine ev_call (ea_cons (ev_var rfl) (ea_cons (ev_var rfl) ea_nil)) ?_
              exact spV_same (hds d1 (List.mem_of_getElem? g1)) (dp_ex eb p1) (dp_ex eb p2)
      | @tuple n ds hn hds =>
        cases hx with
        | @tup a xs _ hX aX => cases hy with
          | @tup b ys _ hY aY =>
            have lx := dpa_len aX
            have ly := dpa_len aY
            refine s_ret (v := .bl (true && true)) (ev_andV (ev_op (ev_cb (ea_cons (ev_var rfl) ea_nil) (rc_len (.inr hX))) (ev_cb (ea_cons (ev_var rfl) ea_nil) (rc_len (.inr hY))) ?_) fun _ => ev_allT (n := xs.length) ?_) fun H4 e4 => q H4 (ex3.trans e4)
            · rw [lx, ly]
              exact rv_sc rfl
            · rw [← given_all]
              refine el_lcZT _ _ (ea_cons (ev_var rfl) (ea_cons (ev_var rfl) ea_nil)) hX hY (by omega) (by omega) fun i x y Tt Hb eb gx gy hT => ?_
              obtain ⟨d1, g1, p1⟩ := dpa_get aX gx
              obtain ⟨d2, g2, p2⟩ := dpa_get aY gy
              obtain rfl : d1 = d2 := Option.some.inj (g1.symm.trans g2)
              refine ⟨_, tg_two (.inl (.inl hT)) tg_name tg_name, rfl, et_yes, fun _ => ?_⟩
              refine ev_call (ea_cons (ev_var rfl) (ea_cons (ev_var rfl) ea_nil)) ?_
              exact spV_same (hds d1 (List.mem_of_getElem? g1)) (dp_ex eb p1) (dp_ex eb p2)
end

end Su
namespace Su
/-! ### own exceptions: X(), except .. as e, isinstance(e, ..) -/
section
variable {X : Cx} {C : Addr} {bmB : List Value} {B newId initId : String}
theorem pmk_own0 {x : Str} {p pos : Pos} (F : ExcBaseFacts B newId initId bmB) (q : PySem.W.excIn X.K C bmB newId = true) (gC : X.mg x = some (.ref C)) (kC : PySem.W.keepIn X.K (.ref C) = true) (r : Raises X (.ref C)) (hg : Gl X x)
    (hdb : (x == ("__debug__" : Str)) = false := by decide) : PMk X (.Call (.Name x p) [] [] pos) (fun _ H Q => Q (.ref C) none H) := by
  intro pins s σ H Q I h
  refine wpAny_Call_Name_kw (ld_glob I hg gC ?_ hdb)
  refine PySem.W.callWith_K0 I.kIn kC ?_
  obtain ⟨bm, N, nm, qn, bs, hdct, sn, sub, ab, col, dd, k0, k1, k2, k3, k5, mN, hC, hN, hni, T⟩ := exc_obj I.kIn q
  refine wpAny_call_exc_subT F T hC hN hni (fun h' e hm => ?_) (Nat.zero_le _)
  exact mk_of I hm r h (I.hok.gone hm.new)
theorem pss_ex {ι : Type} {Pi : ι → Prop} {st : List Stmt} {t : ι → TS} (h : ∀ i, Pi i → PSs X st (t i)) : PSs X st (fun D σ H => ∃ i, Pi i ∧ t i D σ H) := ⟨fun pins s σ H D I ⟨i, hp, ht⟩ => (h i hp).run pins s σ H D I ht⟩
end
theorem rc_isE {K : PySem.W.Frag} {D a C : Addr} {H : Hp} {b : Bool} (h : PySem.W.kitOne K (.ref D) (.ref C) = some b) : RC (rIsE K D a) [.ref a, .ref C] H (.bl b) := fun H1 _ _ q => ⟨.ref C, .ref C, b, rfl, fun _ r => r, h, q H1 (Ex.refl H1)⟩
theorem rc_isEt {K : PySem.W.Frag} {D a : Addr} {n : String} {H : Hp} {b : Bool} (h : PySem.W.kitOne K (.ref D) (.type n) = some b) : RC (rIsE K D a) [.ref a, .ty n] H (.bl b) := fun H1 _ _ q => ⟨.ty n, .type n, b, rfl, fun _ r => r, h, q H1 (Ex.refl H1)⟩
def boolD (bs : List Bool) : PyData := .list (bs.map .bool)
theorem dp_bools {K : PySem.W.Frag} {H : Hp} {l : Addr} {bs : List Bool} (hl : SqL K H l (bs.map V.bl)) : Dp K H (.ref l) (boolD bs) := .lst hl (dpa_of V.bl PyData.bool bs fun i _ => .bl i)
theorem rv_eqDD {K : PySem.W.Frag} {H : Hp} {x y : V} {d e : PyData} {b : Bool} (h1 : Dp K H x d) (h2 : Dp K H y e) (hs : SeqAt.shaped d = true) (hs2 : SeqAt.shaped e = true) (hb : PyData.eqv d e = b) : RV (rEqD K) x y H (.bl b) := fun H1 ex Q q =>
  ⟨d, e, dp_ex ex h1, dp_ex ex h2, hs, hs2, by rw [hb]; exact q H1 (Ex.refl H1)⟩
theorem rv_neDD {K : PySem.W.Frag} {H : Hp} {x y : V} {d e : PyData} {b : Bool} (h1 : Dp K H x d) (h2 : Dp K H y e) (hs : SeqAt.shaped d = true) (hs2 : SeqAt.shaped e = true) (hb : PyData.eqv d e = !b) : RV (rNeD K) x y H (.bl b) := fun H1 ex Q q =>
  ⟨d, e, dp_ex ex h1, dp_ex ex h2, hs, hs2, by rw [hb, Bool.not_not]; exact q H1 (Ex.refl H1)⟩

end Su
namespace Su
/-! ### for i, x in enumerate(xs) -/
theorem s_forE {K : PySem.W.Frag} {a : Addr} {xs : List V} {g : TG} {tb : TS} {D : Ends} {σ : L2.St} {H : Hp} {ta : TA} (h : EvA ta σ H [.ref a]) (hx : SqL K H a xs) (Pv : Nat → L2.St → Hp → Prop) (h0 : ∀ H1, Ex H H1 → Pv 0 σ H1) (hl : ∀ i σ' H', i ≤ xs.length → Pv i σ' H' → SqL K H' a xs)
    (hs : ∀ i x T σ' Hc, xs[i]? = some x → Pv i σ' Hc → Hc T = none → ∃ σ2, Tgt g (.ref T) σ' σ2 (upd Hc T (.tup [.int (i : Nat), x])) ∧ tb { D with nx := Pv (i + 1), ct := Pv (i + 1), bk := D.nx } σ2 (upd Hc T (.tup [.int (i : Nat), x])))
    (hd : ∀ σ' H', Pv xs.length σ' H' → D.nx σ' H') : tFor (iEnum K ta) g tb D σ H :=
  h H (Ex.refl H) _ fun H1 e1 => ⟨a, xs, rfl, ex_l e1 hx, by
    refine ⟨fun i m σ' H' => m = xs.length - i ∧ i ≤ xs.length ∧ Pv i σ' H', ⟨xs.length, by simp, Nat.zero_le _, h0 H1 e1⟩, ?_⟩
    rintro i m σ' H' ⟨rfl, hi, p⟩
    have hX := hl i σ' H' hi p
    by_cases hlt : i < xs.length
    · refine .inr ⟨⟨xs, xs[i], hX, List.getElem?_eq_getElem hlt⟩, Pv (i + 1), fun σ2 H2 p' => ⟨xs.length - (i + 1), by omega, rfl, hlt, p'⟩, fun y H2 hy => ?_⟩
      obtain ⟨T, x, rfl, nT, rfl, hxx⟩ := hy
      obtain ⟨σ2, h1, h2⟩ := hs i x T σ' H' (hxx xs hX) p nT
      exact h1 _ (Ex.refl _) _ h2
    · have ei : i = xs.length := by omega
      subst ei
      exact .inl ⟨⟨xs, hX, Nat.le_refl _⟩, hd σ' H' p⟩⟩

end Su
namespace Su
/-! ### o[i] += e of a list; [e] * n -/
section
variable {X : Cx}
def rGetL (K : PySem.W.Frag) : V → V → Hp → VK → Prop := fun x y H Q => ∃ p xs i v, x = .ref p ∧ y = .int i ∧ 0 ≤ i ∧ SqL K H p xs ∧ atI xs i = some v ∧ Q v H
theorem get_list : PGet X (rGetL X.K) := by
  intro pins s σ H x y v u Q I rx ry h
  obtain ⟨p, xs, i, z, rfl, rfl, h0, hq, he, q⟩ := h
  cases rx
  obtain ⟨t, rfl⟩ := ry
  obtain ⟨its, r, pl, hz⟩ := I.list hq
  obtain ⟨j, h1, h2, h3, h4, h5⟩ := atI_get he
  obtain ⟨w, ew, rw'⟩ := r.get h2
  have hl := r.length
  have hn := line63
  have hj : i.toNat = j := by
    rw [seqIndex_of h0 h5] at h1
    exact Option.some.inj h1
  exact wpAny_getItem_list pl.isList h0 (by omega) (by rw [hj]; simpa using ew) ⟨z, H, I, rw', q⟩
end
theorem q_augL {to ti te : TE} {K : PySem.W.Frag} {σ : L2.St} {H : Hp} {D : Ends} {tz : TS} {l : Addr} {xs : List V} {z a b : Int} {j : Nat} {f : Int → Int → Int} (hl : H l = some (.lst xs)) (ho : Ev to σ H (.ref l)) (hi : Ev ti σ H (.int z)) (hz : z = (j : Int)) (hx : xs[j]? = some (.int a)) (h : Ev te σ H (.int b))
    (k : ∀ H1, Ex H H1 → tz D σ (upd H1 l (.lst (xs.set j (.int (f a b)))))) : tSeq (tAugS to ti te (rGetL K) (ipI f) rSetL) tz D σ H := by
  have hj : j < xs.length := (List.getElem?_eq_some_iff.mp hx).1
  refine ho H (Ex.refl H) _ fun H1 e1 => hi H1 e1 _ fun H2 e2 => ?_
  refine ⟨l, xs, z, .int a, rfl, rfl, by omega, sq_of (e2 l _ (e1 l _ hl)), at_of hz hx, h H2 (e1.trans e2) _ fun H3 e3 => ?_⟩
  refine ⟨a, b, rfl, rfl, l, xs, z, j, rfl, rfl, e3 l _ (e2 l _ (e1 l _ hl)), ?_, k H3 ((e1.trans e2).trans e3)⟩
  rw [hz]
  exact ixN_nat hj
theorem st_lastAugL {to ti te : TE} {K : PySem.W.Frag} {σ : L2.St} {H : Hp} {D : Ends} {l : Addr} {xs : List V} {z a b : Int} {j : Nat} {f : Int → Int → Int} (hl : H l = some (.lst xs)) (ho : Ev to σ H (.ref l)) (hi : Ev ti σ H (.int z)) (hz : z = (j : Int)) (hx : xs[j]? = some (.int a)) (h : Ev te σ H (.int b))
    (k : ∀ H1, Ex H H1 → D.nx σ (upd H1 l (.lst (xs.set j (.int (f a b)))))) : tAugS to ti te (rGetL K) (ipI f) rSetL D σ H := q_augL (D := D) (tz := fun D' σ' H' => D'.nx σ' H') hl ho hi hz hx h k
theorem flat1 {v : V} : ∀ n : Nat, (List.replicate n [v]).flatten = List.replicate n v
  | 0 => rfl
  | n + 1 => by rw [List.replicate_succ, List.replicate_succ, List.flatten_cons, flat1 n]; rfl
theorem el_rep1 {ta tb : TE} {σ : L2.St} {H : Hp} {v : V} {k : Int} (ha : EvL ta σ H [v]) (hb : Ev tb σ H (.int k)) (h0 : 0 ≤ k) (h1 : k ≤ 100000) : EvL (tOp rRep ta tb) σ H (List.replicate k.toNat v) := fun H1 e Q q =>
  ha H1 e _ fun p H2 hp e2 h2 => hb H2 (e.trans e2) _ fun H3 e3 => ⟨p, k, [v], rfl, rfl, e3 p _ h2, by omega, by omega, sz_of (by show 1 * k.toNat ≤ _; omega), fun r hr => by
    rw [flat1]
    exact q r _ (fresh_back (e2.trans e3) hr) ((e2.trans e3).trans (Ex.new hr)) upd_same⟩

end Su
namespace Su
theorem lay_of_shaped {d : PyData} (h : SeqAt.shaped d = true) : d.canLay0 = true := (Bool.and_eq_true_iff.mp h).1
/-- two lists of windows that are alike -/
theorem rv_neD {K : PySem.W.Frag} {H : Hp} {x y : V} {d : PyData} (h1 : Dp K H x d) (h2 : Dp K H y d) (hs : SeqAt.shaped d = true) : RV (rNeD K) x y H (.bl false) := fun H1 e Q q =>
  ⟨d, d, dp_ex e h1, dp_ex e h2, hs, hs, by rw [SeqAt.eqv_refl d (lay_of_shaped hs)]; exact q H1 (Ex.refl H1)⟩
theorem rv_eqD {K : PySem.W.Frag} {H : Hp} {x y : V} {d : PyData} (h1 : Dp K H x d) (h2 : Dp K H y d) (hs : SeqAt.shaped d = true) : RV (rEqD K) x y H (.bl true) := fun H1 e Q q =>
  ⟨d, d, dp_ex e h1, dp_ex e h2, hs, hs, by rw [SeqAt.eqv_refl d (lay_of_shaped hs)]; exact q H1 (Ex.refl H1)⟩
def intD (ns : List Int) : PyData := .list (ns.map .int)
theorem dp_ints {K : PySem.W.Frag} {H : Hp} {l : Addr} {ns : List Int} (hl : SqL K H l (ns.map V.int)) : Dp K H (.ref l) (intD ns) := .lst hl (dpa_of V.int PyData.int ns fun i _ => .int i)
theorem pl_ints {ns : List Int} (h : ns.length ≤ 1000) : PlD 1 (intD ns) := .list (by rw [List.length_map]; exact h) fun x hx => by
  obtain ⟨i, _, rfl⟩ := List.mem_map.mp hx
  exact .int i
theorem shaped_ints (ns : List Int) : SeqAt.shaped (intD ns) = true := by
  have h1 : ∀ l : List Int, PyData.canLayAll0 (l.map .int) = true := by
    intro l
    induction l with
    | nil => simp [PyData.canLayAll0]
    | cons a r ih => simp [PyData.canLayAll0, PyData.canLay0, ih]
  have h2 : ∀ l : List Int, PyData.depthAll (l.map .int) = 0 := by
    intro l
    induction l with
    | nil => simp [PyData.depthAll]
    | cons a r ih => simp [PyData.depthAll, PyData.depth, ih]
  unfold SeqAt.shaped intD
  rw [Bool.and_eq_true]
  refine ⟨?_, ?_⟩
  · simp only [PyData.canLay0]
    exact h1 ns
  · simp only [PyData.depth]
    have := h2 ns
    exact decide_eq_true (by omega)

end Su
namespace Su
/-! ### windows: a list of pairs -/
abbrev Win := Addr × Int × Int
def refs (qs : List Win) : List V := qs.map fun q => V.ref q.1
def TW (H : Hp) (qs : List Win) : Prop := ∀ q ∈ qs, H q.1 = some (.tup [.int q.2.1, .int q.2.2])
theorem TW.ex {H H' : Hp} {qs : List Win} (h : TW H qs) (e : Ex H H') : TW H' qs := fun q hq => e _ _ (h q hq)
theorem TW.upd {H : Hp} {qs : List Win} {p : Addr} {xs ys : List V} (h : TW H qs) (hp : H p = some (.lst xs)) : TW (upd H p (.lst ys)) qs := fun q hq => by
  rw [upd_ne (ne_of (h q hq) hp (fun z => nomatch z))]
  exact h q hq
theorem TW.nil {H : Hp} : TW H [] := fun q hq => absurd hq List.not_mem_nil
theorem TW.add {H : Hp} {qs : List Win} {q : Win} (h : TW H qs) (hq : H q.1 = some (.tup [.int q.2.1, .int q.2.2])) : TW H (qs ++ [q]) := fun r hr => by
  rcases List.mem_append.mp hr with h' | h'
  · exact h r h'
  · obtain rfl := List.mem_singleton.mp h'
    exact hq
theorem refs_at {qs : List Win} {i : Nat} {x : V} (h : (refs qs)[i]? = some x) : ∃ q, qs[i]? = some q ∧ x = .ref q.1 := by
  unfold refs at h
  rw [List.getElem?_map] at h
  cases hc : qs[i]? with
  | none => rw [hc] at h; cases h
  | some c => rw [hc] at h; exact ⟨c, rfl, (Option.some.inj h).symm⟩
theorem refs_len {qs : List Win} : (refs qs).length = qs.length := List.length_map _
/-- windows[i][0], windows[i][1] -/
theorem ev_win {K : PySem.W.Frag} {ta tb : TE} {σ : L2.St} {H : Hp} {l : Addr} {qs : List Win} {i : Nat} {q : Win} (ha : Ev ta σ H (.ref l)) (hb : Ev tb σ H (.int (i : Nat))) (hl : SqL K H l (refs qs)) (hq : qs[i]? = some q) : Ev (tOp (rIxL K) ta tb) σ H (.ref q.1) :=
  ev_op ha hb (rv_ixL hl (atI_nat (by unfold refs; rw [List.getElem?_map, hq]; rfl)))
theorem ev_w0 {K : PySem.W.Frag} {ta : TE} {σ : L2.St} {H : Hp} {q : Win} (ha : Ev ta σ H (.ref q.1)) (hq : H q.1 = some (.tup [.int q.2.1, .int q.2.2])) : Ev (tOp (rIxT K) ta (tC (.int 0))) σ H (.int q.2.1) := ev_op ha ev_c (rv_ixT (st_of hq) rfl)
theorem ev_w1 {K : PySem.W.Frag} {ta : TE} {σ : L2.St} {H : Hp} {q : Win} (ha : Ev ta σ H (.ref q.1)) (hq : H q.1 = some (.tup [.int q.2.1, .int q.2.2])) : Ev (tOp (rIxT K) ta (tC (.int 1))) σ H (.int q.2.2) := ev_op ha ev_c (rv_ixT (st_of hq) rfl)
def winD (qs : List Win) : PyData := .list (qs.map fun q => .tuple [.int q.2.1, .int q.2.2])
theorem dp_win {K : PySem.W.Frag} {H : Hp} {l : Addr} {qs : List Win} (hl : SqL K H l (refs qs)) (ht : TW H qs) : Dp K H (.ref l) (winD qs) :=
  .lst hl (dpa_of (fun q : Win => V.ref q.1) (fun q => .tuple [.int q.2.1, .int q.2.2]) qs fun q hq => .tup (st_of (ht q hq)) (.cons (.int _) (.cons (.int _) .nil)))
theorem shaped_win (qs : List Win) : SeqAt.shaped (winD qs) = true := by
  have h1 : ∀ l : List Win, PyData.canLayAll0 (l.map fun q => .tuple [.int q.2.1, .int q.2.2]) = true := by
    intro l
    induction l with
    | nil => simp [PyData.canLayAll0]
    | cons a r ih => simp [PyData.canLayAll0, PyData.canLay0, ih]
  have h2 : ∀ l : List Win, PyData.depthAll (l.map fun q => .tuple [.int q.2.1, .int q.2.2]) ≤ 1 := by
    intro l
    induction l with
    | nil => simp [PyData.depthAll]
    | cons a r ih =>
      simp only [List.map_cons, PyData.depthAll, PyData.depth]
      omega
  unfold SeqAt.shaped winD
  rw [Bool.and_eq_true]
  refine ⟨?_, ?_⟩
  · simp only [PyData.canLay0]
    exact h1 qs
  · simp only [PyData.depth]
    have := h2 qs
    exact decide_eq_true (by omega)

end Su
namespace Su
/-! ### is_order -/
theorem eqv_ints (a b : List Int) : PyData.eqv (intD a) (intD b) = decide (a = b) := by
  unfold intD
  rw [PyData.eqv]
  exact PySem.W.ked_eqvAll a b
theorem sorted_unique : ∀ {l m : List Int}, l.Pairwise (· ≤ ·) → m.Pairwise (· ≤ ·) → l.Perm m → l = m
  | [], m, _, _, h => (List.nil_perm.mp h).symm
  | a :: r, [], _, _, h => absurd h.length_eq (by rw [List.length_cons]; exact fun z => by cases z)
  | a :: r, b :: s, hl, hm, h => by
    obtain ⟨l1, l2⟩ := List.pairwise_cons.mp hl
    obtain ⟨m1, m2⟩ := List.pairwise_cons.mp hm
    have e : a = b := by
      have h1 : a ∈ b :: s := h.mem_iff.mp List.mem_cons_self
      have h2 : b ∈ a :: r := h.mem_iff.mpr List.mem_cons_self
      rcases List.mem_cons.mp h1 with e | h1
      · exact e
      · rcases List.mem_cons.mp h2 with e | h2
        · exact e.symm
        · have := l1 b h2
          have := m1 a h1
          omega
    subst e
    rw [sorted_unique l2 m2 ((List.perm_cons a).mp h)]
def sortI (ns : List Int) : List Int := ns.mergeSort fun a b => decide (a ≤ b)
theorem sortI_perm (ns : List Int) : (sortI ns).Perm ns := List.mergeSort_perm _ _
theorem sortI_sorted (ns : List Int) : (sortI ns).Pairwise (· ≤ ·) := by
  have h := List.pairwise_mergeSort (le := fun a b : Int => decide (a ≤ b)) (fun a b c h1 h2 => by
    have := of_decide_eq_true h1
    have := of_decide_eq_true h2
    exact decide_eq_true (by omega)) (fun a b => by
    rw [Bool.or_eq_true, decide_eq_true_eq, decide_eq_true_eq]
    omega) ns
  exact h.imp fun h => of_decide_eq_true h
def rgI (n : Nat) : List Int := (List.range n).map fun i : Nat => (i : Int)
theorem rgI_sorted (n : Nat) : (rgI n).Pairwise (· ≤ ·) := by
  unfold rgI
  rw [List.pairwise_map]
  exact List.pairwise_lt_range.imp fun {i j} h => by omega
theorem sortI_eq (ns : List Int) (n : Nat) : sortI ns = rgI n ↔ ns.Perm (rgI n) :=
  ⟨fun h => h ▸ (sortI_perm ns).symm, fun h => sorted_unique (sortI_sorted ns) (rgI_sorted n) ((sortI_perm ns).trans h)⟩
def inRound (ws : List (Int × Int)) (ns : List Int) (i : Nat) : Bool := match ns[i]? with
  | some n => match ws[n.toNat]? with
    | some w => decide (w.1 ≤ 1 + (i : Int)) && decide (1 + (i : Int) ≤ w.2)
    | none => false
  | none => false
def isOrd (ws : List (Int × Int)) (ns : List Int) : Bool := decide (sortI ns = rgI ws.length) && ((List.range ns.length).map (inRound ws ns)).all id
section
variable {P : Program} {w : World} {K : PySem.W.Frag} {mg : Str → Option Value} {base : Heap}
theorem el_sortedI {σ : L2.St} {H : Hp} {te : TE} {a : Addr} {ns : List Int} (h : Ev te σ H (.ref a)) (hs : SqL K H a (ns.map V.int)) : EvL (tCB (rSortedI K) (tCons te tNil)) σ H ((sortI ns).map V.int) := fun H0 e Q q =>
  h H0 e _ fun H1 e1 => ⟨a, ns, rfl, ex_l (e.trans e1) hs, fun ns' p hp ho hn => by
    obtain rfl : ns' = sortI ns := sorted_unique ho (sortI_sorted ns) (hp.trans (sortI_perm ns).symm)
    exact q p _ (fresh_back e1 hn) (e1.trans (Ex.new hn)) upd_same⟩
theorem el_rgI {σ : L2.St} {H : Hp} {te : TE} {n : Nat} (h : Ev te σ H (.int (n : Nat))) (hn : n ≤ 16000000) : EvL (tLstRg (tRg1 te)) σ H ((rgI n).map V.int) := fun H0 e Q q =>
  h H0 e _ fun H1 e1 => ⟨n, rfl, RgOk.of_le (by omega) (by omega) (by omega) (by omega), fun p hp => q p _ (fresh_back e1 hp) (e1.trans (Ex.new hp)) (by
    rw [upd_same]
    unfold rgV rgI
    rw [List.map_map, Int.sub_zero, Int.toNat_natCast]
    congr 2
    apply List.map_congr_left
    intro i _
    show V.int (0 + (i : Int)) = V.int (i : Int)
    rw [Int.zero_add])⟩
theorem ev_allB {σ : L2.St} {H : Hp} {te : TE} {bs : List Bool} (h : EvL te σ H (bs.map V.bl)) : Ev (tCB (rAll K) (tCons te tNil)) σ H (.bl (bs.all id)) := fun H1 e Q q =>
  h H1 e _ fun p H2 _ e2 h2 => ⟨p, bs, rfl, sq_of h2, q H2 e2⟩
end

end Su
namespace Su
/-! ### lists of natural numbers as values -/
def natI (l : List Nat) : List Int := l.map fun k : Nat => (k : Int)
theorem natI_len (l : List Nat) : (natI l).length = l.length := List.length_map _
theorem nat_given (l : List Nat) (p : Nat → Bool) (v : Nat → V) : given l.length (fun i => p (l.getD i 0)) (fun i => v (l.getD i 0)) = (l.filter p).map v := by
  have h : (List.range l.length).map (fun i => l.getD i 0) = l := by
    apply List.ext_getElem?
    intro i
    rw [List.getElem?_map]
    by_cases hi : i < l.length
    · rw [List.getElem?_range hi, List.getElem?_eq_getElem hi]
      show some (l.getD i 0) = _
      rw [List.getD_eq_getElem?_getD, List.getElem?_eq_getElem hi]
      rfl
    · rw [List.getElem?_eq_none (by rw [List.length_range]; omega), List.getElem?_eq_none (by omega)]
      rfl
  conv => rhs; rw [← h]
  unfold given
  rw [List.filter_map, List.map_map]
  rfl
theorem nat_given1 (l : List Nat) (v : Nat → V) : given l.length (fun _ => true) (fun i => v (l.getD i 0)) = l.map v := by
  have z := nat_given l (fun _ => true) v
  rw [List.filter_eq_self.mpr (fun _ _ => rfl)] at z
  exact z
theorem nat_at {l : List Nat} {i : Nat} {x : V} (h : ((natI l).map V.int)[i]? = some x) : ∃ k, x = .int (k : Nat) ∧ l[i]? = some k ∧ l.getD i 0 = k := by
  unfold natI at h
  rw [List.map_map, List.getElem?_map] at h
  cases hc : l[i]? with
  | none => rw [hc] at h; cases h
  | some c => rw [hc] at h; exact ⟨c, (Option.some.inj h).symm, rfl, by rw [List.getD_eq_getElem?_getD, hc]; rfl⟩
theorem natI_int (l : List Nat) : (natI l).map V.int = l.map fun k : Nat => V.int (k : Nat) := by
  unfold natI
  rw [List.map_map]
  rfl
theorem nat_eqd {i j : Nat} : decide (V.int (i : Nat) = V.int (j : Nat)) = decide (i = j) := by
  by_cases h : i = j
  · rw [h, decide_eq_true rfl, decide_eq_true rfl]
  · rw [decide_eq_false h, decide_eq_false (fun z => h (by have := V.int.inj z; omega))]
theorem nat_perm {r : List Nat} {n : Nat} : (natI r).Perm (rgI n) ↔ r.Perm (List.range n) := by
  unfold natI rgI
  refine ⟨fun h => ?_, fun h => h.map _⟩
  have := h.map Int.toNat
  rw [List.map_map, List.map_map] at this
  have e : ∀ l : List Nat, l.map (Int.toNat ∘ fun k : Nat => (k : Int)) = l := fun l => by
    conv => rhs; rw [← List.map_id l]
    apply List.map_congr_left
    intro k _
    exact Int.toNat_natCast k
  rw [e, e] at this
  exact this

end Su
namespace Su
/-! ### more ways of calls -/
theorem s_forE1 {K : PySem.W.Frag} {te : TE} {g : TG} {tb : TS} {D : Ends} {σ : L2.St} {H : Hp} {Pc : Addr → Hp → Prop} (hcall : ∀ Q : VK, (∀ p H1, Pc p H1 → Q (.ref p) H1) → te σ H Q) (k : ∀ p H1, Pc p H1 → tFor (iEnum K (tCons (tC (.ref p)) tNil)) g tb D σ H1) :
    tFor (iEnum K (tCons te tNil)) g tb D σ H := hcall _ fun p H1 h => k p H1 h
theorem s_tryw1 {sp : Sp} {W : WX} {te : TE} {xs : List V} {σ : L2.St} {H : Hp} {i : Nat} {D : Ends} (h : EvL te σ H xs) (hs : ∀ p H1, H p = none → Ex H H1 → H1 p = some (.lst xs) → sp [.ref p] H1 (fun v H2 => D.nx (σ.set i (some v)) H2) (WE W σ)) : tAsg (tCallS sp (WE W) (tCons te tNil)) (gName i) D σ H :=
  h H (Ex.refl H) _ fun p H1 hp e1 h1 => hs p H1 hp e1 h1
theorem rc_isi_lst {K : PySem.W.Frag} {H : Hp} {p : Addr} {xs : List V} {n : String} {b : Bool} (h : H p = some (.lst xs)) (hk : kitB "list" n = some b) : RC (rIsi K) [.ref p, .ty n] H (.bl b) :=
  fun H1 e _ q => ⟨.ref p, .ty n, .type "list", .type n, b, rfl, .ty n, .base (.lst (e _ _ h)), kit_ty hk, q H1 (Ex.refl H1)⟩
theorem int_eq {i j : Int} : decide (V.int i = V.int j) = decide (i = j) := by
  by_cases h : i = j
  · rw [h, decide_eq_true rfl, decide_eq_true rfl]
  · rw [decide_eq_false h, decide_eq_false (fun z => h (V.int.inj z))]
theorem q_callQ {sp : Sp} {dvs vs : List V} {E : XK} {ta : TA} {σ : L2.St} {H : Hp} {i : Nat} {D : Ends} {tz : TS} (h : EvA ta σ H vs) (k : ∀ H1, Ex H H1 → sp (vs ++ dvs) H1 (fun v H2 => tz D (σ.set i (some v)) H2) E) : tSeq (tAsg (tCall sp dvs E ta) (gName i)) tz D σ H :=
  h H (Ex.refl H) _ fun H1 e1 => k H1 e1

end Su
namespace Su
/-! ### is_bar, good_paper -/
theorem inV_int {z : Int} {ns : List Int} : inV (.int z) (ns.map V.int) = decide (z ∈ ns) := by
  unfold inV
  induction ns with
  | nil => rfl
  | cons a r ih =>
    rw [List.map_cons, List.any_cons, ih]
    show ((a == z) || decide (z ∈ r)) = _
    by_cases h : z = a
    · subst h
      simp
    · rw [beq_eq_false_iff_ne.mpr (fun e => h e.symm)]
      simp [h]
theorem flat_ints {ns : List Int} : (ns.map V.int).all flatV = true := by
  rw [List.all_eq_true]
  intro x hx
  obtain ⟨z, _, rfl⟩ := List.mem_map.mp hx
  rfl
theorem given_filter (l : List Int) (p : Int → Bool) : given l.length (fun i => p (l.getD i 0)) (fun i => .int (l.getD i 0)) = (l.filter p).map V.int := by
  have h : (List.range l.length).map (fun i => l.getD i 0) = l := by
    apply List.ext_getElem?
    intro i
    rw [List.getElem?_map]
    by_cases hi : i < l.length
    · rw [List.getElem?_range hi, List.getElem?_eq_getElem hi]
      show some (l.getD i 0) = _
      rw [List.getD_eq_getElem?_getD, List.getElem?_eq_getElem hi]
      rfl
    · rw [List.getElem?_eq_none (by rw [List.length_range]; omega), List.getElem?_eq_none (by omega)]
      rfl
  conv => rhs; rw [← h]
  unfold given
  rw [List.filter_map, List.map_map]
  rfl

end Su
namespace Su
/-! ### the drawn order -/
theorem s_ins {K : PySem.W.Frag} {σ : L2.St} {H : Hp} {ta tb te : TE} {D : Ends} {l : Addr} {xs : List V} {i : Int} {v : V} (hl : H l = some (.lst xs)) (ha : Ev ta σ H (.ref l)) (hi : Ev tb σ H (.int i)) (h : Ev te σ H v) (hz : xs.length < 100000) (h0 : 0 ≤ i) (h1 : i < 2 ^ 63)
    (k : ∀ H1, Ex H H1 → D.nx σ (upd H1 l (.lst (xs.take i.toNat ++ [v] ++ xs.drop i.toNat)))) :
    tDrop (tBM K "list" (fun x vs H Q => ∃ (l : Addr) (xs : List V) (i : Int) (y : V), x = .ref l ∧ vs = [.int i, y] ∧ H l = some (.lst xs) ∧ xs.length < sizeLine ∧ 0 ≤ i ∧ i < 2 ^ 63 ∧ Q .non (upd H l (.lst (xs.take i.toNat ++ [y] ++ xs.drop i.toNat)))) ta (tCons tb (tCons te tNil))) D σ H := ha H (Ex.refl H) _ fun H1 e1 =>
  ⟨Or.inl ⟨rfl, xs, sq_of (e1 l _ hl)⟩, hi H1 e1 _ fun H2 e2 => h H2 (e1.trans e2) _ fun H3 e3 => ⟨l, xs, i, v, rfl, rfl, e3 l _ (e2 l _ (e1 l _ hl)), sz_lt hz, h0, h1, k H3 ((e1.trans e2).trans e3)⟩⟩
theorem rgI_succ (n : Nat) : rgI (n + 1) = rgI n ++ [(n : Int)] := by
  unfold rgI
  rw [List.range_succ, List.map_append]
  rfl
theorem perm_ins {ns : List Int} {n j : Nat} (h : ns.Perm (rgI n)) : (ns.take j ++ [(n : Int)] ++ ns.drop j).Perm (rgI (n + 1)) := by
  rw [rgI_succ, List.append_assoc, List.singleton_append]
  refine (List.perm_middle).trans ?_
  rw [List.take_append_drop]
  exact (List.Perm.cons _ h).trans (List.perm_append_singleton _ _).symm

end Su
namespace Su
section
variable {P : Program} {w : World} {K : PySem.W.Frag} {mg : Str → Option Value} {base : Heap}
def spPerm (K : PySem.W.Frag) : Sp := fun vs H Q _ => ∃ (a : Addr) (rows : List Int) (n : Nat), vs = [.ref a, .int (n : Int)] ∧ SqL K H a (rows.map V.int) ∧ n ≤ rows.length ∧ n ≤ 1000 ∧
  ∀ (ns : List Int) H' p, H p = none → Ex H H' → H' p = some (.lst (ns.map V.int)) → ns.Perm (rgI n) → Q (.ref p) H'
theorem spN_perm {a : Addr} {rows : List Int} {n : Nat} {H : Hp} (hS : SqL K H a (rows.map V.int)) (hl : n ≤ rows.length) (hn : n ≤ 1000) : SpN (spPerm K) [.ref a, .int (n : Int)] H (fun xs => ∃ ns : List Int, ns.Perm (rgI n) ∧ xs = ns.map V.int) :=
  fun H1 e Q q E => ⟨a, rows, n, rfl, ex_l e hS, hl, hn, fun ns H' p hp e' h' hr => q _ p H' ⟨ns, hr, rfl⟩ hp e' h'⟩
theorem ok__law_perm {f : Addr} {fd : FuncData} {k : Nat} (F : Fun K "_law_perm" "_law_perm" s__law_perm f fd) (T : Top K mg) : FnOk P w K mg base CX0 (k + 1) f fd ["_law_some", "_law_size"] (spPerm K) := by
  have nd := sc__law_perm.nd
  refine F.ok sc__law_perm (fun vs H Q E h => ?_) (fun cdv A outer s H vs Q E hr h => ?_)
  · obtain ⟨a, rows, n, rfl, _⟩ := h
    rfl
  · obtain ⟨a, rows, n, rfl, hS, hl, hn, q⟩ := h
    refine ⟨_, (pss_cons (ps_set (i := 2) nd rfl (.inl rfl) (pe_lst pa_nil))
      (pss_cons (ps_for PassesOwn.never rfl (pi_range1 rfl T.m_range (pa_cons (pv 1) pa_nil)) (pg_name (i := 3) nd rfl (.inl rfl))
        (pss_one (ps_expr (pe_bm PySem.F.plainAttrs_list PySem.F.slot_list_insert PySem.F.type_list_insert mt_insert (pv 2) (pa_cons (pe_op op_mod (pe_ix ix_list (pv 0) (pv 3) (fun _ _ => rfl)) (pe_op op_add (pv 3) pe_int)) (pa_cons (pv 3) pa_nil))))))
      (pss_one (ps_ret (pv 2))))), ?_⟩
    refine q_asgL (el_lst ea_nil (by decide)) fun p H1 hp e1 h1 => ?_
    refine q_forR1 (by walk_at "ea") (by omega) (fun i σ' H' => ∃ (ns : List Int) (y : Option V), σ' = [some (.ref a), some (.int (n : Int)), some (.ref p), y] ∧ Ex H H' ∧ H' p = some (.lst (ns.map V.int)) ∧ ns.Perm (rgI i)) ?_ ?_ ?_
    · intro H2 e2
      exact ⟨[], none, rfl, e1.trans e2, e2 p _ h1, List.Perm.refl _⟩
    · rintro i σ' H' hi ⟨ns, y, rfl, ex, hp', hpm⟩
      have hs := ex_l ex hS
      have hlen := hpm.length_eq
      unfold rgI at hlen
      rw [List.length_map, List.length_range] at hlen
      have m0 := Int.emod_nonneg (rows.getD ((i : Int)).toNat 0) (show (i : Int) + 1 ≠ 0 by omega)
      have m1 := Int.emod_lt_of_pos (rows.getD ((i : Int)).toNat 0) (show 0 < (i : Int) + 1 by omega)
      refine s_ins hp' (by walk_at "ev") (by walk_at "ev") (by walk_at "ev") (by rw [List.length_map]; omega) m0 (by omega) fun H2 e2 => ?_
      generalize (rows.getD ((i : Int)).toNat 0 % ((i : Int) + 1)).toNat = j
      refine ⟨ns.take j ++ [(i : Int)] ++ ns.drop j, _, rfl, ex_up (ex.trans e2) hp, ?_, perm_ins hpm⟩
      rw [upd_same, List.map_append, List.map_append, List.map_take, List.map_drop]
      rfl
    · rintro σ' H' ⟨ns, y, rfl, ex, hp', hpm⟩
      rw [Int.toNat_natCast] at hpm
      refine s_ret (by walk_at "ev") fun H2 e2 => ?_
      exact q ns H2 p hp (ex.trans e2) (ex_g e2 hp') hpm
end

end Su
namespace Su
/-! ### instances: their attributes by place -/
theorem zip_lookup : ∀ {ns : List Str} {vs : List V} {i : Nat} {f : Str} {v : V}, ns.Nodup → ns[i]? = some f → vs[i]? = some v → (ns.zip vs).lookup f = some v
  | [], _, i, f, v, _, h, _ => by simp at h
  | _ :: _, [], i, f, v, _, _, h => by simp at h
  | n :: ns, w :: vs, 0, f, v, _, h1, h2 => by
    obtain rfl : n = f := Option.some.inj h1
    obtain rfl : w = v := Option.some.inj h2
    show List.lookup n ((n, w) :: ns.zip vs) = _
    simp [List.lookup]
  | n :: ns, w :: vs, i + 1, f, v, hn, h1, h2 => by
    obtain ⟨n1, n2⟩ := List.nodup_cons.mp hn
    have hne : (f == n) = false := beq_eq_false_iff_ne.mpr fun z => n1 (by rw [← z]; exact List.mem_of_getElem? h1)
    show List.lookup f ((n, w) :: ns.zip vs) = _
    simp only [List.lookup, hne]
    exact zip_lookup n2 h1 h2
theorem zip_none : ∀ {ns : List Str} {vs : List V} {f : Str}, f ∉ ns → (ns.zip vs).lookup f = none
  | [], _, f, _ => rfl
  | _ :: _, [], f, _ => rfl
  | n :: ns, w :: vs, f, h => by
    have hne : (f == n) = false := beq_eq_false_iff_ne.mpr fun z => h (by rw [z]; exact List.mem_cons_self)
    show List.lookup f ((n, w) :: ns.zip vs) = _
    simp only [List.lookup, hne]
    exact zip_none fun z => h (List.mem_cons_of_mem _ z)
theorem zip_put : ∀ {ns : List Str} {vs : List V} {i : Nat} {f : Str} {v : V}, ns.Nodup → ns[i]? = some f → i < vs.length → putF f v (ns.zip vs) = ns.zip (vs.set i v)
  | [], _, i, f, v, _, h, _ => by simp at h
  | _ :: _, [], i, f, v, _, _, h => by simp at h
  | n :: ns, w :: vs, 0, f, v, _, h1, h2 => by
    obtain rfl : n = f := Option.some.inj h1
    show (if n = n then (n, v) :: ns.zip vs else _) = _
    rw [if_pos rfl]
    rfl
  | n :: ns, w :: vs, i + 1, f, v, hn, h1, h2 => by
    obtain ⟨n1, n2⟩ := List.nodup_cons.mp hn
    show (if n = f then (n, v) :: ns.zip vs else (n, w) :: putF f v (ns.zip vs)) = _
    rw [if_neg fun z => n1 (by rw [z]; exact List.mem_of_getElem? h1), zip_put n2 h1 (by rw [List.length_cons] at h2; omega)]
    rfl
theorem zip_snoc : ∀ {ns : List Str} {vs : List V} {f : Str} {v : V}, f ∉ ns → ns.length = vs.length → putF f v (ns.zip vs) = (ns ++ [f]).zip (vs ++ [v])
  | [], [], f, v, _, _ => rfl
  | [], _ :: _, _, _, _, h => by cases h
  | _ :: _, [], _, _, _, h => by cases h
  | n :: ns, w :: vs, f, v, h1, h2 => by
    show (if n = f then (n, v) :: ns.zip vs else (n, w) :: putF f v (ns.zip vs)) = _
    rw [if_neg fun z => h1 (by rw [z]; exact List.mem_cons_self), zip_snoc (fun z => h1 (List.mem_cons_of_mem _ z)) (by rw [List.length_cons, List.length_cons] at h2; omega)]
    rfl
section
variable {X : Cx} {K : PySem.W.Frag}
theorem pe_fldK {e : Expr} {f : Str} {pos : Pos} {ta : TE} (h : X.K = K) (he : PE X e ta) (hb : attributeBase e f X.env (eval e X.env) = eval e X.env) : PE X (.Attribute e f pos) (tFld K ta f) := h ▸ pe_fld he hb
theorem ps_fldK {o value : Expr} {f : Str} {pos pos' : Pos} {ta tv : TE} (h : X.K = K) (ha : PE X o ta) (hv : PE X value tv) (hs : swapsWith value (some (.Attribute o f pos')) pos.line X.env = pure false) : PS X (.Assign [.Attribute o f pos'] value pos) (sFld K ta tv f) := h ▸ ps_fld ha hv hs
theorem ps_fldaugK {o value : Expr} {f : Str} {pos tpos : Pos} {ta tv : TE} {op : Operator} {rd : V → V → Hp → VK → Prop} (h : X.K = K) (ha : PE X o ta) (hv : PE X value tv) (hop : InOp X op rd) : PS X (.AugAssign (.Attribute o f tpos) op value pos) (sFldAug K ta tv rd f) := h ▸ ps_fldaug ha hv hop
end
section
variable {K : PySem.W.Frag} {σ : L2.St} {H : Hp} {a C dx : Addr} {fs : List (Str × V)} {ta tv : TE} {t : TA} {f m : Str} {sp : Sp} {dvs vs xs : List V} {E : XK} {v z : V} {D : Ends} {tz : TS}
theorem ev_fld (h : Ev ta σ H (.ref a)) (ha : H a = some (.ins C dx fs)) (c : Cls K C) (n : NoAttr K C f) (hv : fs.lookup f = some v) : Ev (tFld K ta f) σ H v := fun H1 e Q q =>
  h H1 e _ fun H2 e2 => ⟨a, C, dx, fs, v, rfl, (e.trans e2) _ _ ha, c, n, hv, q H2 e2⟩
theorem s_fld (hv : Ev tv σ H v) (h : Ev ta σ H (.ref a)) (ha : H a = some (.ins C dx fs)) (c : Cls K C) (n : NoAttr K C f) (hl : fs.length < 1000) (k : ∀ H1, Ex H H1 → D.nx σ (upd H1 a (.ins C dx (putF f v fs)))) : sFld K ta tv f D σ H :=
  hv H (Ex.refl H) _ fun H1 e1 => h H1 e1 _ fun H2 e2 => ⟨a, C, dx, fs, rfl, (e1.trans e2) _ _ ha, c, n, hl, k H2 (e1.trans e2)⟩
theorem q_fld (hv : Ev tv σ H v) (h : Ev ta σ H (.ref a)) (ha : H a = some (.ins C dx fs)) (c : Cls K C) (n : NoAttr K C f) (hl : fs.length < 1000) (k : ∀ H1, Ex H H1 → tz D σ (upd H1 a (.ins C dx (putF f v fs)))) : tSeq (sFld K ta tv f) tz D σ H := s_fld (D := { D with nx := tz D }) hv h ha c n hl k
theorem s_fldL (hv : EvL tv σ H xs) (h : Ev ta σ H (.ref a)) (ha : H a = some (.ins C dx fs)) (c : Cls K C) (n : NoAttr K C f) (hl : fs.length < 1000) (k : ∀ p H1, H p = none → Ex H H1 → H1 p = some (.lst xs) → D.nx σ (upd H1 a (.ins C dx (putF f (.ref p) fs)))) : sFld K ta tv f D σ H :=
  hv H (Ex.refl H) _ fun p H1 hp e1 h1 => h H1 e1 _ fun H2 e2 => ⟨a, C, dx, fs, rfl, (e1.trans e2) _ _ ha, c, n, hl, k p H2 hp (e1.trans e2) (e2 _ _ h1)⟩
theorem q_fldL (hv : EvL tv σ H xs) (h : Ev ta σ H (.ref a)) (ha : H a = some (.ins C dx fs)) (c : Cls K C) (n : NoAttr K C f) (hl : fs.length < 1000) (k : ∀ p H1, H p = none → Ex H H1 → H1 p = some (.lst xs) → tz D σ (upd H1 a (.ins C dx (putF f (.ref p) fs)))) : tSeq (sFld K ta tv f) tz D σ H := s_fldL (D := { D with nx := tz D }) hv h ha c n hl k
/-- e.f op= value, of whole numbers -/
theorem s_fldaug {rd : V → V → Hp → VK → Prop} {w : V} (h : Ev ta σ H (.ref a)) (ha : H a = some (.ins C dx fs)) (c : Cls K C) (n : NoAttr K C f) (hf : fs.lookup f = some w) (hv : Ev tv σ H v) (hr : ∀ H1 (Q : VK), Ex H H1 → Q z H1 → rd w v H1 Q) (hl : fs.length < 1000)
    (k : ∀ H1, Ex H H1 → D.nx σ (upd H1 a (.ins C dx (putF f z fs)))) : sFldAug K ta tv rd f D σ H :=
  h H (Ex.refl H) _ fun H1 e1 => ⟨a, C, dx, fs, w, rfl, e1 _ _ ha, c, n, hf, hv H1 e1 _ fun H2 e2 => hr H2 _ (e1.trans e2) ⟨dx, fs, (e1.trans e2) _ _ ha, hl, k H2 (e1.trans e2)⟩⟩
theorem ev_meth (h : Ev ta σ H (.ref a)) (ha : H a = some (.ins C dx fs)) (hm : fs.lookup m = none) (hA : EvA t σ H vs) (hs : SpV sp (.ref a :: (vs ++ dvs)) H z) : Ev (tMeth C m sp dvs E ta t) σ H z := fun H1 e Q q =>
  h H1 e _ fun H2 e2 => ⟨a, dx, fs, rfl, (e.trans e2) _ _ ha, hm, hA H2 (e.trans e2) _ fun H3 e3 => hs H3 ((e.trans e2).trans e3) Q (fun H4 e4 => q H4 ((e2.trans e3).trans e4)) E⟩
theorem el_meth (h : Ev ta σ H (.ref a)) (ha : H a = some (.ins C dx fs)) (hm : fs.lookup m = none) (hA : EvA t σ H vs) (hs : SpL sp (.ref a :: (vs ++ dvs)) H xs) : EvL (tMeth C m sp dvs E ta t) σ H xs := fun H1 e Q q =>
  h H1 e _ fun H2 e2 => ⟨a, dx, fs, rfl, (e.trans e2) _ _ ha, hm, hA H2 (e.trans e2) _ fun H3 e3 => hs H3 ((e.trans e2).trans e3) Q (fun p H4 hp e4 h4 => q p H4 (fresh_back (e2.trans e3) hp) ((e2.trans e3).trans e4) h4) E⟩
/-- a call that hands back a new tuple -/
def SpU (sp : Sp) (vs : List V) (H : Hp) (xs : List V) : Prop := ∀ H1, Ex H H1 → ∀ Q : VK, (∀ p H2, H1 p = none → Ex H1 H2 → H2 p = some (.tup xs) → Q (.ref p) H2) → ∀ E : XK, sp vs H1 Q E
theorem eu_meth (h : Ev ta σ H (.ref a)) (ha : H a = some (.ins C dx fs)) (hm : fs.lookup m = none) (hA : EvA t σ H vs) (hs : SpU sp (.ref a :: (vs ++ dvs)) H xs) : EvU (tMeth C m sp dvs E ta t) σ H xs := fun H1 e Q q =>
  h H1 e _ fun H2 e2 => ⟨a, dx, fs, rfl, (e.trans e2) _ _ ha, hm, hA H2 (e.trans e2) _ fun H3 e3 => hs H3 ((e.trans e2).trans e3) Q (fun p H4 hp e4 h4 => q p H4 (fresh_back (e2.trans e3) hp) ((e2.trans e3).trans e4) h4) E⟩
theorem eu_call {ta : TA} (h : EvA ta σ H vs) (hs : SpU sp (vs ++ dvs) H xs) : EvU (tCall sp dvs E ta) σ H xs := fun H1 e Q q =>
  h H1 e _ fun H2 e2 => hs H2 (e.trans e2) Q (fun p H3 hp e3 h3 => q p H3 (fresh_back e2 hp) (e2.trans e3) h3) E
/-- any method's call, raw -/
theorem te_meth {Q : VK} (h : Ev ta σ H (.ref a)) (ha : H a = some (.ins C dx fs)) (hm : fs.lookup m = none) (hA : EvA t σ H vs) (k : ∀ H1, Ex H H1 → sp (.ref a :: (vs ++ dvs)) H1 Q E) : tMeth C m sp dvs E ta t σ H Q :=
  h H (Ex.refl H) _ fun H2 e2 => ⟨a, dx, fs, rfl, e2 _ _ ha, hm, hA H2 e2 _ fun H3 e3 => k H3 (e2.trans e3)⟩
theorem te_methX {Q : VK} (h : Ev ta σ H (.ref a)) (ha : H a = some (.ins C dx fs)) (hm : fs.lookup m = none) (k : ∀ H1, Ex H H1 → t σ H1 fun vs H2 => sp (.ref a :: (vs ++ dvs)) H2 Q E) : tMeth C m sp dvs E ta t σ H Q :=
  h H (Ex.refl H) _ fun H2 e2 => ⟨a, dx, fs, rfl, e2 _ _ ha, hm, k H2 e2⟩
theorem te_makeX {Q : VK} (k : t σ H fun vs H1 => ∀ x y, H1 x = none → H1 y = none → y ≠ x → sp (.ref x :: (vs ++ dvs)) (upd (upd H1 y (.own x)) x (.ins C y [])) (fun v H2 => v = .non ∧ Q (.ref x) H2) E) : tMake C sp dvs E t σ H Q := k
theorem te_make {Q : VK} (hA : EvA t σ H vs) (k : ∀ x y H1, Ex H H1 → H1 x = none → H1 y = none → y ≠ x → sp (.ref x :: (vs ++ dvs)) (upd (upd H1 y (.own x)) x (.ins C y [])) (fun v H2 => v = .non ∧ Q (.ref x) H2) E) : tMake C sp dvs E t σ H Q :=
  hA H (Ex.refl H) _ fun H1 e1 x y hx hy hne => k x y H1 e1 hx hy hne
end
/-! ### all but some places (and the tables) stays -/
def Fr (F : List Addr) (H H' : Hp) : Prop := ∀ a o, H a = some o → (∀ ps, o ≠ .tbl ps) → a ∉ F → H' a = some o
def Nw (H : Hp) (p : Addr) : Prop := ∀ o, H p = some o → ∃ ps, o = .tbl ps
theorem Nw.of {H : Hp} {p : Addr} (h : H p = none) : Nw H p := fun o z => by rw [h] at z; cases z
theorem Nw.back {H H' : Hp} {p : Addr} (e : LamX.ExtN H H') (h : Nw H' p) : Nw H p := fun o z => by
  cases o with
  | tbl ps => exact ⟨ps, rfl⟩
  | _ => exact h _ (e _ _ z fun _ q => nomatch q)
theorem Fr.refl (F : List Addr) (H : Hp) : Fr F H H := fun _ _ h _ _ => h
theorem Fr.trans {F : List Addr} {H H1 H2 : Hp} (a : Fr F H H1) (b : Fr F H1 H2) : Fr F H H2 := fun x o h n hx => b x o (a x o h n hx) n hx
theorem Fr.ex {F : List Addr} {H H' : Hp} (e : Ex H H') : Fr F H H' := fun x o h _ _ => e x o h
theorem Fr.exN {F : List Addr} {H H' : Hp} (e : LamX.ExtN H H') : Fr F H H' := fun x o h n _ => e x o h n
theorem Fr.mono {F G : List Addr} {H H' : Hp} (a : Fr F H H') (h : ∀ x ∈ F, x ∈ G) : Fr G H H' := fun x o hx n hg => a x o hx n fun z => hg (h x z)
theorem Fr.upd {F : List Addr} {H H' : Hp} {p : Addr} {o : HO} (a : Fr F H H') (h : p ∈ F) : Fr F H (upd H' p o) := fun x u hx n hf => by
  rw [upd_ne fun z => hf (by rw [z]; exact h)]
  exact a x u hx n hf
theorem Fr.new {F : List Addr} {H H' : Hp} {p : Addr} {o : HO} (a : Fr F H H') (h : Nw H p) : Fr F H (L2.upd H' p o) := fun x u hx n hf => by
  rw [upd_ne fun z => by rw [z] at hx; obtain ⟨ps, e⟩ := h u hx; exact n ps e]
  exact a x u hx n hf
/-- what is new to H0 may change: all of H0 stays -/
theorem ext_of {F : List Addr} {H0 H H' : Hp} (e : LamX.ExtN H0 H) (f : Fr F H H') (h : ∀ a ∈ F, Nw H0 a) : LamX.ExtN H0 H' := fun x o hx n => f x o (e x o hx n) n fun z => by
  obtain ⟨ps, q⟩ := h x z o hx
  exact n ps q
theorem Fr.l {F : List Addr} {H H' : Hp} {a : Addr} {xs : List V} (f : Fr F H H') (h : H a = some (.lst xs)) (n : a ∉ F) : H' a = some (.lst xs) := f a _ h (fun _ z => nomatch z) n
theorem Fr.t {F : List Addr} {H H' : Hp} {a : Addr} {xs : List V} (f : Fr F H H') (h : H a = some (.tup xs)) (n : a ∉ F) : H' a = some (.tup xs) := f a _ h (fun _ z => nomatch z) n
theorem Fr.i {F : List Addr} {H H' : Hp} {a C dx : Addr} {fs : List (Str × V)} (f : Fr F H H') (h : H a = some (.ins C dx fs)) (n : a ∉ F) : H' a = some (.ins C dx fs) := f a _ h (fun _ z => nomatch z) n
/-! ### comprehensions whose element makes something -/
section
variable {K : PySem.W.Frag} {σ : L2.St} {H : Hp} {tt : TT} {te : TE} {g : TG} {vs : List Nat} {a b : Addr} {xs ys : List V} {ta : TA} {Q : VK}
theorem rz_lc (h : EvA ta σ H [.ref a, .ref b]) (hx : SqL K H a xs) (hy : SqL K H b ys) (hl : xs.length = ys.length) (Pv : Addr → Nat → Hp → Prop) (h0 : ∀ D H1, Ex H H1 → H1 D = none → Pv D 0 (upd H1 D (.lst []))) (hq : ∀ D i H', Pv D i H' → SqL K H' a xs ∧ SqL K H' b ys)
    (hs : ∀ D i x y T H', xs[i]? = some x → ys[i]? = some y → Pv D i H' → H' T = none → g (.ref T) (wipe σ vs) (upd H' T (.tup [x, y])) fun σ2 H2 => wipe σ2 vs = wipe σ vs ∧ tt σ2 H2 fun b H3 =>
      if b = true then te σ2 H3 fun y H4 => ∃ acc, H4 D = some (.lst acc) ∧ acc.length < sizeLine ∧ Pv D (i + 1) (upd H4 D (.lst (acc ++ [y]))) else Pv D (i + 1) H3)
    (hd : ∀ D H', Pv D xs.length H' → Q (.ref D) H') : tLc (RZ.iZipA K ta) g tt te vs σ H Q := h H (Ex.refl H) _ fun H1 e1 => ⟨a, b, xs, ys, rfl, .inl ⟨ex_l e1 hx, ex_l e1 hy, fun Dl hD => by
  refine ⟨fun i m H' => m = xs.length - i ∧ i ≤ xs.length ∧ Pv Dl i H', ⟨xs.length, by simp, Nat.zero_le _, h0 Dl H1 e1 hD⟩, ?_⟩
  rintro i m H' ⟨rfl, hi, p⟩
  obtain ⟨hX, hY⟩ := hq Dl i H' p
  by_cases hlt : i < xs.length
  · have hlt2 : i < ys.length := by omega
    refine .inr ⟨⟨xs, ys, xs[i], ys[i], hX, hY, List.getElem?_eq_getElem hlt, List.getElem?_eq_getElem hlt2⟩, Pv Dl (i + 1), fun H2 p' => ⟨xs.length - (i + 1), by omega, rfl, hlt, p'⟩, fun z H2 hzz => ?_⟩
    obtain ⟨T, x, y, rfl, nT, rfl, hxx, hyy⟩ := hzz
    exact hs Dl i x y T H' (hxx xs hX) (hyy ys hY) p nT
  · have ei : i = xs.length := by omega
    subst ei
    exact .inl ⟨⟨xs, ys, hX, hY, .inl (Nat.le_refl _)⟩, hd Dl H' p⟩⟩⟩
theorem rl_lc {tl : TE} (h : Ev tl σ H (.ref a)) (hx : SqL K H a xs) (Pv : Addr → Nat → Hp → Prop) (h0 : ∀ D H1, Ex H H1 → H1 D = none → Pv D 0 (upd H1 D (.lst []))) (hq : ∀ D i H', Pv D i H' → SqL K H' a xs)
    (hs : ∀ D i x H', xs[i]? = some x → Pv D i H' → g x (wipe σ vs) H' fun σ2 H2 => wipe σ2 vs = wipe σ vs ∧ tt σ2 H2 fun b H3 =>
      if b = true then te σ2 H3 fun y H4 => ∃ acc, H4 D = some (.lst acc) ∧ acc.length < sizeLine ∧ Pv D (i + 1) (upd H4 D (.lst (acc ++ [y]))) else Pv D (i + 1) H3)
    (hd : ∀ D H', Pv D xs.length H' → Q (.ref D) H') : tLc (iList K tl) g tt te vs σ H Q := h H (Ex.refl H) _ fun H1 e1 => ⟨a, rfl, ⟨xs, ex_l e1 hx⟩, fun Dl hD => lc_list (xs := xs) (Pv Dl) (h0 Dl H1 e1 hD) (fun i H' _ p => hq Dl i H' p) (fun i x H' hi p => hs Dl i x H' hi p) (fun H' p => hd Dl H' p)⟩
end
/-! ### all but some places stays, the tables too -/
def ExF (F : List Addr) (H H' : Hp) : Prop := ∀ a o, H a = some o → a ∉ F → H' a = some o
theorem ExF.refl (F : List Addr) (H : Hp) : ExF F H H := fun _ _ h _ => h
theorem ExF.trans {F : List Addr} {H H1 H2 : Hp} (a : ExF F H H1) (b : ExF F H1 H2) : ExF F H H2 := fun x o h hx => b x o (a x o h hx) hx
theorem ExF.ex {F : List Addr} {H H' : Hp} (e : Ex H H') : ExF F H H' := fun x o h _ => e x o h
theorem ExF.upd {F : List Addr} {H H' : Hp} {p : Addr} {o : HO} (a : ExF F H H') (h : p ∈ F) : ExF F H (L2.upd H' p o) := fun x u hx hf => by
  rw [upd_ne fun z => hf (by rw [z]; exact h)]
  exact a x u hx hf
theorem ExF.new {F : List Addr} {H H' : Hp} {p : Addr} {o : HO} (a : ExF F H H') (h : H p = none) : ExF F H (L2.upd H' p o) := fun x u hx hf => by
  rw [upd_ne fun z => by rw [z, h] at hx; cases hx]
  exact a x u hx hf
theorem ExF.mono {F G : List Addr} {H H' : Hp} (a : ExF F H H') (h : ∀ x ∈ F, x ∈ G) : ExF G H H' := fun x o hx hg => a x o hx fun z => hg (h x z)
theorem ExF.fr {F : List Addr} {H H' : Hp} (a : ExF F H H') : Fr F H H' := fun x o h _ hx => a x o h hx
theorem ExF.l {F : List Addr} {H H' : Hp} {a : Addr} {xs : List V} (f : ExF F H H') (h : H a = some (.lst xs)) (n : a ∉ F) : H' a = some (.lst xs) := f a _ h n
/-- lists and instances, or nothing -/
def Soft (F : List Addr) (H : Hp) : Prop := ∀ a ∈ F, H a = none ∨ (∃ xs, H a = some (.lst xs)) ∨ ∃ C dx fs, H a = some (.ins C dx fs)
theorem tabs_exF {T : List (Addr × Str)} {F : List Addr} {H H' : Hp} (t : LamX.Tabs T H) (e : ExF F H H') (s : Soft F H) : LamX.Tabs T H' := fun q hq => by
  obtain ⟨ps, h1, h2, h3⟩ := t q hq
  refine ⟨ps, e _ _ h1 fun z => ?_, h2, fun pos cv hc => ?_⟩
  · rcases s _ z with h | ⟨xs, h⟩ | ⟨C, dx, fs, h⟩ <;> rw [h1] at h <;> cases h
  · obtain ⟨c, e1, e2⟩ := h3 pos cv hc
    refine ⟨c, e1, e _ _ e2 fun z => ?_⟩
    rcases s _ z with h | ⟨xs, h⟩ | ⟨C, dx, fs, h⟩ <;> rw [e2] at h <;> first | cases h | (unfold LamX.CodeO at h; cases h)
theorem q_asgX {te : TE} {σ : L2.St} {H : Hp} {i : Nat} {D : Ends} {tz : TS} (k : te σ H fun v H1 => tz D (σ.set i (some v)) H1) : tSeq (tAsg te (gName i)) tz D σ H := k
theorem q_fldX {K : PySem.W.Frag} {tv : TE} {σ : L2.St} {H : Hp} {i : Nat} {f : Str} {D : Ends} {tz : TS} (k : tv σ H fun v H1 => tVar i σ H1 fun x H2 => ∃ a C dx fs, x = .ref a ∧ H2 a = some (.ins C dx fs) ∧ Cls K C ∧ NoAttr K C f ∧ fs.length < 1000 ∧ tz D σ (L2.upd H2 a (.ins C dx (putF f v fs)))) : tSeq (sFld K (tVar i) tv f) tz D σ H := k
theorem fld_end {K : PySem.W.Frag} {σ : L2.St} {H : Hp} {i : Nat} {a C dx : Addr} {fs : List (Str × V)} {f : Str} {D : Ends} {tz : TS} {v : V} (hi : σ[i]? = some (some (.ref a))) (ha : H a = some (.ins C dx fs)) (c : Cls K C) (n : NoAttr K C f) (hl : fs.length < 1000) (k : tz D σ (L2.upd H a (.ins C dx (putF f v fs)))) :
    tVar i σ H fun x H2 => ∃ a C dx fs, x = .ref a ∧ H2 a = some (.ins C dx fs) ∧ Cls K C ∧ NoAttr K C f ∧ fs.length < 1000 ∧ tz D σ (L2.upd H2 a (.ins C dx (putF f v fs))) := ⟨_, hi, a, C, dx, fs, rfl, ha, c, n, hl, k⟩
theorem q_dropX {te : TE} {σ : L2.St} {H : Hp} {D : Ends} {tz : TS} (k : te σ H fun _ H1 => tz D σ H1) : tSeq (tDrop te) tz D σ H := k
theorem q_asgXg {te : TE} {g : TG} {σ : L2.St} {H : Hp} {D : Ends} {tz : TS} (k : te σ H fun v H1 => g v σ H1 (tz D)) : tSeq (tAsg te g) tz D σ H := k
theorem s_appX {K : PySem.W.Frag} {σ : L2.St} {H : Hp} {ta te : TE} {D : Ends} {l : Addr} {xs : List V} (hl : H l = some (.lst xs)) (ha : Ev ta σ H (.ref l)) (k : ∀ H1, Ex H H1 → te σ H1 fun v H2 => rAppend (.ref l) [v] H2 fun _ H3 => D.nx σ H3) : tDrop (tBM K "list" rAppend ta (tCons te tNil)) D σ H :=
  ha H (Ex.refl H) _ fun H1 e1 => ⟨Or.inl ⟨rfl, xs, sq_of (e1 l _ hl)⟩, k H1 e1⟩
theorem q_appX {K : PySem.W.Frag} {σ : L2.St} {H : Hp} {ta te : TE} {D : Ends} {tz : TS} {l : Addr} {xs : List V} (hl : H l = some (.lst xs)) (ha : Ev ta σ H (.ref l)) (k : ∀ H1, Ex H H1 → te σ H1 fun v H2 => rAppend (.ref l) [v] H2 fun _ H3 => tz D σ H3) : tSeq (tDrop (tBM K "list" rAppend ta (tCons te tNil))) tz D σ H := s_appX (D := { D with nx := tz D }) hl ha k
theorem te_if {t : TT} {ta tb : TE} {σ : L2.St} {H : Hp} {Q : VK} {b : Bool} (h : EvT t σ H b) (h1 : b = true → ∀ H1, Ex H H1 → ta σ H1 Q) (h2 : b = false → ∀ H1, Ex H H1 → tb σ H1 Q) : tIf t ta tb σ H Q := h H (Ex.refl H) _ fun H1 e1 => by
  cases b with
  | true => rw [if_pos rfl]; exact h1 rfl H1 e1
  | false => rw [if_neg Bool.false_ne_true]; exact h2 rfl H1 e1
theorem ea_star {K : PySem.W.Frag} {te : TE} {tr : TA} {σ : L2.St} {H : Hp} {p : Addr} {xs vs : List V} (h : Ev te σ H (.ref p)) (hp : SqT K H p xs) (hr : EvA tr σ H vs) : EvA (StX.tStar K te tr) σ H (xs ++ vs) := fun H1 e Q q =>
  h H1 e _ fun H2 e2 => ⟨p, xs, rfl, .inl (ex_t (e.trans e2) hp), hr H2 (e.trans e2) _ fun H3 e3 => q H3 (e2.trans e3)⟩
/-! ### arguments that make new places -/
section
variable {K : PySem.W.Frag} {σ : L2.St} {H : Hp} {te tl : TE} {tr : TA} {v : V} {xs : List V}
theorem ta_cons {Q : List V → Hp → Prop} (h : Ev te σ H v) (k : ∀ H1, Ex H H1 → tr σ H1 fun vs H2 => Q (v :: vs) H2) : tCons te tr σ H Q := h H (Ex.refl H) _ k
theorem ta_consX {Q : List V → Hp → Prop} (k : te σ H fun x H1 => tr σ H1 fun xs H2 => Q (x :: xs) H2) : tCons te tr σ H Q := k
theorem ta_all {ta : TA} {vs : List V} {Q : List V → Hp → Prop} (h : EvA ta σ H vs) (k : ∀ H1, Ex H H1 → Q vs H1) : ta σ H Q := h H (Ex.refl H) _ k
theorem te_call {sp : Sp} {dvs vs : List V} {E : XK} {ta : TA} {Q : VK} (h : EvA ta σ H vs) (k : ∀ H1, Ex H H1 → sp (vs ++ dvs) H1 Q E) : tCall sp dvs E ta σ H Q := h H (Ex.refl H) _ k
theorem s_retX {ta : TA} {D : Ends} (k : ta σ H fun xs H1 => xs.length ≤ sizeLine ∧ ∀ p, H1 p = none → D.rt (.ref p) (upd H1 p (.lst xs))) : tRet (tLst ta) D σ H := k
end

end Su
namespace Su
/-! ### what is known of a value is its data -/
section
variable {K : PySem.W.Frag} {σ : L2.St} {H : Hp} {te ta tb : TE} {tA : TA} {d : PyData} {ds : List PyData} {v : V} {xs : List V} {i : Int} {D : Ends} {tz : TS}
def EvD (K : PySem.W.Frag) (te : TE) (σ : L2.St) (H : Hp) (d : PyData) : Prop := ∀ H1, Ex H H1 → ∀ Q : VK, (∀ v H2, Ex H1 H2 → Dp K H2 v d → Q v H2) → te σ H1 Q
def EvAD (K : PySem.W.Frag) (ta : TA) (σ : L2.St) (H : Hp) (ds : List PyData) : Prop := ∀ H1, Ex H H1 → ∀ Q : List V → Hp → Prop, (∀ vs H2, Ex H1 H2 → DpAll K H2 vs ds → Q vs H2) → ta σ H1 Q
theorem EvD.mono {H' : Hp} (e : Ex H H') (h : EvD K te σ H d) : EvD K te σ H' d := fun H1 a Q q => h H1 (e.trans a) Q q
theorem evd_v (h : Ev te σ H v) (hd : Dp K H v d) : EvD K te σ H d := fun H1 e Q q => h H1 e _ fun H2 e2 => q v H2 e2 (dp_ex (e.trans e2) hd)
theorem evd_int (h : Ev te σ H (.int i)) : EvD K te σ H (.int i) := evd_v h (.int i)
theorem evd_bl {b : Bool} (h : Ev te σ H (.bl b)) : EvD K te σ H (.bool b) := evd_v h (.bl b)
theorem evd_str {z : Str} (h : Ev te σ H (.str z)) : EvD K te σ H (.str z) := evd_v h (.str z)
theorem evd_L (h : EvL te σ H xs) (hd : DpAll K H xs ds) : EvD K te σ H (.list ds) := fun H1 e Q q => h H1 e _ fun p H2 _ e2 h2 => q _ H2 e2 (.lst (sq_of h2) (dpa_ex (e.trans e2) hd))
theorem evd_U (h : EvU te σ H xs) (hd : DpAll K H xs ds) : EvD K te σ H (.tuple ds) := fun H1 e Q q => h H1 e _ fun p H2 _ e2 h2 => q _ H2 e2 (.tup (st_of h2) (dpa_ex (e.trans e2) hd))
theorem evad_nil : EvAD K tNil σ H [] := fun H1 _ _ q => q [] H1 (Ex.refl H1) .nil
theorem evad_cons {tr : TA} (h : EvD K te σ H d) (hr : EvAD K tr σ H ds) : EvAD K (tCons te tr) σ H (d :: ds) := fun H1 e Q q => h H1 e _ fun v H2 e2 hv => hr H2 (e.trans e2) _ fun vs H3 e3 hvs => q _ H3 (e2.trans e3) (.cons (dp_ex e3 hv) hvs)
theorem evd_lst (h : EvAD K tA σ H ds) (hl : ds.length ≤ 1000 := by simp) : EvD K (tLst tA) σ H (.list ds) := fun H1 e Q q => h H1 e _ fun vs H2 e2 hv => ⟨sz_of (by rw [dpa_len hv]; omega), fun p hp => q _ _ (e2.trans (Ex.new hp)) (.lst (sq_of upd_same) (dpa_ex (Ex.new hp) hv))⟩
theorem evd_tup (h : EvAD K tA σ H ds) (hl : ds.length ≤ 1000 := by simp) : EvD K (tTup tA) σ H (.tuple ds) := fun H1 e Q q => h H1 e _ fun vs H2 e2 hv => ⟨sz_of (by rw [dpa_len hv]; omega), fun p hp => q _ _ (e2.trans (Ex.new hp)) (.tup (st_of upd_same) (dpa_ex (Ex.new hp) hv))⟩
theorem q_asgD {j : Nat} (h : EvD K te σ H d) (k : ∀ v H1, Ex H H1 → Dp K H1 v d → tz D (σ.set j (some v)) H1) : tSeq (tAsg te (gName j)) tz D σ H := h H (Ex.refl H) _ fun v H1 e1 hv => k v H1 e1 hv
theorem ev_sameD {n : Nat} {E : XK} (hp : PlD n d) (h1 : EvD K ta σ H d) (h2 : EvD K tb σ H d) : Ev (tCall (spSame K n) [] E (tCons ta (tCons tb tNil))) σ H (.bl true) := fun H1 e Q q =>
  h1 H1 e _ fun v H2 e2 hv => h2 H2 (e.trans e2) _ fun w H3 e3 hw => spV_same hp (dp_ex e3 hv) hw H3 (Ex.refl _) Q (fun H4 e4 => q H4 ((e2.trans e3).trans e4)) E
theorem et_sameD {n : Nat} {E : XK} (hp : PlD n d) (h1 : EvD K ta σ H d) (h2 : EvD K tb σ H d) : EvT (tB (tCall (spSame K n) [] E (tCons ta (tCons tb tNil)))) σ H true := et_B (ev_sameD hp h1 h2)
theorem dpa_intsV {ns : List Int} : DpAll K H (ns.map V.int) (ns.map PyData.int) := dpa_of V.int PyData.int ns fun i _ => .int i
theorem eu_tupOf {p : Addr} (ha : Ev te σ H (.ref p)) (h : SqL K H p xs) : EvU (tCB (fun xs H Q => ∃ p ys, xs = [V.ref p] ∧ ((SqL K H p ys ∧ ∀ l, H l = none → Q (.ref l) (upd H l (.tup ys))) ∨ (SqT K H p ys ∧ Q (.ref p) H))) (tCons te tNil)) σ H xs := fun H0 e Q q =>
  ha H0 e _ fun H1 e1 => ⟨p, xs, rfl, .inl ⟨ex_l (e.trans e1) h, fun l hl => q l _ (fresh_back e1 hl) (e1.trans (Ex.new hl)) upd_same⟩⟩
theorem rc_intB {b : Bool} : RC (fun xs H Q => (∃ i, xs = [V.int i] ∧ Q (.int i) H) ∨ ∃ k, xs = [V.bl k] ∧ Q (.int (if k = true then 1 else 0)) H) [.bl b] H (.int (if b = true then 1 else 0)) := fun H1 _ _ q => .inr ⟨b, rfl, q H1 (Ex.refl H1)⟩
theorem pld_ints {n : Nat} {ns : List Int} (h : ns.length ≤ 1000) : PlD (n + 1) (.list (ns.map PyData.int)) := .list (by rw [List.length_map]; exact h) fun x hx => by
  obtain ⟨z, _, rfl⟩ := List.mem_map.mp hx
  exact .int z
/-- {a: x, b: y, c: z}[k] -/
theorem ev_dsel {a1 a2 a3 k : Str} {t1 t2 t3 tk : TE} {v1 v2 v3 : V} (h1 : Ev t1 σ H v1) (h2 : Ev t2 σ H v2) (h3 : Ev t3 σ H v3) (hk : Ev tk σ H (.str k)) (n12 : ¬ a1 = a2) (n13 : ¬ a1 = a3) (n23 : ¬ a2 = a3) (hv : (if k = a1 then some v1 else if k = a2 then some v2 else if k = a3 then some v3 else none) = some v) :
    Ev (tDGet (tDisp [(tC (.str a1), t1), (tC (.str a2), t2), (tC (.str a3), t3)]) tk) σ H v := fun H0 e Q q => fun p hp => by
  refine h1 _ (e.trans (Ex.new hp)) _ fun H1 e1 => h2 H1 ((e.trans (Ex.new hp)).trans e1) _ fun H2 e2 => h3 H2 (((e.trans (Ex.new hp)).trans e1).trans e2) _ fun H3 e3 => ?_
  have e03 : Ex (upd H0 p (.dK [])) H3 := (e1.trans e2).trans e3
  refine ⟨e03 _ _ upd_same, [(.inr a1, v1), (.inr a2, v2), (.inr a3, v3)], rfl, by show 3 ≤ 15; decide, ?_⟩
  have em : mergeK [] [(Sum.inr a1, v1), (Sum.inr a2, v2), (Sum.inr a3, v3)] = [((Sum.inr a1 : Key), v1), (.inr a2, v2), (.inr a3, v3)] := by
    have i12 : ¬ (Sum.inr a1 : Key) = .inr a2 := fun z => n12 (Sum.inr.inj z)
    have i13 : ¬ (Sum.inr a1 : Key) = .inr a3 := fun z => n13 (Sum.inr.inj z)
    have i23 : ¬ (Sum.inr a2 : Key) = .inr a3 := fun z => n23 (Sum.inr.inj z)
    unfold mergeK
    simp [putK, i12, i13, i23]
  have ex : Ex H0 (upd H3 p (.dK (mergeK [] [(Sum.inr a1, v1), (Sum.inr a2, v2), (Sum.inr a3, v3)]))) := Ex.mut ((Ex.new hp).trans e03) hp
  refine hk _ (e.trans ex) _ fun H4 e4 => ⟨p, v, rfl, ?_, q H4 (ex.trans e4)⟩
  refine .inl ⟨_, .inr k, .inl (e4 _ _ upd_same), rfl, ?_⟩
  rw [em]
  unfold valV
  by_cases c1 : k = a1
  · rw [if_pos c1] at hv
    subst c1
    simp [← hv]
  · rw [if_neg c1] at hv
    have d1 : ¬ (Sum.inr a1 : Key) = .inr k := fun z => c1 (Sum.inr.inj z).symm
    by_cases c2 : k = a2
    · rw [if_pos c2] at hv
      subst c2
      simp [d1, ← hv]
    · rw [if_neg c2] at hv
      have d2 : ¬ (Sum.inr a2 : Key) = .inr k := fun z => c2 (Sum.inr.inj z).symm
      by_cases c3 : k = a3
      · rw [if_pos c3] at hv
        subst c3
        simp [d1, d2, ← hv]
      · rw [if_neg c3] at hv
        cases hv
end

end Su
namespace Su
/-! ### for x, y in zip(xs, ys) -/
theorem s_forZ {K : PySem.W.Frag} {a b : Addr} {xs ys : List V} {g : TG} {tb : TS} {D : Ends} {σ : L2.St} {H : Hp} {ta : TA} (h : EvA ta σ H [.ref a, .ref b]) (hx : SqL K H a xs) (hy : SqL K H b ys) (hlen : xs.length = ys.length) (Pv : Nat → L2.St → Hp → Prop) (h0 : ∀ H1, Ex H H1 → Pv 0 σ H1) (hl : ∀ i σ' H', i ≤ xs.length → Pv i σ' H' → SqL K H' a xs ∧ SqL K H' b ys)
    (hs : ∀ i x y T σ' Hc, xs[i]? = some x → ys[i]? = some y → Pv i σ' Hc → Hc T = none → ∃ σ2, Tgt g (.ref T) σ' σ2 (upd Hc T (.tup [x, y])) ∧ tb { D with nx := Pv (i + 1), ct := Pv (i + 1), bk := D.nx } σ2 (upd Hc T (.tup [x, y])))
    (hd : ∀ σ' H', Pv xs.length σ' H' → D.nx σ' H') : tFor (RZ.iZipA K ta) g tb D σ H :=
  h H (Ex.refl H) _ fun H1 e1 => ⟨a, b, xs, ys, rfl, .inl ⟨ex_l e1 hx, ex_l e1 hy, by
    refine ⟨fun i m σ' H' => m = xs.length - i ∧ i ≤ xs.length ∧ Pv i σ' H', ⟨xs.length, by simp, Nat.zero_le _, h0 H1 e1⟩, ?_⟩
    rintro i m σ' H' ⟨rfl, hi, p⟩
    obtain ⟨hX, hY⟩ := hl i σ' H' hi p
    by_cases hlt : i < xs.length
    · have hlt2 : i < ys.length := by omega
      refine .inr ⟨⟨xs, ys, xs[i], ys[i], hX, hY, List.getElem?_eq_getElem hlt, List.getElem?_eq_getElem hlt2⟩, Pv (i + 1), fun σ2 H2 p' => ⟨xs.length - (i + 1), by omega, rfl, hlt, p'⟩, fun z H2 hz => ?_⟩
      obtain ⟨T, x, y, rfl, nT, rfl, hxx, hyy⟩ := hz
      obtain ⟨σ2, h1, h2⟩ := hs i x y T σ' H' (hxx xs hX) (hyy ys hY) p nT
      exact h1 _ (Ex.refl _) _ h2
    · have ei : i = xs.length := by omega
      subst ei
      exact .inl ⟨⟨xs, ys, hX, hY, .inl (Nat.le_refl _)⟩, hd σ' H' p⟩⟩⟩

end Su
namespace Su
/-! ### for i, x in enumerate(xs), within a suite -/
theorem q_forE {K : PySem.W.Frag} {a : Addr} {xs : List V} {g : TG} {tb tz : TS} {D : Ends} {σ : L2.St} {H : Hp} {ta : TA} (h : EvA ta σ H [.ref a]) (hx : SqL K H a xs) (Pv : Nat → L2.St → Hp → Prop) (h0 : ∀ H1, Ex H H1 → Pv 0 σ H1) (hl : ∀ i σ' H', i ≤ xs.length → Pv i σ' H' → SqL K H' a xs)
    (hs : ∀ i x T σ' Hc, xs[i]? = some x → Pv i σ' Hc → Hc T = none → ∃ σ2, Tgt g (.ref T) σ' σ2 (upd Hc T (.tup [.int (i : Nat), x])) ∧ tb { D with nx := Pv (i + 1), ct := Pv (i + 1), bk := tz D } σ2 (upd Hc T (.tup [.int (i : Nat), x])))
    (hd : ∀ σ' H', Pv xs.length σ' H' → tz D σ' H') : tSeq (tFor (iEnum K ta) g tb) tz D σ H := s_forE (D := { D with nx := tz D }) h hx Pv h0 hl hs hd

end Su
namespace Su
section
variable {K : PySem.W.Frag}
theorem rc_isi_tup {H : Hp} {t : Addr} {xs : List V} (h : H t = some (.tup xs)) : RC (rIsi K) [.ref t, .ty "tuple"] H (.bl true) := fun H1 e1 _ q => ⟨.ref t, .ty "tuple", .type "tuple", .type "tuple", true, rfl, .ty "tuple", .base (.tup (e1 _ _ h)), kit_ty (by decide +kernel), q H1 (Ex.refl H1)⟩
theorem ev_lenT {ta : TE} {σ : L2.St} {H : Hp} {t : Addr} {xs : List V} (ha : Ev ta σ H (.ref t)) (h : H t = some (.tup xs)) : Ev (tCB (rLenS K) (tCons ta tNil)) σ H (.int (xs.length : Int)) := ev_cb (ea_cons ha ea_nil) (rc_len (.inr (st_of h)))
end

end Su
namespace Su
/-! ### a row of five values and two lists; two values are the same, raw -/
section
variable {K : PySem.W.Frag} {σ : L2.St} {H : Hp}
theorem te_row {t1 t2 t3 t4 t5 ta tb : TE} {v1 v2 v3 v4 v5 : V} {xs ys : List V} {Q : VK} (h1 : Ev t1 σ H v1) (h2 : Ev t2 σ H v2) (h3 : Ev t3 σ H v3) (h4 : Ev t4 σ H v4) (h5 : Ev t5 σ H v5) (ha : EvL ta σ H xs) (hb : EvL tb σ H ys)
    (k : ∀ p f g H1, H p = none → H f = none → H g = none → Ex H H1 → H1 p = some (.tup [v1, v2, v3, v4, v5, .ref f, .ref g]) → H1 f = some (.lst xs) → H1 g = some (.lst ys) → Q (.ref p) H1) : tTup (tCons t1 (tCons t2 (tCons t3 (tCons t4 (tCons t5 (tCons ta (tCons tb tNil))))))) σ H Q :=
  h1 H (Ex.refl H) _ fun H1 e1 => h2 H1 e1 _ fun H2 e2 => h3 H2 (e1.trans e2) _ fun H3 e3 => h4 H3 ((e1.trans e2).trans e3) _ fun H4 e4 => h5 H4 (((e1.trans e2).trans e3).trans e4) _ fun H5 e5 => by
    have e05 := (((e1.trans e2).trans e3).trans e4).trans e5
    refine ha H5 e05 _ fun f H6 hf e6 h6 => ?_
    have e06 := e05.trans e6
    refine hb H6 e06 _ fun g H7 hg e7 h7 => ?_
    exact ⟨sz_of (by show 7 ≤ 100000; decide), fun p hp => k p f g _ (fresh_back (e06.trans e7) hp) (fresh_back e05 hf) (fresh_back e06 hg) ((e06.trans e7).trans (Ex.new hp)) upd_same ((e7.trans (Ex.new hp)) _ _ h6) ((Ex.new hp) _ _ h7)⟩
theorem q_sameX {n : Nat} {tm tb : TE} {E : XK} {tA tz : TS} {D : Ends} (k : tm σ H fun v H1 => tb σ H1 fun w H2 => spSame K n [v, w] H2 (fun r H3 => ∃ c, r = .bl c ∧ (if (!c) = true then tA { D with nx := tz D } σ H3 else tz D σ H3)) E) : tSeq (tIfS (tNot (tB (tCall (spSame K n) [] E (tCons tm (tCons tb tNil))))) tA tNext) tz D σ H := k
theorem s_sameX {n : Nat} {tm tb : TE} {E : XK} {tA : TS} {D : Ends} (k : tm σ H fun v H1 => tb σ H1 fun w H2 => spSame K n [v, w] H2 (fun r H3 => ∃ c, r = .bl c ∧ (if (!c) = true then tA D σ H3 else D.nx σ H3)) E) : tIfS (tNot (tB (tCall (spSame K n) [] E (tCons tm (tCons tb tNil))))) tA tNext D σ H := k
theorem same_fin {n : Nat} {v w : V} {d : PyData} {E : XK} {A B : Hp → Prop} (hp : PlD n d) (h1 : Dp K H v d) (h2 : Dp K H w d) (k : ∀ H3, Ex H H3 → B H3) : spSame K n [v, w] H (fun r H3 => ∃ c, r = .bl c ∧ (if (!c) = true then A H3 else B H3)) E := ⟨v, w, d, rfl, hp, h1, h2, fun H3 e => ⟨true, rfl, k H3 e⟩⟩
theorem q_forL1 {tl : TE} {g : TG} {tb tz : TS} {D : Ends} {Pc : Addr → Hp → Prop} (hcall : ∀ Q : VK, (∀ p H1, Pc p H1 → Q (.ref p) H1) → tl σ H Q) (k : ∀ p H1, Pc p H1 → tSeq (tFor (iList K (tC (.ref p))) g tb) tz D σ H1) : tSeq (tFor (iList K tl) g tb) tz D σ H := hcall _ fun p H1 h => k p H1 h
end

end Su
namespace Su
/-! ### small rules that stand in the circle's parts too -/
section
variable {P : Program} {w : World} {K : PySem.W.Frag} {mg : Str → Option Value} {base : Heap}
theorem ints_get {ns : List Int} {i : Nat} {x : V} (h : (ns.map V.int)[i]? = some x) : ∃ n, x = .int n ∧ ns[i]? = some n := by
  rw [List.getElem?_map] at h
  cases hc : ns[i]? with
  | none => rw [hc] at h; cases h
  | some c => rw [hc] at h; exact ⟨c, (Option.some.inj h).symm, rfl⟩
theorem zips {ns : List Str} {vs : List V} {f : Str} {v : V} (h : f ∉ ns := by decide +kernel) (hl : ns.length = vs.length := by rfl) : putF f v (ns.zip vs) = (ns ++ [f]).zip (vs ++ [v]) := zip_snoc h hl
theorem s_fldN {ta tv : TE} {f : Str} {σ : L2.St} {H : Hp} {a C dx : Addr} {fs : List (Str × V)} {v : V} {D : Ends} (hv : Ev tv σ H v) (h : Ev ta σ H (.ref a)) (ha : H a = some (.ins C dx fs)) (c : Cls K C) (n : NoAttr K C f) (hl : fs.length < 1000) (k : ∀ H1, ExF [a] H H1 → H1 a = some (.ins C dx (putF f v fs)) → D.nx σ H1) : sFld K ta tv f D σ H :=
  s_fld hv h ha c n hl fun H1 e => k _ ((ExF.ex e).upd (List.mem_singleton.mpr rfl)) upd_same
theorem q_fldN {ta tv : TE} {f : Str} {σ : L2.St} {H : Hp} {a C dx : Addr} {fs : List (Str × V)} {v : V} {D : Ends} {tz : TS} (hv : Ev tv σ H v) (h : Ev ta σ H (.ref a)) (ha : H a = some (.ins C dx fs)) (c : Cls K C) (n : NoAttr K C f) (hl : fs.length < 1000) (k : ∀ H1, ExF [a] H H1 → H1 a = some (.ins C dx (putF f v fs)) → tz D σ H1) : tSeq (sFld K ta tv f) tz D σ H := s_fldN (D := { D with nx := tz D }) hv h ha c n hl k
theorem s_fldLN {ta tv : TE} {f : Str} {σ : L2.St} {H : Hp} {a C dx : Addr} {fs : List (Str × V)} {xs : List V} {D : Ends} (hv : EvL tv σ H xs) (h : Ev ta σ H (.ref a)) (ha : H a = some (.ins C dx fs)) (c : Cls K C) (n : NoAttr K C f) (hl : fs.length < 1000) (k : ∀ p H1, H p = none → ExF [a] H H1 → H1 p = some (.lst xs) → H1 a = some (.ins C dx (putF f (.ref p) fs)) → p ≠ a → D.nx σ H1) : sFld K ta tv f D σ H :=
  s_fldL hv h ha c n hl fun p H1 hp e h1 => by
    have np : p ≠ a := fun z => by rw [z, ha] at hp; cases hp
    exact k p _ hp ((ExF.ex e).upd (List.mem_singleton.mpr rfl)) (by rw [upd_ne np]; exact h1) upd_same np
theorem q_fldLN {ta tv : TE} {f : Str} {σ : L2.St} {H : Hp} {a C dx : Addr} {fs : List (Str × V)} {xs : List V} {D : Ends} {tz : TS} (hv : EvL tv σ H xs) (h : Ev ta σ H (.ref a)) (ha : H a = some (.ins C dx fs)) (c : Cls K C) (n : NoAttr K C f) (hl : fs.length < 1000) (k : ∀ p H1, H p = none → ExF [a] H H1 → H1 p = some (.lst xs) → H1 a = some (.ins C dx (putF f (.ref p) fs)) → p ≠ a → tz D σ H1) : tSeq (sFld K ta tv f) tz D σ H := s_fldLN (D := { D with nx := tz D }) hv h ha c n hl k
theorem nx' {y x : Addr} (h : y ≠ x) : y ∉ [x] := fun z => h (List.mem_singleton.mp z)
theorem given_rng {n : Nat} (v : Nat → V) : given n (fun _ => true) v = (List.range n).map v := by
  unfold given
  rw [List.filter_eq_self.mpr fun _ _ => rfl]
theorem atI_nat' {xs : List V} {z : Int} {i : Nat} {v : V} (h : z = (i : Int)) (hv : xs[i]? = some v) : atI xs z = some v := by
  rw [h]
  exact atI_nat hv
theorem int_nat {bids : List Int} {i : Nat} (h : i < bids.length) : (bids.map V.int)[i]? = some (.int (bids.getD i 0)) := by
  rw [List.getElem?_map, List.getElem?_eq_getElem h, List.getD_eq_getElem?_getD, List.getElem?_eq_getElem h]
  rfl
def spCov : Sp := fun vs H Q _ => ∃ st n pl t : Int, vs = [.int st, .int n, .int pl, .int t] ∧ -100000 ≤ n - t ∧ n - t ≤ 100000 ∧ ∀ H', Ex H H' → Q (.bl (decide (pl ≥ st * (n - t)))) H'
theorem ok_is_covered (T : Top K mg) {k : Nat} : FnOk P w K mg base CX0 (k + 1) T.f_is_covered T.fd_is_covered ["stake", "seats", "pledge", "turn"] spCov := by
  have nd := sc_is_covered.nd
  refine T.F_is_covered.ok sc_is_covered (fun vs H Q E h => ?_) (fun cdv A outer s H vs Q E hr h => ?_)
  · obtain ⟨st, n, pl, t, rfl, _⟩ := h
    rfl
  · obtain ⟨st, n, pl, t, rfl, h1, h2, q⟩ := h
    refine ⟨_, (pss_one (ps_ret (pe_cmpR op_ge (pv 2) (pe_op op_mul (pv 0) (pe_op op_sub (pv 1) (pv 3))) (nomark _)))), ?_⟩
    exact s_ret (ev_op (ev_var rfl) (ev_op (ev_var rfl) (ev_op (ev_var rfl) (ev_var rfl) rv_I0) (Su.rv_mul (Su.CMul.r (by omega) (by omega)))) rv_I0) fun H1 e1 => q H1 e1
theorem none_back {F : List Addr} {H H' : Hp} {p : Addr} (f : ExF F H H') (hp : H' p = none) (hd : ∀ a ∈ F, ∃ o, H' a = some o) : H p = none := by
  cases hx : H p with
  | none => rfl
  | some o =>
    exfalso
    by_cases c : p ∈ F
    · obtain ⟨o', ho⟩ := hd p c
      rw [hp] at ho
      cases ho
    · rw [f p o hx c] at hp
      cases hp
end

end Su
namespace Su
/-! ### terms unfolded by one step -/
section
variable {K : PySem.W.Frag} {σ : L2.St} {H : Hp} {D : Ends} {tz tA : TS}
theorem te_op {r : R2} {ta tb : TE} {Q : VK} (k : ta σ H fun x H1 => tb σ H1 fun y H2 => r x y H2 Q) : tOp r ta tb σ H Q := k
theorem te_lst {ta : TA} {Q : VK} (k : ta σ H fun xs H1 => xs.length ≤ sizeLine ∧ ∀ p, H1 p = none → Q (.ref p) (upd H1 p (.lst xs))) : tLst ta σ H Q := k
theorem s_retG {te : TE} (k : te σ H fun v H1 => D.rt v H1) : tRet te D σ H := k
theorem el_go {te : TE} {xs : List V} {Q : VK} (h : EvL te σ H xs) (k : ∀ p H1, H p = none → Ex H H1 → H1 p = some (.lst xs) → Q (.ref p) H1) : te σ H Q := h H (Ex.refl H) _ k
theorem cat_go {p q : Addr} {xs ys : List V} {Q : VK} (h1 : H p = some (.lst xs)) (h2 : H q = some (.lst ys)) (hz : xs.length + ys.length ≤ 100000) (k : ∀ r, H r = none → Q (.ref r) (upd H r (.lst (xs ++ ys)))) : rCat (.ref p) (.ref q) H Q := ⟨p, q, xs, ys, rfl, rfl, h1, h2, sz_of hz, k⟩
theorem q_setI {l : Addr} {xs : List V} {z : Int} {j : Nat} {te ta tb : TE} {v : V} (hl : H l = some (.lst xs)) (h : Ev te σ H v) (ho : Ev ta σ H (.ref l)) (hi : Ev tb σ H (.int z)) (hz : ixN xs.length z = some j) (k : ∀ H1, Ex H H1 → tz D σ (upd H1 l (.lst (xs.set j v)))) : tSeq (tAsg te (gSub ta tb rSetL)) tz D σ H :=
  h H (Ex.refl H) _ fun H1 e1 => ho H1 e1 _ fun H2 e2 => hi H2 (e1.trans e2) _ fun H3 e3 => ⟨l, xs, z, j, rfl, rfl, ((e1.trans e2).trans e3) _ _ hl, hz, k H3 ((e1.trans e2).trans e3)⟩
theorem s_retSame {n : Nat} {tm tb : TE} {E : XK} (k : tm σ H fun v H1 => tb σ H1 fun w H2 => spSame K n [v, w] H2 (fun r H3 => D.rt r H3) E) : tRet (tCall (spSame K n) [] E (tCons tm (tCons tb tNil))) D σ H := k
theorem te_callX {sp : Sp} {dvs : List V} {E : XK} {ta : TA} {Q : VK} (k : ta σ H fun vs H1 => sp (vs ++ dvs) H1 Q E) : tCall sp dvs E ta σ H Q := k
theorem te_tup {ta : TA} {Q : VK} (k : ta σ H fun xs H1 => xs.length ≤ sizeLine ∧ ∀ p, H1 p = none → Q (.ref p) (upd H1 p (.tup xs))) : tTup ta σ H Q := k
theorem ta_nilX {Q : List V → Hp → Prop} (k : Q [] H) : tNil σ H Q := k
theorem eu_go {te : TE} {xs : List V} {Q : VK} (h : EvU te σ H xs) (k : ∀ p H1, H p = none → Ex H H1 → H1 p = some (.tup xs) → Q (.ref p) H1) : te σ H Q := h H (Ex.refl H) _ k
theorem s_notX {te : TE} (k : te σ H fun r H3 => ∃ c, r = .bl c ∧ (if (!c) = true then tA D σ H3 else D.nx σ H3)) : tIfS (tNot (tB te)) tA tNext D σ H := k
theorem te_sl {r : V → Option Int → Option Int → Hp → VK → Prop} {te : TE} {tl th : TO} {Q : VK} (k : te σ H fun x H1 => tl σ H1 fun lo H2 => th σ H2 fun hi H3 => r x lo hi H3 Q) : tSl r te tl th σ H Q := k
end

end Su
namespace Su
/-! ### where a circle stands by its reports -/
structure LedM where
  stake : Int
  pl : List Int
  line : List Int
  bid : Bool
  drew : List Int
  opn : Int
  due : Int
structure RepM where
  turn : Int
  kind : Str
  who : Int
  coins : Int
  share : Int
  fal : List Int
  hlp : List Int
structure LedD where
  c : Addr
  dx : Addr
  pp : Addr
  pq : Addr
  pr : Addr
def lNs : List Str := ["stake", "pledges_left", "line", "bidding", "drawers", "open_round", "rests_due"]
theorem lNs_nd : lNs.Nodup := by decide +kernel
def ledV (d : LedD) (L : LedM) : List V := [.int L.stake, .ref d.pp, .ref d.pq, .bl L.bid, .ref d.pr, .int L.opn, .int L.due]
structure LedAt (C : Addr) (H : Hp) (d : LedD) (L : LedM) : Prop where
  hc : H d.c = some (.ins C d.dx (lNs.zip (ledV d L)))
  hp : H d.pp = some (.lst (L.pl.map V.int))
  hq : H d.pq = some (.lst (L.line.map V.int))
  hr : H d.pr = some (.lst (L.drew.map V.int))
  n1 : d.pp ≠ d.pq
  n2 : d.pp ≠ d.pr
  n3 : d.pq ≠ d.pr
structure RepAt (H : Hp) (t pf pg : Addr) (r : RepM) : Prop where
  ht : H t = some (.tup [.int r.turn, .str r.kind, .int r.who, .int r.coins, .int r.share, .ref pf, .ref pg])
  hf : H pf = some (.lst (r.fal.map V.int))
  hg : H pg = some (.lst (r.hlp.map V.int))
  ks : PyData.strOk r.kind = true
theorem RepAt.ex {H H' : Hp} {t pf pg : Addr} {r : RepM} (h : RepAt H t pf pg r) (e : Ex H H') : RepAt H' t pf pg r := ⟨e _ _ h.ht, e _ _ h.hf, e _ _ h.hg, h.ks⟩
theorem LedAt.ex {C : Addr} {H H' : Hp} {d : LedD} {L : LedM} (h : LedAt C H d L) (e : Ex H H') : LedAt C H' d L := ⟨e _ _ h.hc, e _ _ h.hp, e _ _ h.hq, e _ _ h.hr, h.n1, h.n2, h.n3⟩
structure LedOk (L : LedM) : Prop where
  s1 : 1 ≤ L.stake
  s2 : L.stake ≤ 1000000
  n2 : L.pl.length ≤ 100
  lr : ∀ x ∈ L.line, 0 ≤ x ∧ x < (L.pl.length : Int)
  dr : ∀ x ∈ L.drew, 0 ≤ x ∧ x < (L.pl.length : Int)
  ld : L.line.length + L.drew.length ≤ L.pl.length
  o1 : -1000 ≤ L.opn
  o2 : L.opn ≤ 1000
def growB (l : List Int) : Bool := (List.range (l.length - 1)).all fun i => decide (l.getD i 0 < l.getD (i + 1) 0)
def payL (L : LedM) (k : Nat) : Int := (L.line.length : Int) + (L.drew.length : Int) - (k : Int)
def dcoin (L : LedM) (share : Int) : Int := L.stake * (L.pl.length : Int) - share * (payL L 0 - 1)
def canP (L : LedM) (x : Int) : Bool := decide (x ∈ L.drew) && decide (L.pl.getD x.toNat 0 ≥ L.stake)
def canD (L : LedM) (who share : Int) : Bool :=
  if who ∉ L.line then false
  else if ¬ (L.pl.getD who.toNat 0 ≥ L.stake * ((L.pl.length : Int) - L.opn)) then false
  else if L.bid = false then decide (who = L.line.getD 0 0) && decide (share = 0)
  else if payL L 0 = 1 then decide (share = 0)
  else decide (share ≥ 0) && decide (dcoin L share ≥ 0)
def boxB (L : LedM) (r : RepM) : Bool := decide (r.kind = ("box" : Str)) && (decide (r.who = -1) && (decide (r.coins = L.stake * payL L r.fal.length) && decide (r.share = 0)))
def folM (L : LedM) (r : RepM) : Bool :=
  if r.turn ≠ L.opn ∨ r.turn > (L.pl.length : Int) then false
  else if (growB r.fal && r.fal.all (fun x => decide (x ∈ L.line))) = false then false
  else if (growB r.hlp && r.hlp.all (canP L)) = false then false
  else if L.due + (r.fal.length : Int) > 0 then boxB L r
  else decide (r.kind = ("draw" : Str)) && (canD L r.who r.share && decide (r.coins = dcoin L r.share))
def plsub (st : Int) (pl : List Int) (l : List Int) : List Int := l.foldl (fun p x => p.set x.toNat (p.getD x.toNat 0 - st)) pl
def afterL (L : LedM) (r : RepM) : LedM where
  stake := L.stake
  pl := plsub L.stake L.pl r.hlp
  line := L.line.filter fun x => decide (x ∉ r.fal) && decide (x ≠ r.who)
  bid := L.bid
  drew := if r.kind = ("box" : Str) then L.drew else L.drew ++ [r.who]
  opn := r.turn + 1
  due := L.due + (r.fal.length : Int) - (if r.kind = ("box" : Str) then 1 else 0)
def firstL : LedM → List RepM → Int → Int
  | _, [], _ => -1
  | L, r :: rs, k => if folM L r = true then firstL (afterL L r) rs (k + 1) else k
theorem plsub_len {st : Int} : ∀ {l : List Int} {pl : List Int}, (plsub st pl l).length = pl.length
  | [], _ => rfl
  | x :: l, pl => by
    show (plsub st (pl.set x.toNat (pl.getD x.toNat 0 - st)) l).length = _
    rw [plsub_len, List.length_set]
theorem plsub_snoc {st : Int} {pl l : List Int} {x : Int} : plsub st pl (l ++ [x]) = (plsub st pl l).set x.toNat ((plsub st pl l).getD x.toNat 0 - st) := by
  unfold plsub
  rw [List.foldl_append]
  rfl
/-- what stays behind a report that follows -/
theorem LedOk.after {L : LedM} {r : RepM} (h : LedOk L) (hf : folM L r = true) : LedOk (afterL L r) := by
  unfold folM at hf
  by_cases c1 : r.turn ≠ L.opn ∨ r.turn > (L.pl.length : Int)
  · rw [if_pos c1] at hf; cases hf
  rw [if_neg c1] at hf
  have ht : r.turn = L.opn := Decidable.not_not.mp fun z => c1 (.inl z)
  have htn : r.turn ≤ (L.pl.length : Int) := by
    by_cases z : r.turn > (L.pl.length : Int)
    · exact absurd (.inr z) c1
    · omega
  have hn := h.n2
  have hlen : (afterL L r).pl.length = L.pl.length := plsub_len
  have hsub : ∀ x ∈ (afterL L r).line, x ∈ L.line := fun x hx => (List.mem_filter.mp hx).1
  have hll : (afterL L r).line.length ≤ L.line.length := List.length_filter_le _ _
  have ho : -1000 ≤ (afterL L r).opn ∧ (afterL L r).opn ≤ 1000 := by
    show -1000 ≤ r.turn + 1 ∧ r.turn + 1 ≤ 1000
    have := h.o1
    omega
  have hld := h.ld
  have dr : (∀ x ∈ (afterL L r).drew, 0 ≤ x ∧ x < (L.pl.length : Int)) ∧ (afterL L r).line.length + (afterL L r).drew.length ≤ L.pl.length := by
    by_cases ck : r.kind = ("box" : Str)
    · have e : (afterL L r).drew = L.drew := if_pos ck
      rw [e]
      exact ⟨h.dr, by omega⟩
    · have e : (afterL L r).drew = L.drew ++ [r.who] := if_neg ck
      have hin : r.who ∈ L.line := by
        by_cases c2 : (growB r.fal && r.fal.all (fun x => decide (x ∈ L.line))) = false
        · rw [if_pos c2] at hf; cases hf
        rw [if_neg c2] at hf
        by_cases c3 : (growB r.hlp && r.hlp.all (canP L)) = false
        · rw [if_pos c3] at hf; cases hf
        rw [if_neg c3] at hf
        by_cases c4 : L.due + (r.fal.length : Int) > 0
        · rw [if_pos c4] at hf
          unfold boxB at hf
          rw [Bool.and_eq_true, decide_eq_true_eq] at hf
          exact absurd hf.1 ck
        · rw [if_neg c4] at hf
          rw [Bool.and_eq_true, Bool.and_eq_true] at hf
          have := hf.2.1
          unfold canD at this
          by_cases c5 : r.who ∉ L.line
          · rw [if_pos c5] at this; cases this
          · exact Decidable.not_not.mp c5
      rw [e]
      refine ⟨fun x hx => ?_, ?_⟩
      · rcases List.mem_append.mp hx with hx | hx
        · exact h.dr x hx
        · rw [List.mem_singleton.mp hx]
          exact h.lr _ hin
      · have hlt : (afterL L r).line.length < L.line.length := by
          show (L.line.filter fun x => decide (x ∉ r.fal) && decide (x ≠ r.who)).length < _
          refine List.length_filter_lt_length_iff_exists.mpr ⟨r.who, hin, ?_⟩
          simp
        rw [List.length_append, List.length_singleton]
        omega
  exact ⟨h.s1, h.s2, by rw [hlen]; exact h.n2, fun x hx => by rw [hlen]; exact h.lr x (hsub x hx), by rw [hlen]; exact dr.1, by rw [hlen]; exact dr.2, ho.1, ho.2⟩
section
variable {K : PySem.W.Frag} {σ : L2.St} {H : Hp} {t : TT} {te : TE}
/-- a comprehension over range(lo, n) -/
theorem el_lcR2 {ta : TA} {j : Nat} {vs : List Nat} {lo n : Int} (f : Nat → Bool) (v : Nat → V) (h : EvA ta σ H [.int lo, .int n]) (hn : 0 ≤ lo ∧ lo ≤ 1000 ∧ -1000 ≤ n ∧ n ≤ 40000) (hw : ∀ x, wipe ((wipe σ vs).set j (some x)) vs = wipe σ vs)
    (ht : ∀ (i : Nat) H1, Ex H H1 → lo + (i : Int) < n → EvT t ((wipe σ vs).set j (some (.int (lo + (i : Int))))) H1 (f i)) (he : ∀ (i : Nat) H1, Ex H H1 → lo + (i : Int) < n → f i = true → Ev te ((wipe σ vs).set j (some (.int (lo + (i : Int))))) H1 (v i)) :
    EvL (tLc (iRng2 ta) (gName j) t te vs) σ H (given (n - lo).toNat f v) := fun H0 e0 Q q => h H0 e0 _ fun H1 e1 => ⟨lo, n, rfl, ⟨by omega, by omega, by omega, by omega⟩, fun D hD =>
  lc_range (lo := lo) (n := (n - lo).toNat) (Cw H1 f v D) ⟨hD, Ex.new hD, upd_same⟩ (fun i H2 hi p => ⟨hw _, cw_turn p (by omega) (ht i H1 (e0.trans e1) (by omega)) fun hf => he i H1 (e0.trans e1) (by omega) hf⟩) (fun H2 p => q D H2 (fresh_back e1 p.1) (e1.trans p.2.1) p.2.2)⟩
theorem tg_7 {T : Addr} {x1 x2 x3 x4 x5 x6 x7 : V} {i1 i2 i3 i4 i5 i6 i7 : Nat} (h : SqT K H T [x1, x2, x3, x4, x5, x6, x7]) : Tgt (gTup K 7 (gCons (gName i1) (gCons (gName i2) (gCons (gName i3) (gCons (gName i4) (gCons (gName i5) (gCons (gName i6) (gCons (gName i7) gNil)))))))) (.ref T) σ (((((((σ.set i1 (some x1)).set i2 (some x2)).set i3 (some x3)).set i4 (some x4)).set i5 (some x5)).set i6 (some x6)).set i7 (some x7)) H := fun H2 e Q q =>
  ⟨T, _, rfl, ex_t e h, rfl, x1, _, rfl, x2, _, rfl, x3, _, rfl, x4, _, rfl, x5, _, rfl, x6, _, rfl, x7, [], rfl, rfl, q⟩
theorem int_at2 {l : List Int} {i : Nat} {z : Int} (h : z = (i : Int)) (hi : i < l.length) : atI (l.map V.int) z = some (.int (l.getD i 0)) := atI_nat' (i := i) h (int_nat hi)
theorem all_given {l : List Int} {p : Int → Bool} : (l.map p).map V.bl = given (l.map V.int).length (fun _ => true) (fun j => V.bl (p (l.getD j 0))) := by
  rw [given_rng, List.length_map, List.map_map]
  apply List.ext_getElem?
  intro j
  rw [List.getElem?_map, List.getElem?_map]
  by_cases hj : j < l.length
  · rw [List.getElem?_range hj, List.getElem?_eq_getElem hj]
    show some (V.bl _) = some (V.bl _)
    rw [List.getD_eq_getElem?_getD, List.getElem?_eq_getElem hj]
    rfl
  · rw [List.getElem?_eq_none (by omega), List.getElem?_eq_none (by rw [List.length_range]; omega)]
    rfl
theorem all_map {l : List Int} {p : Int → Bool} : (l.map p).all id = l.all p := by
  rw [List.all_map]
  rfl
end
section
variable {P : Program} {w : World} {K : PySem.W.Frag} {mg : Str → Option Value} {base : Heap} {H : Hp} {d : LedD} {L : LedM} {σ : L2.St} {ta : TE}
theorem ev_lf {C : Addr} {f : Str} {i : Nat} {v : V} (h : LedAt C H d L) (ha : Ev ta σ H (.ref d.c)) (c : Cls K C) (n : NoAttr K C f) (hf : lNs[i]? = some f) (hv : (ledV d L)[i]? = some v) : Ev (tFld K ta f) σ H v := ev_fld ha h.hc c n (zip_lookup lNs_nd hf hv)
theorem Top.l_stake (T : Top K mg) (h : LedAt T.f_Ledger H d L) (ha : Ev ta σ H (.ref d.c)) : Ev (tFld K ta "stake") σ H (.int L.stake) := ev_lf (i := 0) h ha T.cl_Ledger T.na_Ledger_stake rfl rfl
theorem Top.l_pl (T : Top K mg) (h : LedAt T.f_Ledger H d L) (ha : Ev ta σ H (.ref d.c)) : Ev (tFld K ta "pledges_left") σ H (.ref d.pp) := ev_lf (i := 1) h ha T.cl_Ledger T.na_Ledger_pledges_left rfl rfl
theorem Top.l_line (T : Top K mg) (h : LedAt T.f_Ledger H d L) (ha : Ev ta σ H (.ref d.c)) : Ev (tFld K ta "line") σ H (.ref d.pq) := ev_lf (i := 2) h ha T.cl_Ledger T.na_Ledger_line rfl rfl
theorem Top.l_bid (T : Top K mg) (h : LedAt T.f_Ledger H d L) (ha : Ev ta σ H (.ref d.c)) : Ev (tFld K ta "bidding") σ H (.bl L.bid) := ev_lf (i := 3) h ha T.cl_Ledger T.na_Ledger_bidding rfl rfl
theorem Top.l_drew (T : Top K mg) (h : LedAt T.f_Ledger H d L) (ha : Ev ta σ H (.ref d.c)) : Ev (tFld K ta "drawers") σ H (.ref d.pr) := ev_lf (i := 4) h ha T.cl_Ledger T.na_Ledger_drawers rfl rfl
theorem Top.l_opn (T : Top K mg) (h : LedAt T.f_Ledger H d L) (ha : Ev ta σ H (.ref d.c)) : Ev (tFld K ta "open_round") σ H (.int L.opn) := ev_lf (i := 5) h ha T.cl_Ledger T.na_Ledger_open_round rfl rfl
theorem Top.l_due (T : Top K mg) (h : LedAt T.f_Ledger H d L) (ha : Ev ta σ H (.ref d.c)) : Ev (tFld K ta "rests_due") σ H (.int L.due) := ev_lf (i := 6) h ha T.cl_Ledger T.na_Ledger_rests_due rfl rfl
theorem l_no {m : Str} {vs : List V} (h : m ∉ lNs := by decide +kernel) : (lNs.zip vs).lookup m = none := zip_none h
def spGrows (K : PySem.W.Frag) : Sp := fun vs H Q _ => ∃ (a : Addr) (l : List Int), vs = [.ref a] ∧ SqL K H a (l.map V.int) ∧ l.length ≤ 1000 ∧ ∀ H', Ex H H' → Q (.bl (growB l)) H'
theorem ok_grows (T : Top K mg) {k : Nat} : FnOk P w K mg base CX0 (k + 1) T.f_grows T.fd_grows ["row"] (spGrows K) := by
  have nd := sc_grows.nd
  refine T.F_grows.ok sc_grows (fun vs H Q E h => ?_) (fun cdv A outer s H vs Q E hr h => ?_)
  · obtain ⟨a, l, rfl, _⟩ := h
    rfl
  · obtain ⟨a, l, rfl, ha, hl, q⟩ := h
    refine ⟨_, (pss_one (ps_ret (pe_callB (cr_all rfl) (by rfl) T.m_all (by decide +kernel) (pa_cons (pe_lc (own := [("at", 1)]) (g := gName 1) (tt := tYes) rfl nd (pi_range2 rfl T.m_range (pa_cons pe_int (pa_cons (pe_callB call_len_seq (by rfl) T.m_len PySem.boot_len (pa_cons (pv 0) pa_nil)) pa_nil))) (blkOk_by (own := [("at", 1)]) (N := Su.N_grows) (sc := defScope s_grows) (by decide +kernel)) (fun _ _ _ _ _ => (pg_name (i := 1) nd rfl (.inl rfl))) (fun _ _ _ _ _ => pts_nil) (fun _ _ _ _ _ => (pe_cmpR op_lt (pe_ix (ix_listK (K := K) rfl) (pv 0) (pe_op op_sub (pv 1) pe_int) (fun _ _ => rfl)) (pe_ix (ix_listK (K := K) rfl) (pv 0) (pv 1) (fun _ _ => rfl)) (nomark _)))) pa_nil)))), ?_⟩
    have hbs : ((List.range (l.length - 1)).map fun i => decide (l.getD i 0 < l.getD (i + 1) 0)).map V.bl = given ((l.length : Int) - 1).toNat (fun _ => true) (fun j => V.bl (decide (l.getD j 0 < l.getD (j + 1) 0))) := by
      rw [given_rng, List.map_map, show ((l.length : Int) - 1).toNat = l.length - 1 by omega]
      rfl
    refine s_ret (ev_is (ev_allB (bs := (List.range (l.length - 1)).map fun i => decide (l.getD i 0 < l.getD (i + 1) 0)) ?_) ?_) fun H1 e1 => q H1 e1
    · rw [hbs]
      exact el_lcR2 _ _ (ea_cons ev_c (ea_cons (ev_is (ev_len (ev_var rfl) ha) (by rw [List.length_map])) ea_nil)) ⟨by decide, by decide, by omega, by omega⟩ (fun x => rfl) (fun j Hb eb hj => et_yes) (fun j Hb eb hj _ => ev_op (ev_op (ev_var rfl) (ev_op (ev_var rfl) ev_c rv_I0) (rv_ixL (ex_l eb ha) (int_at2 (i := j) (by omega) (by omega)))) (ev_op (ev_var rfl) (ev_var rfl) (rv_ixL (ex_l eb ha) (int_at2 (i := j + 1) (by push_cast; omega) (by omega)))) rv_I0)
    · unfold growB
      rw [List.all_map]
      rfl
def spCanP (C : Addr) : Sp := fun vs H Q _ => ∃ (d : LedD) (L : LedM) (x : Int), vs = [.ref d.c, .int x] ∧ LedAt C H d L ∧ LedOk L ∧ ∀ H', Ex H H' → Q (.bl (canP L x)) H'
theorem ok_canP (T : Top K mg) {k : Nat} : FnOk P w K mg base CX0 (k + 1) T.f_Ledger_pledge_can_pay T.fd_Ledger_pledge_can_pay ["self", "at"] (spCanP T.f_Ledger) := by
  have nd := sc_Ledger_pledge_can_pay.nd
  refine T.F_Ledger_pledge_can_pay.ok sc_Ledger_pledge_can_pay (fun vs H Q E h => ?_) (fun cdv A outer s H vs Q E hr h => ?_)
  · obtain ⟨d, L, x, rfl, _⟩ := h
    rfl
  · obtain ⟨d, L, x, rfl, h, hO, q⟩ := h
    refine ⟨_, (pss_one (ps_ret (pe_and (pe_cmpR op_in_seq (pv 1) (pe_fldK (K := K) rfl (pv 0) rfl) rfl) (pe_one (pe_cmpR op_ge (pe_ix ix_list (pe_fldK (K := K) rfl (pv 0) rfl) (pv 1) (fun _ _ => rfl)) (pe_fldK (K := K) rfl (pv 0) rfl) (nomark _)))))), ?_⟩
    refine s_ret (ev_andV (ev_is (ev_op (ev_var rfl) (T.l_drew h (ev_var rfl)) (rv_isL (sq_of h.hr) rfl flat_ints)) (by rw [inV_int])) fun hb => ?_) fun H1 e1 => q H1 e1
    have := hO.dr x (of_decide_eq_true hb)
    exact ev_op (ev_op (T.l_pl h (ev_var rfl)) (ev_var rfl) (rv_ixL (sq_of h.hp) (int_at2 (i := x.toNat) (by omega) (by omega)))) (T.l_stake h (ev_var rfl)) rv_I0
def spPayers (C : Addr) : Sp := fun vs H Q _ => ∃ (d : LedD) (L : LedM) (a : Addr) (l : List V), vs = [.ref d.c, .ref a] ∧ LedAt C H d L ∧ H a = some (.lst l) ∧ ∀ H', Ex H H' → Q (.int (payL L l.length)) H'
theorem ok_payers (T : Top K mg) {k : Nat} : FnOk P w K mg base CX0 (k + 1) T.f_Ledger_payers T.fd_Ledger_payers ["self", "fallen"] (spPayers T.f_Ledger) := by
  have nd := sc_Ledger_payers.nd
  refine T.F_Ledger_payers.ok sc_Ledger_payers (fun vs H Q E h => ?_) (fun cdv A outer s H vs Q E hr h => ?_)
  · obtain ⟨d, L, a, l, rfl, _⟩ := h
    rfl
  · obtain ⟨d, L, a, l, rfl, h, ha, q⟩ := h
    refine ⟨_, (pss_one (ps_ret (pe_op op_sub (pe_op op_add (pe_callB call_len_seq (by rfl) T.m_len PySem.boot_len (pa_cons (pe_fldK (K := K) rfl (pv 0) rfl) pa_nil)) (pe_callB call_len_seq (by rfl) T.m_len PySem.boot_len (pa_cons (pe_fldK (K := K) rfl (pv 0) rfl) pa_nil))) (pe_callB call_len_seq (by rfl) T.m_len PySem.boot_len (pa_cons (pv 1) pa_nil))))), ?_⟩
    exact s_ret (ev_op (ev_op (ev_is (ev_len (T.l_line h (ev_var rfl)) (sq_of h.hq)) (by rw [List.length_map])) (ev_is (ev_len (T.l_drew h (ev_var rfl)) (sq_of h.hr)) (by rw [List.length_map])) rv_I0) (ev_len (ev_var rfl) (sq_of ha)) rv_I0) fun H1 e1 => q H1 e1
theorem ev_payers0 {C : Addr} {E : XK} (h : LedAt C H d L) (ha : Ev ta σ H (.ref d.c)) : Ev (tMeth C "payers" (spPayers C) [] E ta (tCons (tLst tNil) tNil)) σ H (.int (payL L 0)) := fun H1 e Q q =>
  ha H1 e _ fun H2 e2 => ⟨d.c, d.dx, _, rfl, (e.trans e2) _ _ h.hc, l_no, (el_lst ea_nil (by decide)) H2 (Ex.refl _) _ fun p H3 hp e3 h3 => ⟨d, L, p, [], rfl, (h.ex (e.trans e2)).ex e3, h3, fun H4 e4 => q H4 ((e2.trans e3).trans e4)⟩⟩
def spDcoin (C : Addr) : Sp := fun vs H Q _ => ∃ (d : LedD) (L : LedM) (z : Int), vs = [.ref d.c, .int z] ∧ LedAt C H d L ∧ LedOk L ∧ ∀ H', Ex H H' → Q (.int (dcoin L z)) H'
theorem ok_dcoin (T : Top K mg) {k : Nat} : FnOk P w K mg base CX0 (k + 2) T.f_Ledger_draw_coins T.fd_Ledger_draw_coins ["self", "share"] (spDcoin T.f_Ledger) := by
  have nd := sc_Ledger_draw_coins.nd
  have G_Ledger_payers := ok_payers (P := P) (w := w) (base := base) T (k := 0)
  refine T.F_Ledger_draw_coins.ok sc_Ledger_draw_coins (fun vs H Q E h => ?_) (fun cdv A outer s H vs Q E hr h => ?_)
  · obtain ⟨d, L, z, rfl, _⟩ := h
    rfl
  · obtain ⟨d, L, z, rfl, h, hO, q⟩ := h
    refine ⟨_, (pss_one (ps_ret (pe_op op_sub (pe_op op_mul (pe_fldK (K := K) rfl (pv 0) rfl) (pe_callB call_len_seq (by rfl) T.m_len PySem.boot_len (pa_cons (pe_fldK (K := K) rfl (pv 0) rfl) pa_nil))) (pe_op op_mul (pv 1) (pe_op op_sub (pe_meth (pv 0) T.cl_Ledger T.mt_Ledger_payers G_Ledger_payers (hr.mono (by omega)) T.b_Ledger_payers .nil pass0 (pa_cons (pe_lst pa_nil) pa_nil)) pe_int))))), ?_⟩
    have h1 := hO.ld
    have h2 := hO.n2
    refine s_ret (ev_op (ev_op (T.l_stake h (ev_var rfl)) (ev_is (ev_len (T.l_pl h (ev_var rfl)) (sq_of h.hp)) (by rw [List.length_map])) (Su.rv_mul (Su.CMul.r (by omega) (by omega)))) (ev_op (ev_var rfl) (ev_op (ev_payers0 h (ev_var rfl)) ev_c rv_I0) (Su.rv_mul (Su.CMul.r (by unfold payL; omega) (by unfold payL; omega)))) rv_I0) fun H1 e1 => q H1 e1
def spCanD (C : Addr) : Sp := fun vs H Q _ => ∃ (d : LedD) (L : LedM) (x z : Int), vs = [.ref d.c, .int x, .int z] ∧ LedAt C H d L ∧ LedOk L ∧ ∀ H', Ex H H' → Q (.bl (canD L x z)) H'
theorem ok_canD (T : Top K mg) {k : Nat} : FnOk P w K mg base CX0 (k + 3) T.f_Ledger_can_draw T.fd_Ledger_can_draw ["self", "drawer", "share"] (spCanD T.f_Ledger) := by
  have nd := sc_Ledger_can_draw.nd
  have G_Ledger_payers := ok_payers (P := P) (w := w) (base := base) T (k := 0)
  have G_Ledger_draw_coins := ok_dcoin (P := P) (w := w) (base := base) T (k := 0)
  have G_is_covered := ok_is_covered (P := P) (w := w) (base := base) T (k := 0)
  refine T.F_Ledger_can_draw.ok sc_Ledger_can_draw (fun vs H Q E h => ?_) (fun cdv A outer s H vs Q E hr h => ?_)
  · obtain ⟨d, L, x, z, rfl, _⟩ := h
    rfl
  · obtain ⟨d, L, x, z, rfl, h, hO, q⟩ := h
    refine ⟨_, (pss_cons (ps_if (pt_cmpR op_notIn_seq (pv 1) (pe_fldK (K := K) rfl (pv 0) rfl) rfl)
        (pss_one (ps_ret pe_bl))
        pss_nil)
      (pss_cons (ps_if (pt_not (pt_val (pe_call G_is_covered (hr.mono (by omega)) (by rfl) T.m_is_covered T.F_is_covered.kp T.b_is_covered .nil pass0 (pa_cons (pe_fldK (K := K) rfl (pv 0) rfl) (pa_cons (pe_callB call_len_seq (by rfl) T.m_len PySem.boot_len (pa_cons (pe_fldK (K := K) rfl (pv 0) rfl) pa_nil)) (pa_cons (pe_ix ix_list (pe_fldK (K := K) rfl (pv 0) rfl) (pv 1) (fun _ _ => rfl)) (pa_cons (pe_fldK (K := K) rfl (pv 0) rfl) pa_nil)))))))
        (pss_one (ps_ret pe_bl))
        pss_nil)
      (pss_cons (ps_if (pt_not (pt_val (pe_fldK (K := K) rfl (pv 0) rfl)))
        (pss_one (ps_ret (pe_and (pe_cmpR op_eq (pv 1) (pe_ix ix_list (pe_fldK (K := K) rfl (pv 0) rfl) pe_int (fun _ _ => rfl)) (nomark _)) (pe_one (pe_cmpR op_eq (pv 2) pe_int (nomark _))))))
        pss_nil)
      (pss_cons (ps_if (pt_cmpR op_eq (pe_meth (pv 0) T.cl_Ledger T.mt_Ledger_payers G_Ledger_payers (hr.mono (by omega)) T.b_Ledger_payers .nil pass0 (pa_cons (pe_lst pa_nil) pa_nil)) pe_int (nomark _))
        (pss_one (ps_ret (pe_cmpR op_eq (pv 2) pe_int (nomark _))))
        pss_nil)
      (pss_one (ps_ret (pe_and (pe_cmpR op_ge (pv 2) pe_int (nomark _)) (pe_one (pe_cmpR op_ge (pe_meth (pv 0) T.cl_Ledger T.mt_Ledger_draw_coins G_Ledger_draw_coins (hr.mono (by omega)) T.b_Ledger_draw_coins .nil pass0 (pa_cons (pv 2) pa_nil)) pe_int (nomark _)))))))))), ?_⟩
    have o1 := hO.o1
    have o2 := hO.o2
    have n2 := hO.n2
    unfold canD at q
    refine q_when (b := decide (x ∉ L.line)) (et_is (et_test (ev_op (ev_var rfl) (T.l_line h (ev_var rfl)) (rv_niL (sq_of h.hq) rfl flat_ints))) (by rw [inV_int]; by_cases c : x ∈ L.line <;> simp [c])) (fun hb H1 e1 => ?_) (fun hb H1 e1 => ?_)
    · rw [if_pos (of_decide_eq_true hb)] at q
      exact s_ret ev_c fun H2 e2 => q H2 (e1.trans e2)
    have hin := Decidable.not_not.mp (of_decide_eq_false hb)
    rw [if_neg (Decidable.not_not.mpr hin)] at q
    have hx := hO.lr x hin
    have h1 := h.ex e1
    refine q_when (b := !decide (L.pl.getD x.toNat 0 ≥ L.stake * ((L.pl.length : Int) - L.opn))) (et_not (et_B (ev_call (ea_cons (T.l_stake h1 (ev_var rfl)) (ea_cons (ev_is (ev_len (T.l_pl h1 (ev_var rfl)) (sq_of h1.hp)) (by rw [List.length_map])) (ea_cons (ev_op (T.l_pl h1 (ev_var rfl)) (ev_var rfl) (rv_ixL (sq_of h1.hp) (int_at2 (i := x.toNat) (by omega) (by omega)))) (ea_cons (T.l_opn h1 (ev_var rfl)) ea_nil)))) (fun Hx e Q q _ => ⟨L.stake, (L.pl.length : Int), L.pl.getD x.toNat 0, L.opn, rfl, by omega, by omega, q⟩)))) (fun hb2 H2 e2 => ?_) (fun hb2 H2 e2 => ?_)
    · rw [if_pos (by intro z; rw [decide_eq_true z] at hb2; cases hb2)] at q
      exact s_ret ev_c fun H3 e3 => q H3 ((e1.trans e2).trans e3)
    rw [if_neg (by
      intro z
      rw [decide_eq_false z] at hb2
      cases hb2)] at q
    have h2 := h1.ex e2
    refine q_when (b := !L.bid) (et_not (et_B (T.l_bid h2 (ev_var rfl)))) (fun hb3 H3 e3 => ?_) (fun hb3 H3 e3 => ?_)
    · have hbf : L.bid = false := by cases hc : L.bid <;> rw [hc] at hb3 <;> first | rfl | cases hb3
      rw [if_pos hbf] at q
      have h3 := h2.ex e3
      have hpos := List.length_pos_of_mem hin
      exact s_ret (ev_andV (ev_is (ev_op (ev_var rfl) (ev_op (T.l_line h3 (ev_var rfl)) ev_c (rv_ixL (sq_of h3.hq) (int_at2 (i := 0) rfl hpos))) (rv_eq rfl)) (by rw [int_eq])) fun _ => ev_is (ev_op (ev_var rfl) ev_c (rv_eq rfl)) (by rw [int_eq])) fun H4 e4 => q H4 (((e1.trans e2).trans e3).trans e4)
    rw [if_neg (by intro z; rw [z] at hb3; cases hb3)] at q
    have h3 := h2.ex e3
    refine q_when (b := decide (payL L 0 = 1)) (et_is (et_test (ev_op (ev_payers0 h3 (ev_var rfl)) ev_c (rv_eq rfl))) int_eq) (fun hb4 H4 e4 => ?_) (fun hb4 H4 e4 => ?_)
    · rw [if_pos (of_decide_eq_true hb4)] at q
      exact s_ret (ev_is (ev_op (ev_var rfl) ev_c (rv_eq rfl)) (by rw [int_eq])) fun H5 e5 => q H5 ((((e1.trans e2).trans e3).trans e4).trans e5)
    rw [if_neg (of_decide_eq_false hb4)] at q
    have h4 := h3.ex e4
    exact s_ret (ev_andV (ev_op (ev_var rfl) ev_c rv_I0) fun _ => ev_op (ev_meth (ev_var rfl) h4.hc l_no (ea_cons (ev_var rfl) ea_nil) (fun Hx e Q q _ => ⟨d, L, z, rfl, h4.ex e, hO, q⟩)) ev_c rv_I0) fun H5 e5 => q H5 ((((e1.trans e2).trans e3).trans e4).trans e5)
theorem box_eq {k : Str} {a b c e : Int} : PyData.eqv (.tuple [.str k, .int a, .int b, .int c]) (.tuple [.str "box", .int (-1), .int e, .int 0]) = (decide (k = ("box" : Str)) && (decide (a = -1) && (decide (b = e) && decide (c = 0)))) := by
  rw [Bool.eq_iff_iff]
  simp [PyData.eqv, PyData.eqvAll]
theorem tup4_sh {k : Str} {a b c : Int} (hk : PyData.strOk k = true) : SeqAt.shaped (.tuple [.str k, .int a, .int b, .int c]) = true := by
  unfold SeqAt.shaped
  simp [PyData.canLay0, PyData.canLayAll0, PyData.depth, PyData.depthAll, hk]
def spFollows (C : Addr) : Sp := fun vs H Q _ => ∃ (d : LedD) (L : LedM) (t pf pg : Addr) (r : RepM), vs = [.ref d.c, .ref t] ∧ LedAt C H d L ∧ LedOk L ∧ RepAt H t pf pg r ∧ r.fal.length ≤ 1000 ∧ r.hlp.length ≤ 1000 ∧ ∀ H', Ex H H' → Q (.bl (folM L r)) H'
set_option maxHeartbeats 2000000 in
theorem ok_follows (T : Top K mg) {k : Nat} : FnOk P w K mg base CX0 (k + 4) T.f_Ledger_follows T.fd_Ledger_follows ["self", "report"] (spFollows T.f_Ledger) := by
  have nd := sc_Ledger_follows.nd
  have G_grows := ok_grows (P := P) (w := w) (base := base) T (k := 0)
  have G_Ledger_pledge_can_pay := ok_canP (P := P) (w := w) (base := base) T (k := 0)
  have G_Ledger_payers := ok_payers (P := P) (w := w) (base := base) T (k := 0)
  have G_Ledger_can_draw := ok_canD (P := P) (w := w) (base := base) T (k := 0)
  have G_Ledger_draw_coins := ok_dcoin (P := P) (w := w) (base := base) T (k := 0)
  refine T.F_Ledger_follows.ok sc_Ledger_follows (fun vs H Q E h => ?_) (fun cdv A outer s H vs Q E hr h => ?_)
  · obtain ⟨d, L, t, pf, pg, r, rfl, _⟩ := h
    rfl
  · obtain ⟨d, L, t, pf, pg, r, rfl, h, hO, hR, hl1, hl2, q⟩ := h
    refine ⟨_, (pss_cons (ps_asg (pv 1) (pg_tup rfl (pgs_cons (pg_name (i := 2) nd rfl (.inl rfl)) (pgs_cons (pg_name (i := 3) nd rfl (.inl rfl)) (pgs_cons (pg_name (i := 4) nd rfl (.inl rfl)) (pgs_cons (pg_name (i := 5) nd rfl (.inl rfl)) (pgs_cons (pg_name (i := 6) nd rfl (.inl rfl)) (pgs_cons (pg_name (i := 7) nd rfl (.inl rfl)) (pgs_cons (pg_name (i := 8) nd rfl (.inl rfl)) pgs_nil)))))))))
      (pss_cons (ps_if (PW.pt (pw_or (pt_cmpR op_ne (pv 2) (pe_fldK (K := K) rfl (pv 0) rfl) (nomark _)) (pw_or1 (pt_cmpR op_gt (pv 2) (pe_callB call_len_seq (by rfl) T.m_len PySem.boot_len (pa_cons (pe_fldK (K := K) rfl (pv 0) rfl) pa_nil)) (nomark _)))))
        (pss_one (ps_ret pe_bl))
        pss_nil)
      (pss_cons (ps_if (pt_not (PW.pt (pw_and (pt_val (pe_call G_grows (hr.mono (by omega)) (by rfl) T.m_grows T.F_grows.kp T.b_grows .nil pass0 (pa_cons (pv 7) pa_nil))) (pw_and1 (pt_val (pe_callB (cr_all rfl) (by rfl) T.m_all (by decide +kernel) (pa_cons (pe_lc (own := [("at", 9)]) (g := gName 9) (tt := tYes) rfl nd (pi_list (pv 7)) (blkOk_by (own := [("at", 9)]) (N := Su.N_Ledger_follows) (sc := defScope s_Ledger_follows) (by decide +kernel)) (fun _ _ _ _ _ => (pg_name (i := 9) nd rfl (.inl rfl))) (fun _ _ _ _ _ => pts_nil) (fun _ _ _ _ _ => (pe_cmpR (op_in_seqK (K := K) rfl) (pv 9) (pe_fldK (K := K) rfl (pv 0) rfl) rfl))) pa_nil)))))))
        (pss_one (ps_ret pe_bl))
        pss_nil)
      (pss_cons (ps_if (pt_not (PW.pt (pw_and (pt_val (pe_call G_grows (hr.mono (by omega)) (by rfl) T.m_grows T.F_grows.kp T.b_grows .nil pass0 (pa_cons (pv 8) pa_nil))) (pw_and1 (pt_val (pe_callB (cr_all rfl) (by rfl) T.m_all (by decide +kernel) (pa_cons (pe_lc (own := [("at", 9)]) (g := gName 9) (tt := tYes) rfl nd (pi_list (pv 8)) (blkOk_by (own := [("at", 9)]) (N := Su.N_Ledger_follows) (sc := defScope s_Ledger_follows) (by decide +kernel)) (fun _ _ _ _ _ => (pg_name (i := 9) nd rfl (.inl rfl))) (fun _ _ _ _ _ => pts_nil) (fun _ _ _ _ _ => (pe_meth (pv 0) T.cl_Ledger T.mt_Ledger_pledge_can_pay G_Ledger_pledge_can_pay (hr.mono (by omega)) T.b_Ledger_pledge_can_pay .nil pass0 (pa_cons (pv 9) pa_nil)))) pa_nil)))))))
        (pss_one (ps_ret pe_bl))
        pss_nil)
      (pss_cons (ps_if (pt_cmpR op_gt (pe_op op_add (pe_fldK (K := K) rfl (pv 0) rfl) (pe_callB call_len_seq (by rfl) T.m_len PySem.boot_len (pa_cons (pv 7) pa_nil))) pe_int (nomark _))
        (pss_one (ps_ret (pe_cmpR (op_eqD hr.units) (pe_tup (pa_cons (pv 3) (pa_cons (pv 4) (pa_cons (pv 5) (pa_cons (pv 6) pa_nil))))) (pe_tup (pa_cons pe_str (pa_cons (pe_un un_neg pe_int) (pa_cons (pe_op op_mul (pe_fldK (K := K) rfl (pv 0) rfl) (pe_meth (pv 0) T.cl_Ledger T.mt_Ledger_payers G_Ledger_payers (hr.mono (by omega)) T.b_Ledger_payers .nil pass0 (pa_cons (pv 7) pa_nil))) (pa_cons pe_int pa_nil))))) (nomark _))))
        pss_nil)
      (pss_one (ps_ret (pe_and (pe_cmpR op_eq (pv 3) pe_str (nomark _)) (pe_and (pe_meth (pv 0) T.cl_Ledger T.mt_Ledger_can_draw G_Ledger_can_draw (hr.mono (by omega)) T.b_Ledger_can_draw .nil pass0 (pa_cons (pv 4) (pa_cons (pv 6) pa_nil))) (pe_one (pe_cmpR op_eq (pv 5) (pe_meth (pv 0) T.cl_Ledger T.mt_Ledger_draw_coins G_Ledger_draw_coins (hr.mono (by omega)) T.b_Ledger_draw_coins .nil pass0 (pa_cons (pv 6) pa_nil)) (nomark _)))))))))))), ?_⟩
    have n2 := hO.n2
    have ld := hO.ld
    unfold folM at q
    refine q_asgXg ((ev_var rfl) H (Ex.refl _) _ fun H1 e1 => tg_7 (K := K) (st_of (e1 _ _ hR.ht)) H1 (Ex.refl _) _ ?_)
    have h1 := h.ex e1
    have hR1 := hR.ex e1
    refine q_when (b := !decide (r.turn = L.opn) || decide (r.turn > (L.pl.length : Int))) (et_or (et_is (et_test (ev_op (ev_var rfl) (T.l_opn h1 (ev_var rfl)) (rv_ne rfl))) (by rw [int_eq])) fun _ => et_test (ev_op (ev_var rfl) (ev_is (ev_len (T.l_pl h1 (ev_var rfl)) (sq_of h1.hp)) (by rw [List.length_map])) rv_I0)) (fun hb H2 e2 => ?_) (fun hb H2 e2 => ?_)
    · rw [if_pos (by
        by_cases c : r.turn = L.opn
        · rw [decide_eq_true c] at hb
          exact .inr (of_decide_eq_true hb)
        · exact .inl c)] at q
      exact s_ret ev_c fun H3 e3 => q H3 ((e1.trans e2).trans e3)
    rw [if_neg (by
      rintro (c | c)
      · rw [decide_eq_false c] at hb; cases hb
      · rw [decide_eq_true c, Bool.or_true] at hb; cases hb)] at q
    have h2 := h1.ex e2
    have hR2 := hR1.ex e2
    have e12 := e1.trans e2
    refine q_when (b := !(growB r.fal && r.fal.all (fun x => decide (x ∈ L.line)))) (et_not (et_and (et_B (ev_call (ea_cons (ev_var rfl) ea_nil) (fun Hx e Q q _ => ⟨pf, r.fal, rfl, sq_of (e _ _ hR2.hf), hl1, q⟩))) fun _ => et_is (et_B (ev_allB (bs := r.fal.map fun x => decide (x ∈ L.line)) ?_)) all_map)) (fun hb2 H3 e3 => ?_) (fun hb2 H3 e3 => ?_)
    · rw [all_given]
      refine el_lcL _ _ (ev_var rfl) (sq_of hR2.hf) (by rw [List.length_map]; omega) (fun x => rfl) (fun j x Hb eb gx => et_yes) (fun j x Hb eb gx _ => ?_)
      obtain ⟨z, rfl, gz⟩ := ints_get gx
      rw [show r.fal.getD j 0 = z by rw [List.getD_eq_getElem?_getD, gz]; rfl]
      have hb := h2.ex eb
      exact ev_is (ev_op (ev_var rfl) (T.l_line hb (ev_var rfl)) (rv_isL (sq_of hb.hq) rfl flat_ints)) (by rw [inV_int])
    · rw [if_pos (by cases hc : (growB r.fal && r.fal.all (fun x => decide (x ∈ L.line))) <;> rw [hc] at hb2 <;> first | rfl | cases hb2)] at q
      exact s_ret ev_c fun H4 e4 => q H4 ((e12.trans e3).trans e4)
    rw [if_neg (by intro hc; rw [hc] at hb2; cases hb2)] at q
    have h3 := h2.ex e3
    have hR3 := hR2.ex e3
    have e13 := e12.trans e3
    refine q_when (b := !(growB r.hlp && r.hlp.all (canP L))) (et_not (et_and (et_B (ev_call (ea_cons (ev_var rfl) ea_nil) (fun Hx e Q q _ => ⟨pg, r.hlp, rfl, sq_of (e _ _ hR3.hg), hl2, q⟩))) fun _ => et_is (et_B (ev_allB (bs := r.hlp.map (canP L)) ?_)) all_map)) (fun hb3 H4 e4 => ?_) (fun hb3 H4 e4 => ?_)
    · rw [all_given]
      refine el_lcL _ _ (ev_var rfl) (sq_of hR3.hg) (by rw [List.length_map]; omega) (fun x => rfl) (fun j x Hb eb gx => et_yes) (fun j x Hb eb gx _ => ?_)
      obtain ⟨z, rfl, gz⟩ := ints_get gx
      rw [show r.hlp.getD j 0 = z by rw [List.getD_eq_getElem?_getD, gz]; rfl]
      have hb := h3.ex eb
      exact ev_meth (ev_var rfl) hb.hc l_no (ea_cons (ev_var rfl) ea_nil) (fun Hx e Q q _ => ⟨d, L, z, rfl, hb.ex e, hO, q⟩)
    · rw [if_pos (by cases hc : (growB r.hlp && r.hlp.all (canP L)) <;> rw [hc] at hb3 <;> first | rfl | cases hb3)] at q
      exact s_ret ev_c fun H5 e5 => q H5 ((e13.trans e4).trans e5)
    rw [if_neg (by intro hc; rw [hc] at hb3; cases hb3)] at q
    have h4 := h3.ex e4
    have hR4 := hR3.ex e4
    have e14 := e13.trans e4
    refine q_when (b := decide (L.due + (r.fal.length : Int) > 0)) (et_test (ev_op (ev_op (T.l_due h4 (ev_var rfl)) (ev_is (ev_len (ev_var rfl) (sq_of hR4.hf)) (by rw [List.length_map])) rv_I0) ev_c rv_I0)) (fun hb4 H5 e5 => ?_) (fun hb4 H5 e5 => ?_)
    · rw [if_pos (of_decide_eq_true hb4)] at q
      have h5 := h4.ex e5
      have hR5 := hR4.ex e5
      refine s_ret (v := .bl (boxB L r)) (ev_opUU (eu_tup (vs := [.str r.kind, .int r.who, .int r.coins, .int r.share]) (ea_cons (ev_var rfl) (ea_cons (ev_var rfl) (ea_cons (ev_var rfl) (ea_cons (ev_var rfl) ea_nil)))) (by show 4 ≤ 100000; decide)) (eu_tup (vs := [.str "box", .int (-1), .int (L.stake * payL L r.fal.length), .int 0]) (ea_cons ev_c (ea_cons (ev_un ev_c ru_neg) (ea_cons (ev_op (T.l_stake h5 (ev_var rfl)) (ev_is (ev_meth (z := .int (payL L (r.fal.map V.int).length)) (ev_var rfl) h5.hc l_no (ea_cons (ev_var rfl) ea_nil) (fun Hx e Q q _ => ⟨d, L, pf, _, rfl, h5.ex e, e _ _ hR5.hf, q⟩)) (by rw [List.length_map])) (Su.rv_mul (Su.CMul.r (by unfold payL; omega) (by unfold payL; omega)))) (ea_cons ev_c ea_nil)))) (by show 4 ≤ 100000; decide)) fun p5 q5 Hx hp5 hq5 ex => rv_eqDD (d := .tuple [.str r.kind, .int r.who, .int r.coins, .int r.share]) (e := .tuple [.str "box", .int (-1), .int (L.stake * payL L r.fal.length), .int 0]) (.tup (st_of hp5) (.cons (.str _) (.cons (.int _) (.cons (.int _) (.cons (.int _) .nil))))) (.tup (st_of hq5) (.cons (.str _) (.cons (.int _) (.cons (.int _) (.cons (.int _) .nil))))) (tup4_sh hR.ks) (tup4_sh (by decide +kernel)) box_eq) fun H6 e6 => q H6 ((e14.trans e5).trans e6)
    rw [if_neg (of_decide_eq_false hb4)] at q
    have h5 := h4.ex e5
    have str_eqd : decide (V.str r.kind = V.str "draw") = decide (r.kind = ("draw" : Str)) := by
      by_cases c : r.kind = ("draw" : Str)
      · rw [c, decide_eq_true rfl, decide_eq_true rfl]
      · rw [decide_eq_false c, decide_eq_false fun z => c (V.str.inj z)]
    exact s_ret (ev_andV (ev_is (ev_op (ev_var rfl) ev_c (rv_eq rfl)) (congrArg V.bl str_eqd)) fun _ => ev_andV (ev_meth (ev_var rfl) h5.hc l_no (ea_cons (ev_var rfl) (ea_cons (ev_var rfl) ea_nil)) (fun Hx e Q q _ => ⟨d, L, r.who, r.share, rfl, h5.ex e, hO, q⟩)) fun _ => ev_is (ev_op (ev_var rfl) (ev_meth (ev_var rfl) h5.hc l_no (ea_cons (ev_var rfl) ea_nil) (fun Hx e Q q _ => ⟨d, L, r.share, rfl, h5.ex e, hO, q⟩)) (rv_eq rfl)) (by rw [int_eq])) fun H6 e6 => q H6 ((e14.trans e5).trans e6)
end

end Su
namespace Su
/-! ### a ledger opened, and a report taken in -/
section
variable {P : Program} {w : World} {K : PySem.W.Frag} {mg : Str → Option Value} {base : Heap} {H : Hp} {d : LedD} {L : LedM} {σ : L2.St} {ta : TE}
theorem s_dropL {D : Ends} {te : TE} (k : te σ H fun _ H1 => D.nx σ H1) : tDrop te D σ H := k
def led0 (st : Int) (pl line : List Int) (bd : Bool) : LedM := ⟨st, pl, line, bd, [], 1, 0⟩
def spLed0 (C : Addr) : Sp := fun vs H Q _ => ∃ (x dx : Addr) (st : Int) (a b : Addr) (pl line : List Int) (bd : Bool), vs = [.ref x, .int st, .ref a, .ref b, .bl bd] ∧ H x = some (.ins C dx []) ∧ H a = some (.lst (pl.map V.int)) ∧ H b = some (.lst (line.map V.int)) ∧ ∀ (H' : Hp) (d : LedD), d.c = x → H d.pp = none → H d.pq = none → H d.pr = none → ExF [x] H H' → LedAt C H' d (led0 st pl line bd) → Q .non H'
theorem none_x {H H' : Hp} {x p : Addr} {C dx : Addr} {fs : List (Str × V)} (f : ExF [x] H H') (hp : H' p = none) (hx : H' x = some (.ins C dx fs)) : H p = none := by
  cases h : H p with
  | none => rfl
  | some o =>
    by_cases c : p = x
    · rw [c, hx] at hp; cases hp
    · rw [f p o h fun z => c (List.mem_singleton.mp z)] at hp; cases hp
theorem ok_Ledger_init (T : Top K mg) {k : Nat} : FnOk P w K mg base CX0 (k + 1) T.f_Ledger___init__ T.fd_Ledger___init__ ["self", "stake", "pledges", "queue", "bidding"] (spLed0 T.f_Ledger) := by
  have nd := sc_Ledger___init__.nd
  refine T.F_Ledger___init__.ok sc_Ledger___init__ (fun vs H Q E h => ?_) (fun cdv A outer s H vs Q E hr h => ?_)
  · obtain ⟨x, dx, st, a, b, pl, line, bd, rfl, _⟩ := h
    rfl
  · obtain ⟨x, dx, st, a, b, pl, line, bd, rfl, hx, ha, hb, q⟩ := h
    refine ⟨_, (pss_cons (ps_fldK (K := K) rfl (pv 0) (pv 1) rfl)
      (pss_cons (ps_fldK (K := K) rfl (pv 0) (pe_callTy call_list_of (by rfl) T.m_list (by decide +kernel) (pa_cons (pv 2) pa_nil)) rfl)
      (pss_cons (ps_fldK (K := K) rfl (pv 0) (pe_callTy call_list_of (by rfl) T.m_list (by decide +kernel) (pa_cons (pv 3) pa_nil)) rfl)
      (pss_cons (ps_fldK (K := K) rfl (pv 0) (pv 4) rfl)
      (pss_cons (ps_fldK (K := K) rfl (pv 0) (pe_lst pa_nil) rfl)
      (pss_cons (ps_fldK (K := K) rfl (pv 0) pe_int rfl)
      (pss_one (ps_fldK (K := K) rfl (pv 0) pe_int rfl)))))))), ?_⟩
    have nax : a ≠ x := fun z => by rw [z, hx] at ha; cases ha
    have nbx : b ≠ x := fun z => by rw [z, hx] at hb; cases hb
    refine q_fldN (ev_var rfl) (ev_var rfl) hx T.cl_Ledger T.na_Ledger_stake (by decide) fun H1 f1 h1 => ?_
    rw [show putF ("stake" : Str) (V.int st) [] = ([("stake" : Str)] : List Str).zip [V.int st] from rfl] at h1
    refine q_fldLN (el_list (ev_var rfl) (sq_of (f1 _ _ ha (nx' nax)))) (ev_var rfl) h1 T.cl_Ledger T.na_Ledger_pledges_left (by show 1 < 1000; decide) fun pp H2 hpp f2 h2p h2 np => ?_
    rw [zips] at h2
    have f12 := f1.trans f2
    refine q_fldLN (el_list (ev_var rfl) (sq_of (f12 _ _ hb (nx' nbx)))) (ev_var rfl) h2 T.cl_Ledger T.na_Ledger_line (by show 2 < 1000; decide) fun pq H3 hpq f3 h3q h3 nq => ?_
    rw [zips] at h3
    have f13 := f12.trans f3
    refine q_fldN (ev_var rfl) (ev_var rfl) h3 T.cl_Ledger T.na_Ledger_bidding (by show 3 < 1000; decide) fun H4 f4 h4 => ?_
    rw [zips] at h4
    have f14 := f13.trans f4
    refine q_fldLN (el_lst ea_nil (by decide)) (ev_var rfl) h4 T.cl_Ledger T.na_Ledger_drawers (by show 4 < 1000; decide) fun pr H5 hpr f5 h5r h5 nr => ?_
    rw [zips] at h5
    have f15 := f14.trans f5
    refine q_fldN ev_c (ev_var rfl) h5 T.cl_Ledger T.na_Ledger_open_round (by show 5 < 1000; decide) fun H6 f6 h6 => ?_
    rw [zips] at h6
    refine s_fldN ev_c (ev_var rfl) h6 T.cl_Ledger T.na_Ledger_rests_due (by show 6 < 1000; decide) fun H7 f7 h7 => ?_
    rw [zips] at h7
    have f57 := f6.trans f7
    have g2 := (f3.trans (f4.trans f5)).trans f57
    have npq : pp ≠ pq := fun z => by rw [← z, h2p] at hpq; cases hpq
    have npr : pp ≠ pr := fun z => by rw [← z, (f3.trans f4) _ _ h2p (nx' np)] at hpr; cases hpr
    have nqr : pq ≠ pr := fun z => by rw [← z, f4 _ _ h3q (nx' nq)] at hpr; cases hpr
    refine q H7 ⟨x, dx, pp, pq, pr⟩ rfl (none_x f1 hpp h1) (none_x f12 hpq h2) (none_x f14 hpr h4) (f15.trans f57) ⟨h7, g2 _ _ h2p (nx' np), (f4.trans (f5.trans f57)) _ _ h3q (nx' nq), f57 _ _ h5r (nx' nr), npq, npr, nqr⟩
theorem LedAt.aug {C : Addr} {H' : Hp} {o r : Int} {L' : LedM} (h : LedAt C H d L) (hL : L' = { L with opn := o, due := r }) (hH : H' d.c = some (.ins C d.dx (lNs.zip (ledV d L')))) (f : ExF [d.c] H H') : LedAt C H' d L' := by
  subst hL
  have ne : ∀ {a : Addr} {xs : List V}, H a = some (.lst xs) → a ∉ [d.c] := fun ha z => by
    rw [List.mem_singleton.mp z, h.hc] at ha
    cases ha
  exact ⟨hH, f _ _ h.hp (ne h.hp), f _ _ h.hq (ne h.hq), f _ _ h.hr (ne h.hr), h.n1, h.n2, h.n3⟩
theorem q_lfA {rd : V → V → Hp → VK → Prop} {C : Addr} {k : Nat} {f : Str} {ta tv : TE} {w v z : V} {D : Ends} {tz : TS} (hL : LedAt C H d L) (h : Ev ta σ H (.ref d.c)) (c : Cls K C) (n : NoAttr K C f) (hf : lNs[k]? = some f) (hw : (ledV d L)[k]? = some w) (hv : Ev tv σ H v) (hr : ∀ H1 (Q : VK), Q z H1 → rd w v H1 Q)
    (q : ∀ H1, ExF [d.c] H H1 → H1 d.c = some (.ins C d.dx (lNs.zip ((ledV d L).set k z))) → tz D σ H1) : tSeq (sFldAug K ta tv rd f) tz D σ H :=
  s_fldaug (D := { D with nx := tz D }) h hL.hc c n (zip_lookup lNs_nd hf hw) hv (fun H1 Q _ hq => hr H1 Q hq) (by show 7 < 1000; decide) fun H1 e1 => q _ ((ExF.ex e1).upd (List.mem_singleton.mpr rfl)) (by rw [upd_same, zip_put lNs_nd hf (List.getElem?_eq_some_iff.mp hw).1])
theorem s_lfA {rd : V → V → Hp → VK → Prop} {C : Addr} {k : Nat} {f : Str} {ta tv : TE} {w v z : V} {D : Ends} (hL : LedAt C H d L) (h : Ev ta σ H (.ref d.c)) (c : Cls K C) (n : NoAttr K C f) (hf : lNs[k]? = some f) (hw : (ledV d L)[k]? = some w) (hv : Ev tv σ H v) (hr : ∀ H1 (Q : VK), Q z H1 → rd w v H1 Q)
    (q : ∀ H1, ExF [d.c] H H1 → H1 d.c = some (.ins C d.dx (lNs.zip ((ledV d L).set k z))) → D.nx σ H1) : sFldAug K ta tv rd f D σ H :=
  s_fldaug h hL.hc c n (zip_lookup lNs_nd hf hw) hv (fun H1 Q _ hq => hr H1 Q hq) (by show 7 < 1000; decide) fun H1 e1 => q _ ((ExF.ex e1).upd (List.mem_singleton.mpr rfl)) (by rw [upd_same, zip_put lNs_nd hf (List.getElem?_eq_some_iff.mp hw).1])
theorem fol_hlp {L : LedM} {r : RepM} (hf : folM L r = true) : ∀ x ∈ r.hlp, x ∈ L.drew := fun x hx => by
  unfold folM at hf
  by_cases c1 : r.turn ≠ L.opn ∨ r.turn > (L.pl.length : Int)
  · rw [if_pos c1] at hf; cases hf
  rw [if_neg c1] at hf
  by_cases c2 : (growB r.fal && r.fal.all (fun x => decide (x ∈ L.line))) = false
  · rw [if_pos c2] at hf; cases hf
  rw [if_neg c2] at hf
  by_cases c3 : (growB r.hlp && r.hlp.all (canP L)) = false
  · rw [if_pos c3] at hf; cases hf
  rw [Bool.not_eq_false, Bool.and_eq_true, List.all_eq_true] at c3
  have := c3.2 x hx
  unfold canP at this
  rw [Bool.and_eq_true, decide_eq_true_eq] at this
  exact this.1
def spTakeIn (C : Addr) : Sp := fun vs H Q _ => ∃ (d : LedD) (L : LedM) (t pf pg : Addr) (r : RepM), vs = [.ref d.c, .ref t] ∧ LedAt C H d L ∧ LedOk L ∧ folM L r = true ∧ RepAt H t pf pg r ∧ pf ≠ d.pp ∧ pg ≠ d.pp ∧ pf ≠ d.pr ∧ r.fal.length ≤ 1000 ∧ r.hlp.length ≤ 1000 ∧ ∀ (H' : Hp) (pq : Addr), H pq = none → ExF [d.c, d.pp, d.pr] H H' → LedAt C H' { d with pq := pq } (afterL L r) → Q .non H'
set_option maxHeartbeats 4000000 in
theorem ok_take_in (T : Top K mg) {k : Nat} : FnOk P w K mg base CX0 (k + 1) T.f_Ledger_take_in T.fd_Ledger_take_in ["self", "report"] (spTakeIn T.f_Ledger) := by
  have nd := sc_Ledger_take_in.nd
  refine T.F_Ledger_take_in.ok sc_Ledger_take_in (fun vs H Q E h => ?_) (fun cdv A outer s H vs Q E hr h => ?_)
  · obtain ⟨d, L, t, pf, pg, r, rfl, _⟩ := h
    rfl
  · obtain ⟨d, L, t, pf, pg, r, rfl, h, hO, hf, hR, nf, ng, nf2, hl1, hl2, q⟩ := h
    refine ⟨_, (pss_cons (ps_asg (pv 1) (pg_tup rfl (pgs_cons (pg_name (i := 2) nd rfl (.inl rfl)) (pgs_cons (pg_name (i := 3) nd rfl (.inl rfl)) (pgs_cons (pg_name (i := 4) nd rfl (.inr rfl)) (pgs_cons (pg_name (i := 5) nd rfl (.inl rfl)) (pgs_cons (pg_name (i := 6) nd rfl (.inl rfl)) (pgs_cons (pg_name (i := 7) nd rfl (.inr rfl)) (pgs_cons (pg_name (i := 8) nd rfl (.inl rfl)) pgs_nil)))))))))
      (pss_cons (ps_for PassesOwn.never rfl (pi_list (pv 8)) (pg_name (i := 9) nd rfl (.inl rfl))
        (pss_one (ps_augS (pe_fldK (K := K) rfl (pv 0) rfl) (pv 9) get_list (pe_fldK (K := K) rfl (pv 0) rfl) ip_sub set_list)))
      (pss_cons (ps_fldaugK (K := K) rfl (pv 0) (pe_callB call_len_seq (by rfl) T.m_len PySem.boot_len (pa_cons (pv 7) pa_nil)) in_add)
      (pss_cut (ps_if (pt_cmpR op_eq (pv 3) pe_str (nomark _))
        (pss_one (ps_fldaugK (K := K) rfl (pv 0) pe_int in_sub))
        (pss_one (ps_expr (pe_bm PySem.F.plainAttrs_list PySem.F.slot_list_append PySem.F.type_list_append mt_append (pe_fldK (K := K) rfl (pv 0) rfl) (pa_cons (pv 4) pa_nil)))))
      (pss_cons (ps_fldK (K := K) rfl (pv 0) (pe_lc (own := [("at", 9)]) (g := gName 9) (tt := _) rfl nd (pi_list (pe_fldK (K := K) rfl (pv 0) rfl)) (blkOk_by (own := [("at", 9)]) (N := Su.N_Ledger_take_in) (sc := defScope s_Ledger_take_in) (by decide +kernel)) (fun _ _ _ _ _ => (pg_name (i := 9) nd rfl (.inl rfl))) (fun _ _ _ _ _ => (pts_one (PW.pt (pw_and (pt_cmpR (op_notIn_seqK (K := K) rfl) (pv 9) (pv 7) rfl) (pw_and1 (pt_cmpR op_ne (pv 9) (pv 4) (nomark _))))))) (fun _ _ _ _ _ => (pv 9))) rfl)
      (pss_one (ps_fldK (K := K) rfl (pv 0) (pe_op op_add (pv 2) pe_int) rfl))))))), ?_⟩
    have hdrew := fol_hlp hf
    have hcin : ∀ x ∈ [d.c], x ∈ [d.c, d.pp, d.pr] := fun x hx => by rw [List.mem_singleton.mp hx]; simp
    have c_ne : ∀ {H : Hp} {L : LedM} {d : LedD}, LedAt T.f_Ledger H d L → ∀ {a : Addr} {xs : List V}, H a = some (.lst xs) → a ≠ d.c := fun h a xs ha z => by rw [z, h.hc] at ha; cases ha
    refine q_asgXg ((ev_var rfl) H (Ex.refl _) _ fun H1 e1 => tg_7 (K := K) (st_of (e1 _ _ hR.ht)) H1 (Ex.refl _) _ ?_)
    have h1 := h.ex e1
    have hR1 := hR.ex e1
    have tne : ∀ {a : Addr} {xs : List V} {ys : List V}, H1 a = some (.lst xs) → H1 t = some (.tup ys) → t ≠ a := fun ha ht z => by rw [z, ha] at ht; cases ht
    -- the pledges that paid
    refine q_forL (xs := r.hlp.map V.int) (ev_var rfl) (sq_of hR1.hg) (fun u σ' H' => ∃ y9 : Option V, σ' = [some (.ref d.c), some (.ref t), some (.int r.turn), some (.str r.kind), some (.int r.who), some (.int r.coins), some (.int r.share), some (.ref pf), some (.ref pg), y9] ∧ ExF [d.pp] H1 H' ∧ LedAt T.f_Ledger H' d { L with pl := plsub L.stake L.pl (r.hlp.take u) }) ?_ ?_ ?_ ?_
    · intro H2 e2
      exact ⟨_, rfl, ExF.ex e2, h1.ex e2⟩
    · rintro u σ' H2 hu ⟨y9, rfl, f2, h2⟩
      exact sq_of (f2 _ _ hR1.hg fun z => ng (List.mem_singleton.mp z))
    · rintro u x σ' H2 hx ⟨y9, rfl, f2, h2⟩
      obtain ⟨z, rfl, gz⟩ := ints_get hx
      have hz := hO.dr z (hdrew z (List.mem_of_getElem? gz))
      have hlen : (plsub L.stake L.pl (r.hlp.take u)).length = L.pl.length := plsub_len
      refine tg_name H2 (Ex.refl _) _ ?_
      refine q_augL (D := { nx := _, rt := _, bk := _, ct := _ }) (tz := fun D' σ' H' => D'.nx σ' H') (z := z) (j := z.toNat) (a := (plsub L.stake L.pl (r.hlp.take u)).getD z.toNat 0) h2.hp (T.l_pl h2 (ev_var rfl)) (ev_var rfl) (by omega) (int_nat (i := z.toNat) (by show z.toNat < (plsub L.stake L.pl (r.hlp.take u)).length; omega)) (T.l_stake h2 (ev_var rfl)) fun H3 e3 => ?_
      refine ⟨_, rfl, (f2.trans (ExF.ex e3)).upd (List.mem_singleton.mpr rfl), ?_⟩
      have h3 := h2.ex e3
      have e : r.hlp.take (u + 1) = r.hlp.take u ++ [z] := by rw [List.take_add_one, gz]; rfl
      rw [e, plsub_snoc]
      exact ⟨by rw [upd_ne (c_ne h3 h3.hp).symm]; exact h3.hc, by rw [upd_same, List.map_set], by rw [upd_ne h3.n1.symm]; exact h3.hq, by rw [upd_ne h3.n2.symm]; exact h3.hr, h3.n1, h3.n2, h3.n3⟩
    rintro σ' H2 ⟨y9, rfl, f2, h2⟩
    rw [List.length_map, List.take_length] at h2
    have hRt := f2 _ _ hR1.ht fun z => tne h1.hp hR1.ht (List.mem_singleton.mp z)
    have hRf := f2 _ _ hR1.hf fun z => nf (List.mem_singleton.mp z)
    have f02 : ExF [d.c, d.pp, d.pr] H H2 := (ExF.ex e1).trans (f2.mono fun x hx => by rw [List.mem_singleton.mp hx]; simp)
    generalize hL2 : ({ L with pl := plsub L.stake L.pl r.hlp } : LedM) = L2 at h2
    -- rests
    refine q_lfA (k := 6) h2 (ev_var rfl) T.cl_Ledger T.na_Ledger_rests_due rfl rfl (ev_is (ev_len (ev_var rfl) (sq_of hRf)) (by rw [List.length_map])) (z := .int (L2.due + (r.fal.length : Int))) (fun H1 Q hq => ⟨_, _, rfl, rfl, hq⟩) fun H3 f3 hc3 => ?_
    have h3 : LedAt T.f_Ledger H3 d { L2 with due := L2.due + (r.fal.length : Int) } := h2.aug (o := L2.opn) (r := L2.due + (r.fal.length : Int)) rfl hc3 f3
    have hRf3 := f3 _ _ hRf fun z => c_ne h2 hRf (List.mem_singleton.mp z)
    have f03 := f02.trans (f3.mono hcin)
    generalize hL3 : ({ L2 with due := L2.due + (r.fal.length : Int) } : LedM) = L3 at h3
    have str_eqd : decide (V.str r.kind = V.str "box") = decide (r.kind = ("box" : Str)) := by
      by_cases c : r.kind = ("box" : Str)
      · rw [c, decide_eq_true rfl, decide_eq_true rfl]
      · rw [decide_eq_false c, decide_eq_false fun z => c (V.str.inj z)]
    have hdl : L.drew.length ≤ 100 := by have := hO.ld; have := hO.n2; omega
    refine q_cut (M := fun σ' H' => σ' = [some (.ref d.c), some (.ref t), some (.int r.turn), some (.str r.kind), some (.int r.who), some (.int r.coins), some (.int r.share), some (.ref pf), some (.ref pg), y9] ∧ ExF [d.c, d.pp, d.pr] H H' ∧ H' pf = some (.lst (r.fal.map V.int)) ∧ LedAt T.f_Ledger H' d { L3 with drew := if r.kind = ("box" : Str) then L.drew else L.drew ++ [r.who], due := L3.due - (if r.kind = ("box" : Str) then 1 else 0) }) ?_ ?_
    · have hd3 : L3.drew = L.drew := by rw [← hL3, ← hL2]
      refine s_if (et_is (et_test (ev_op (ev_var rfl) ev_c (rv_eq rfl))) str_eqd) (fun hb H4 e4 => ?_) (fun hb H4 e4 => ?_)
      · have hk := of_decide_eq_true hb
        have h4 := h3.ex e4
        refine s_lfA (k := 6) h4 (ev_var rfl) T.cl_Ledger T.na_Ledger_rests_due rfl rfl ev_c (z := .int (L3.due - 1)) (fun H1 Q hq => ⟨_, _, rfl, rfl, hq⟩) fun H5 f5 hc5 => ?_
        refine ⟨rfl, (f03.trans (ExF.ex e4)).trans (f5.mono hcin), f5 _ _ (e4 _ _ hRf3) fun z => c_ne h4 (e4 _ _ hRf3) (List.mem_singleton.mp z), ?_⟩
        rw [if_pos hk, if_pos hk]
        exact h4.aug (o := L3.opn) (r := L3.due - 1) (by rw [← hd3]) (by rw [← hd3]; exact hc5) f5
      · have hk := of_decide_eq_false hb
        have h4 := h3.ex e4
        refine s_app h4.hr (T.l_drew h4 (ev_var rfl)) (ev_var rfl) (by rw [List.length_map, hd3]; omega) fun H5 e5 => ?_
        have h5 := h4.ex e5
        refine ⟨rfl, ((f03.trans (ExF.ex e4)).trans (ExF.ex e5)).upd (by simp), by rw [upd_ne nf2]; exact (e4.trans e5) _ _ hRf3, ?_⟩
        rw [if_neg hk, if_neg hk, ← hd3]
        exact ⟨by rw [upd_ne (c_ne h5 h5.hr).symm, h5.hc, Int.sub_zero]; rfl, by rw [upd_ne h5.n2]; exact h5.hp, by rw [upd_ne h5.n3]; exact h5.hq, by rw [upd_same, List.map_append]; rfl, h5.n1, h5.n2, h5.n3⟩
    rintro _ H4 ⟨rfl, f04, hRf4, h4⟩
    generalize hL4 : ({ L3 with drew := if r.kind = ("box" : Str) then L.drew else L.drew ++ [r.who], due := L3.due - (if r.kind = ("box" : Str) then 1 else 0) } : LedM) = L4 at h4
    have hl4 : L4.line = L.line := by rw [← hL4, ← hL3, ← hL2]
    have hll : L.line.length ≤ 100 := by have := hO.ld; have := hO.n2; omega
    -- the queue
    refine q_fldLN (xs := (L.line.filter fun x => decide (x ∉ r.fal) && decide (x ≠ r.who)).map V.int) (by
      rw [← given_filter]
      have hlen : L.line.length = (L4.line.map V.int).length := by rw [List.length_map, hl4]
      rw [hlen]
      refine el_lcL _ _ (T.l_line h4 (ev_var rfl)) (sq_of h4.hq) (by rw [← hlen]; omega) (fun x => rfl) (fun j x Hb eb gx => ?_) (fun j x Hb eb gx _ => ?_)
      · obtain ⟨z, rfl, gz⟩ := ints_get gx
        rw [hl4] at gz
        rw [show L.line.getD j 0 = z by rw [List.getD_eq_getElem?_getD, gz]; rfl]
        exact et_and (et_is (et_test (ev_op (ev_var rfl) (ev_var rfl) (rv_niL (sq_of (eb _ _ hRf4)) rfl flat_ints))) (by rw [inV_int]; by_cases c : z ∈ r.fal <;> simp [c])) fun _ => et_is (et_test (ev_op (ev_var rfl) (ev_var rfl) (rv_ne rfl))) (by rw [int_eq]; by_cases c : z = r.who <;> simp [c])
      · obtain ⟨z, rfl, gz⟩ := ints_get gx
        rw [hl4] at gz
        rw [show L.line.getD j 0 = z by rw [List.getD_eq_getElem?_getD, gz]; rfl]
        exact ev_var rfl) (ev_var rfl) h4.hc T.cl_Ledger T.na_Ledger_line (by show 7 < 1000; decide) fun pq H5 hpq f5 h5q hc5 nq => ?_
    rw [zip_put lNs_nd (i := 2) rfl (by show 2 < 7; decide)] at hc5
    have np : d.pp ≠ pq := fun z => by rw [← z, h4.hp] at hpq; cases hpq
    have nr : d.pr ≠ pq := fun z => by rw [← z, h4.hr] at hpq; cases hpq
    have h5 : LedAt T.f_Ledger H5 { d with pq := pq } { L4 with line := L.line.filter fun x => decide (x ∉ r.fal) && decide (x ≠ r.who) } := ⟨hc5, f5 _ _ h4.hp fun z => c_ne h4 h4.hp (List.mem_singleton.mp z), h5q, f5 _ _ h4.hr fun z => c_ne h4 h4.hr (List.mem_singleton.mp z), np, h4.n2, nr.symm⟩
    refine s_fldN (ev_op (ev_var rfl) ev_c rv_I0) (ev_var rfl) h5.hc T.cl_Ledger T.na_Ledger_open_round (by show 7 < 1000; decide) fun H6 f6 hc6 => ?_
    rw [zip_put lNs_nd (i := 5) rfl (by show 5 < 7; decide)] at hc6
    have h6 := h5.aug (o := r.turn + 1) (r := L4.due) rfl hc6 f6
    have hpq0 : H pq = none := none_back f04 hpq fun a ha => by
      simp only [List.mem_cons, List.not_mem_nil, or_false] at ha
      rcases ha with rfl | rfl | rfl
      · exact ⟨_, h4.hc⟩
      · exact ⟨_, h4.hp⟩
      · exact ⟨_, h4.hr⟩
    refine q H6 pq hpq0 ((f04.trans (f5.mono hcin)).trans (f6.mono hcin)) ?_
    have : afterL L r = { ({ L4 with line := L.line.filter fun x => decide (x ∉ r.fal) && decide (x ≠ r.who) } : LedM) with opn := r.turn + 1, due := L4.due } := by
      rw [← hL4, ← hL3, ← hL2]
      rfl
    rw [this]
    exact h6
end
section
variable {P : Program} {w : World} {K : PySem.W.Frag} {mg : Str → Option Value} {base : Heap}
/-- a row of reports: their places and what they tell -/
structure RepD where
  t : Addr
  pf : Addr
  pg : Addr
  r : RepM
structure RepsAt (H : Hp) (rp : Addr) (xs : List RepD) : Prop where
  h0 : H rp = some (.lst (xs.map fun x => V.ref x.t))
  hr : ∀ x ∈ xs, RepAt H x.t x.pf x.pg x.r
  hl : ∀ x ∈ xs, x.r.fal.length ≤ 1000 ∧ x.r.hlp.length ≤ 1000
theorem RepsAt.ex {H H' : Hp} {rp : Addr} {xs : List RepD} (h : RepsAt H rp xs) (e : Ex H H') : RepsAt H' rp xs := ⟨e _ _ h.h0, fun x hx => (h.hr x hx).ex e, h.hl⟩
def spFirst (K : PySem.W.Frag) : Sp := fun vs H Q _ => ∃ (st : Int) (a b rp : Addr) (pl line : List Int) (bd : Bool) (xs : List RepD), vs = [.int st, .ref a, .ref b, .bl bd, .ref rp] ∧ H a = some (.lst (pl.map V.int)) ∧ H b = some (.lst (line.map V.int)) ∧ LedOk (led0 st pl line bd) ∧ RepsAt H rp xs ∧ ∀ H', Ex H H' → Q (.int (firstL (led0 st pl line bd) (xs.map RepD.r) 0)) H'
theorem ok_first_wrong (T : Top K mg) {k : Nat} : FnOk P w K mg base CX0 (k + 5) T.f_first_wrong T.fd_first_wrong ["stake", "pledges", "queue", "bidding", "reports"] (spFirst K) := by
  have nd := sc_first_wrong.nd
  have G_Ledger___init__ := ok_Ledger_init (P := P) (w := w) (base := base) T (k := 0)
  have G_Ledger_follows := ok_follows (P := P) (w := w) (base := base) T (k := 0)
  have G_Ledger_take_in := ok_take_in (P := P) (w := w) (base := base) T (k := 0)
  refine T.F_first_wrong.ok sc_first_wrong (fun vs H Q E h => ?_) (fun cdv A outer s H vs Q E hr h => ?_)
  · obtain ⟨st, a, b, rp, pl, line, bd, xs, rfl, _⟩ := h
    rfl
  · obtain ⟨st, a, b, rp, pl, line, bd, xs, rfl, ha, hb, hO, hR, q⟩ := h
    refine ⟨_, (pss_cons (ps_set (i := 5) nd rfl (.inl rfl) (pe_make T.mk_Ledger G_Ledger___init__ (hr.mono (by omega)) (by rfl) T.m_Ledger T.b_Ledger___init__ .nil pass0 (pa_cons (pv 0) (pa_cons (pv 1) (pa_cons (pv 2) (pa_cons (pv 3) pa_nil))))))
      (pss_cons (ps_for PassesOwn.never rfl (pi_enum (by rfl) T.m_enumerate (pa_cons (pv 4) pa_nil)) (pg_tup rfl (pgs_cons (pg_name (i := 6) nd rfl (.inl rfl)) (pgs_cons (pg_name (i := 7) nd rfl (.inl rfl)) pgs_nil)))
        (pss_cons (ps_if (pt_not (pt_val (pe_meth (pv 5) T.cl_Ledger T.mt_Ledger_follows G_Ledger_follows (hr.mono (by omega)) T.b_Ledger_follows .nil pass0 (pa_cons (pv 7) pa_nil))))
            (pss_one (ps_ret (pv 6)))
            pss_nil)
          (pss_one (ps_expr (pe_meth (pv 5) T.cl_Ledger T.mt_Ledger_take_in G_Ledger_take_in (hr.mono (by omega)) T.b_Ledger_take_in .nil pass0 (pa_cons (pv 7) pa_nil))))))
      (pss_one (ps_ret (pe_un un_neg pe_int))))), ?_⟩
    refine q_asgX (te_make (ea_cons (ev_var rfl) (ea_cons (ev_var rfl) (ea_cons (ev_var rfl) (ea_cons (ev_var rfl) ea_nil)))) fun x dx H1 e1 hx hdx hne => ?_)
    have e10 : Ex H1 (upd (upd H1 dx (.own x)) x (.ins T.f_Ledger dx [])) := (Ex.new hdx).trans (Ex.new (by rw [upd_ne hne.symm]; exact hx))
    refine ⟨x, dx, st, a, b, pl, line, bd, rfl, upd_same, (e1.trans e10) _ _ ha, (e1.trans e10) _ _ hb, fun H2 d hdc hpp hpq hpr f2 hL => ⟨rfl, ?_⟩⟩
    subst hdc
    have hc0 : H d.c = none := fresh_back e1 hx
    have hpp0 := fresh_back (e1.trans e10) hpp
    have hpr0 := fresh_back (e1.trans e10) hpr
    have ex2 : Ex H H2 := fun c o hc => f2 _ _ ((e1.trans e10) _ _ hc) fun z => by rw [List.mem_singleton.mp z, hc0] at hc; cases hc
    refine q_forE (xs := xs.map fun x => V.ref x.t) (ea_cons (ev_var rfl) ea_nil) (sq_of (hR.ex ex2).h0) (fun i σ' H' => ∃ (d : LedD) (L : LedM) (y6 y7 : Option V), σ' = [some (.int st), some (.ref a), some (.ref b), some (.bl bd), some (.ref rp), some (.ref d.c), y6, y7] ∧ Ex H H' ∧ LedAt T.f_Ledger H' d L ∧ LedOk L ∧ H d.c = none ∧ H d.pp = none ∧ H d.pr = none ∧ firstL (led0 st pl line bd) (xs.map RepD.r) 0 = firstL L ((xs.drop i).map RepD.r) (i : Int)) ?_ ?_ ?_ ?_
    · intro H3 e3
      exact ⟨d, _, _, _, rfl, ex2.trans e3, hL.ex e3, hO, hc0, hpp0, hpr0, rfl⟩
    · rintro i σ' H3 hi ⟨d, L, y6, y7, rfl, ex, _⟩
      exact sq_of (hR.ex ex).h0
    · clear hL ex2 hc0 hpp0 hpr0 f2 hpp hpq hpr hO
      rintro i xv t0 σ' Hc hxv ⟨d, L, y6, y7, rfl, ex, hL, hO, hc0, hpp0, hpr0, hfst⟩ nT
      rw [List.getElem?_map] at hxv
      obtain ⟨x, hx, rfl⟩ := Option.map_eq_some_iff.mp hxv
      have hxm := List.mem_of_getElem? hx
      refine ⟨_, tg_two (st_of upd_same) tg_name tg_name, ?_⟩
      have exT := ex.trans (Ex.new (o := .tup [.int (i : Nat), .ref x.t]) nT)
      have hLT := hL.ex (Ex.new (o := .tup [.int (i : Nat), .ref x.t]) nT)
      generalize upd Hc t0 (.tup [.int (i : Nat), .ref x.t]) = H3 at exT hLT
      have hil := (List.getElem?_eq_some_iff.mp hx).1
      have hdr : (xs.drop i).map RepD.r = x.r :: (xs.drop (i + 1)).map RepD.r := by
        rw [List.drop_eq_getElem_cons hil, List.map_cons]
        rw [List.getElem?_eq_getElem hil] at hx
        rw [Option.some.inj hx]
      rw [hdr] at hfst
      have hRx := (hR.ex exT).hr x hxm
      refine q_when (b := !folM L x.r) (et_not (et_B (ev_meth (ev_var rfl) hLT.hc l_no (ea_cons (ev_var rfl) ea_nil) (fun Hx e Q q _ => ⟨d, L, x.t, x.pf, x.pg, x.r, rfl, hLT.ex e, hO, hRx.ex e, (hR.hl x hxm).1, (hR.hl x hxm).2, q⟩)))) (fun hb H4 e4 => ?_) (fun hb H4 e4 => ?_)
      · have hff : ¬ folM L x.r = true := fun z => by rw [z] at hb; cases hb
        refine s_ret (ev_var rfl) fun H5 e5 => ?_
        have := q H5 ((exT.trans e4).trans e5)
        rw [hfst] at this
        unfold firstL at this
        rw [if_neg hff] at this
        exact this
      · have hff : folM L x.r = true := by cases hc : folM L x.r <;> rw [hc] at hb <;> first | rfl | cases hb
        have hL4 := hLT.ex e4
        have old : ∀ {c : Addr} {o : HO}, H c = some o → c ≠ d.pp ∧ c ≠ d.pr := fun hc => ⟨fun z => (by rw [z, hpp0] at hc; cases hc), fun z => by rw [z, hpr0] at hc; cases hc⟩
        have hR0 := hR.hr x hxm
        refine s_dropL (te_meth (ev_var rfl) hL4.hc l_no (ea_cons (ev_var rfl) ea_nil) fun H5 e5 => ?_)
        refine ⟨d, L, x.t, x.pf, x.pg, x.r, rfl, hL4.ex e5, hO, hff, (hRx.ex e4).ex e5, (old hR0.hf).1, (old hR0.hg).1, (old hR0.hf).2, (hR.hl x hxm).1, (hR.hl x hxm).2, fun H6 pq hpq f6 hL6 => ?_⟩
        have ex5 := (exT.trans e4).trans e5
        refine ⟨{ d with pq := pq }, afterL L x.r, _, _, rfl, fun c o hc => f6 _ _ (ex5 _ _ hc) fun z => ?_, hL6, hO.after hff, hc0, hpp0, hpr0, ?_⟩
        · simp only [List.mem_cons, List.not_mem_nil, or_false] at z
          rcases z with z | z | z
          · rw [z, hc0] at hc; cases hc
          · rw [z, hpp0] at hc; cases hc
          · rw [z, hpr0] at hc; cases hc
        · rw [hfst]
          show (if folM L x.r = true then _ else _) = _
          rw [if_pos hff]
          push_cast
          rfl
    · rintro σ' H3 ⟨d, L, y6, y7, rfl, ex, hL, _, _, _, _, hfst⟩
      rw [List.length_map, List.drop_length] at hfst
      refine s_ret (ev_un ev_c ru_neg) fun H4 e4 => ?_
      have := q H4 (ex.trans e4)
      rw [hfst] at this
      exact this
end

end Su
namespace Su
theorem cut_to (xs : List V) (k : Nat) : cutV xs none (some (k : Int)) = xs.take k := by
  unfold cutV
  rw [HT.sIx_nat, HT.sIx_none, List.drop_zero, Nat.sub_zero]
  by_cases h : k ≤ xs.length
  · rw [Nat.min_eq_left h]
  · rw [Nat.min_eq_right (by omega), List.take_of_length_le (Nat.le_refl _), List.take_of_length_le (by omega)]
theorem el_cat {ta tb : TE} {σ : L2.St} {H : Hp} {xs ys : List V} (ha : EvL ta σ H xs) (hb : EvL tb σ H ys) (hz : xs.length + ys.length ≤ 100000) : EvL (tOp rCat ta tb) σ H (xs ++ ys) := fun H1 e Q q =>
  ha H1 e _ fun p H2 hp e2 h2 => hb H2 (e.trans e2) _ fun p2 H3 hp3 e3 h3 => ⟨p, p2, xs, ys, rfl, rfl, e3 p _ h2, h3, sz_of hz, fun r hr => q r _ (fresh_back (e2.trans e3) hr) ((e2.trans e3).trans (Ex.new hr)) upd_same⟩

end Su
namespace Su
/-! ### rows of reports, copied and compared -/
section
variable {X : Cx} {K : PySem.W.Frag}
theorem sl_tupK (h : X.K = K := by rfl) : SlR X (rSlT K) := h ▸ sl_tup
theorem op_catTK (h : X.K = K := by rfl) : OpR X (binaryOp .Add) (rCatT K) := h ▸ op_catT
end
def repPD (r : RepM) : PyData := .tuple [.int r.turn, .str r.kind, .int r.who, .int r.coins, .int r.share, .list (r.fal.map PyData.int), .list (r.hlp.map PyData.int)]
theorem layInts : ∀ l : List Int, PyData.canLayAll0 (l.map .int) = true
  | [] => by simp [PyData.canLayAll0]
  | a :: r => by simp [PyData.canLayAll0, PyData.canLay0, layInts r]
theorem depInts : ∀ l : List Int, PyData.depthAll (l.map .int) = 0
  | [] => by simp [PyData.depthAll]
  | a :: r => by simp [PyData.depthAll, PyData.depth, depInts r]
theorem layRep {r : RepM} (h : PyData.strOk r.kind = true) : PyData.canLay0 (repPD r) = true := by
  unfold repPD
  simp [PyData.canLay0, PyData.canLayAll0, layInts, h]
theorem depRep {r : RepM} : PyData.depth (repPD r) ≤ 10 := by
  unfold repPD
  simp [PyData.depth, PyData.depthAll, depInts]
theorem shaped_reps {rs : List RepM} (h : ∀ r ∈ rs, PyData.strOk r.kind = true) : SeqAt.shaped (.list (rs.map repPD)) = true := by
  have h1 : ∀ l : List RepM, (∀ r ∈ l, PyData.strOk r.kind = true) → PyData.canLayAll0 (l.map repPD) = true := by
    intro l
    induction l with
    | nil => intro _; simp [PyData.canLayAll0]
    | cons a l ih =>
      intro hl
      simp [PyData.canLayAll0, layRep (hl a List.mem_cons_self), ih fun r hr => hl r (List.mem_cons_of_mem _ hr)]
  have h2 : ∀ l : List RepM, PyData.depthAll (l.map repPD) ≤ 10 := by
    intro l
    induction l with
    | nil => simp [PyData.depthAll]
    | cons a l ih =>
      have := depRep (r := a)
      simp only [List.map_cons, PyData.depthAll]
      omega
  unfold SeqAt.shaped
  rw [Bool.and_eq_true]
  refine ⟨by simp only [PyData.canLay0]; exact h1 rs h, ?_⟩
  have := h2 rs
  simp only [PyData.depth]
  exact decide_eq_true (by omega)
section
variable {K : PySem.W.Frag} {σ : L2.St} {H H' : Hp} {xs : List RepD} {rp : Addr}
theorem dp_rep1 {t pf pg : Addr} {r : RepM} (h : RepAt H t pf pg r) : Dp K H (.ref t) (repPD r) :=
  .tup (st_of h.ht) (.cons (.int _) (.cons (.str _) (.cons (.int _) (.cons (.int _) (.cons (.int _) (.cons (.lst (sq_of h.hf) dpa_intsV) (.cons (.lst (sq_of h.hg) dpa_intsV) .nil)))))))
theorem RepsAt.dpa (h : RepsAt H rp xs) : DpAll K H (xs.map fun x => V.ref x.t) ((xs.map RepD.r).map repPD) := by
  have := dpa_of (K := K) (H := H) (fun x : RepD => V.ref x.t) (fun x => repPD x.r) xs fun x hx => dp_rep1 (h.hr x hx)
  rw [List.map_map]
  exact this
theorem RepsAt.dp (h : RepsAt H rp xs) : Dp K H (.ref rp) (.list ((xs.map RepD.r).map repPD)) := .lst (sq_of h.h0) h.dpa
def RepD.all (x : RepD) : List Addr := [x.t, x.pf, x.pg]
theorem RepAt.up {p : Addr} {o : HO} {t pf pg : Addr} {r : RepM} (h : RepAt H t pf pg r) (h1 : t ≠ p) (h2 : pf ≠ p) (h3 : pg ≠ p) : RepAt (upd H p o) t pf pg r := ⟨by rw [upd_ne h1]; exact h.ht, by rw [upd_ne h2]; exact h.hf, by rw [upd_ne h3]; exact h.hg, h.ks⟩
theorem cut5 (xs : List V) (k : Nat) : cutV xs none (some (k : Int)) = xs.take k := cut_to xs k
/-- [row[:5] + (list(row[5]), list(row[6])) for row in reports] -/
theorem rl_copies {tl : TE} {Q : VK} {a : Addr} {j : Nat} {vs : List Nat} (h : Ev tl σ H (.ref a)) (hx : RepsAt H a xs) (hz : xs.length ≤ 1000) (hw : ∀ x, wipe ((wipe σ vs).set j (some x)) vs = wipe σ vs) (hj : ∀ x : V, ((wipe σ vs).set j (some x))[j]? = some (some x))
    (k : ∀ (D : Addr) (ys : List RepD) H', H D = none → Ex H H' → RepsAt H' D ys → ys.map RepD.r = xs.map RepD.r → Q (.ref D) H') : tLc (iList K tl) (gName j) tYes (tOp (rCatT K) (tSl (rSlT K) (tVar j) tNoPart (tPart (tC (.int 5)))) (tTup (tCons (tCB (fun xs H Q => ∃ p ys, xs = [.ref p] ∧ (SqL K H p ys ∨ SqT K H p ys) ∧ ∀ l, H l = none → Q (.ref l) (upd H l (.lst ys))) (tCons (tOp (rIxT K) (tVar j) (tC (.int 5))) tNil)) (tCons (tCB (fun xs H Q => ∃ p ys, xs = [.ref p] ∧ (SqL K H p ys ∨ SqT K H p ys) ∧ ∀ l, H l = none → Q (.ref l) (upd H l (.lst ys))) (tCons (tOp (rIxT K) (tVar j) (tC (.int 6))) tNil)) tNil)))) vs σ H Q := by
  refine rl_lc (xs := xs.map fun x => V.ref x.t) h (sq_of hx.h0) (fun D i H' => ∃ ys : List RepD, H D = none ∧ Ex H H' ∧ RepsAt H' D ys ∧ ys.map RepD.r = (xs.take i).map RepD.r ∧ ∀ y ∈ ys, D ∉ y.all) ?_ ?_ ?_ ?_
  · intro D H1 e1 hD
    exact ⟨[], fresh_back e1 hD, Ex.mut e1 (fresh_back e1 hD), ⟨upd_same, fun x hx => absurd hx List.not_mem_nil, fun x hx => absurd hx List.not_mem_nil⟩, rfl, fun x hx => absurd hx List.not_mem_nil⟩
  · rintro D i H' ⟨ys, hD, ex, _⟩
    exact ex_l ex (sq_of hx.h0)
  · rintro D i xv H' gx ⟨ys, hD, ex, hY, hyr, hDy⟩
    rw [List.getElem?_map] at gx
    obtain ⟨x, hgx, rfl⟩ := Option.map_eq_some_iff.mp gx
    have hxm := List.mem_of_getElem? hgx
    have hil := (List.getElem?_eq_some_iff.mp hgx).1
    have hR := (hx.ex ex).hr x hxm
    refine ⟨hw _, et_yes _ (Ex.refl _) _ fun H2 e2 => ?_⟩
    rw [if_pos rfl]
    have hR2 := hR.ex e2
    refine te_op (te_sl ((ev_var (hj _)) H2 (Ex.refl _) _ fun H3 e3 => eo_none H3 (Ex.refl _) _ fun H4 e4 => (eo_some (i := 5) ev_c) H4 (Ex.refl _) _ fun H5 e5 => ?_))
    have e35 := (e3.trans e4).trans e5
    have hR5 := hR2.ex e35
    refine ⟨x.t, _, rfl, st_of hR5.ht, by show ¬ ((0 : Nat) = 0 ∧ HT.sIx 7 7 (some ((5 : Nat) : Int)) = 7); rw [HT.sIx_nat]; omega, fun p hp => ?_⟩
    have e6 := Ex.new (o := .tup (cutV [V.int x.r.turn, .str x.r.kind, .int x.r.who, .int x.r.coins, .int x.r.share, .ref x.pf, .ref x.pg] none (some 5))) hp
    generalize hG : upd H5 p (.tup (cutV [V.int x.r.turn, .str x.r.kind, .int x.r.who, .int x.r.coins, .int x.r.share, .ref x.pf, .ref x.pg] none (some 5))) = H6 at e6
    have h6 : H6 p = some (.tup [V.int x.r.turn, .str x.r.kind, .int x.r.who, .int x.r.coins, .int x.r.share]) := by rw [← hG, upd_same]; exact congrArg (fun z => some (HO.tup z)) (cut_to _ 5)
    clear hG
    have hR6 := hR5.ex e6
    refine te_tup (ta_consX (el_go (el_list (ev_op (ev_var (hj _)) ev_c (rv_ixT (st_of hR6.ht) rfl)) (sq_of hR6.hf)) fun pf2 H7 hpf2 e7 h7 => ta_consX (el_go (el_list (ev_op (ev_var (hj _)) ev_c (rv_ixT (st_of (hR6.ex e7).ht) rfl)) (sq_of (hR6.ex e7).hg)) fun pg2 H8 hpg2 e8 h8 => ta_all (vs := []) ea_nil fun H9 e9 => ⟨by show 2 ≤ sizeLine; decide, fun q hq => ?_⟩)))
    have e10 := Ex.new (o := .tup [.ref pf2, .ref pg2]) hq
    generalize hG : upd H9 q (.tup [.ref pf2, .ref pg2]) = H10 at e10
    have h10 : H10 q = some (.tup [.ref pf2, .ref pg2]) := by rw [← hG]; exact upd_same
    clear hG
    refine ⟨p, q, _, _, rfl, rfl, st_of (((e7.trans e8).trans (e9.trans e10)) _ _ h6), st_of h10, by simp, by show 5 + 2 ≤ sizeLine; decide, (fun z => by cases z), fun _ t ht => ?_⟩
    have e11 := Ex.new (o := .tup ([V.int x.r.turn, .str x.r.kind, .int x.r.who, .int x.r.coins, .int x.r.share] ++ [.ref pf2, .ref pg2])) ht
    generalize hG : upd H10 t (.tup ([V.int x.r.turn, .str x.r.kind, .int x.r.who, .int x.r.coins, .int x.r.share] ++ [.ref pf2, .ref pg2])) = H11 at e11
    have h11 : H11 t = some (.tup [V.int x.r.turn, .str x.r.kind, .int x.r.who, .int x.r.coins, .int x.r.share, .ref pf2, .ref pg2]) := by rw [← hG]; exact upd_same
    clear hG
    have e26 := (e2.trans e35).trans e6
    have e811 := (e9.trans e10).trans e11
    have e711 := e8.trans e811
    have e611 := e7.trans e711
    have eAll := e26.trans e611
    have hD0 := hY.h0
    have hD6 := e26 _ _ hD0
    have n1 : D ≠ t := fun z => by rw [← z, ((e7.trans e8).trans (e9.trans e10)) _ _ hD6] at ht; cases ht
    have n2 : D ≠ pf2 := fun z => by rw [← z, hD6] at hpf2; cases hpf2
    have n3 : D ≠ pg2 := fun z => by rw [← z, e7 _ _ hD6] at hpg2; cases hpg2
    refine ⟨_, eAll _ _ hD0, sz_lt (by
      have := congrArg List.length hyr
      rw [List.length_map, List.length_map, List.length_take] at this
      rw [List.length_map]
      omega), ys ++ [⟨t, pf2, pg2, x.r⟩], hD, Ex.mut (ex.trans eAll) hD, ⟨by rw [upd_same, List.map_append]; rfl, fun y hy => ?_, fun y hy => ?_⟩, ?_, fun y hy => ?_⟩
    · rcases List.mem_append.mp hy with hy | hy
      · have hn := hDy y hy
        unfold RepD.all at hn
        simp only [List.mem_cons, List.not_mem_nil, or_false, not_or] at hn
        exact ((hY.hr y hy).ex eAll).up (fun z => hn.1 z.symm) (fun z => hn.2.1 z.symm) (fun z => hn.2.2 z.symm)
      · rw [List.mem_singleton.mp hy]
        exact (⟨h11, e711 _ _ h7, e811 _ _ h8, hR.ks⟩ : RepAt H11 t pf2 pg2 x.r).up n1.symm n2.symm n3.symm
    · rcases List.mem_append.mp hy with hy | hy
      · exact hY.hl y hy
      · rw [List.mem_singleton.mp hy]
        exact hx.hl x hxm
    · rw [List.map_append, hyr, List.take_add_one, hgx, List.map_append]
      rfl
    · rcases List.mem_append.mp hy with hy | hy
      · exact hDy y hy
      · rw [List.mem_singleton.mp hy]
        unfold RepD.all
        simp [n1, n2, n3]
  · rintro D H' ⟨ys, hD, ex, hY, hyr, _⟩
    rw [List.length_map, List.take_length] at hyr
    exact k D ys H' hD ex hY hyr
theorem lc_first {tl : TE} {g : TG} {tt : TT} {te : TE} {vs : List Nat} {Q : VK} {ys : List V} (h : EvL tl σ H ys) (k : ∀ p H1, H p = none → Ex H H1 → H1 p = some (.lst ys) → tLc (iList K (tC (.ref p))) g tt te vs σ H1 Q) : tLc (iList K tl) g tt te vs σ H Q := h H (Ex.refl H) _ fun p H1 hp e1 h1 => k p H1 hp e1 h1
end

end Su
namespace Su
theorem s_viaU {te : TE} {g : TG} {D : Ends} {σ : L2.St} {H : Hp} {xs : List V} (h : EvU te σ H xs) (k : ∀ t H1, H t = none → Ex H H1 → H1 t = some (.tup xs) → tAsg (tC (.ref t)) g D σ H1) : tAsg te g D σ H := h H (Ex.refl H) _ fun t H1 ht e1 h1 => k t H1 ht e1 h1
def tRefs (p : Addr) : TA := fun _ H Q => Q [.ref p] H
theorem ea_refs {p : Addr} {σ : L2.St} {H : Hp} : EvA (tRefs p) σ H [.ref p] := fun H1 _ _ q => q H1 (Ex.refl H1)
theorem s_forEc {K : PySem.W.Frag} {g : TG} {tb : TS} {D : Ends} {σ : L2.St} {H : Hp} {ta : TA} {sp : Sp} {vs : List V} {E : XK} {P : List V → Prop} (h : EvA ta σ H vs) (hs : SpN sp (vs ++ []) H P)
    (k : ∀ xs p H1, P xs → H p = none → Ex H H1 → H1 p = some (.lst xs) → tFor (iEnum K (tRefs p)) g tb D σ H1) : tFor (iEnum K (tCons (tCall sp [] E ta) tNil)) g tb D σ H :=
  h H (Ex.refl H) _ fun H1 e1 => hs H1 e1 _ (fun xs p H2 hP hp e2 h2 => k xs p H2 hP (fresh_back e1 hp) (e1.trans e2) h2) E
theorem in_rg {z : Int} {n : Nat} (h : z ∈ rgI n) : ∃ j : Nat, z = (j : Int) ∧ j < n := by
  obtain ⟨j, hj, rfl⟩ := List.mem_map.mp h
  exact ⟨j, rfl, List.mem_range.mp hj⟩

end Su
namespace Su
theorem perm_nat {ns : List Int} {n : Nat} (hp : ns.Perm (rgI n)) : ∃ r : List Nat, ns = natI r ∧ r.Perm (List.range n) := by
  have hn : ns = natI (ns.map Int.toNat) := by
    unfold natI
    rw [List.map_map]
    conv => lhs; rw [← List.map_id ns]
    apply List.map_congr_left
    intro z hz
    obtain ⟨j, rfl, _⟩ := in_rg (hp.mem_iff.mp hz)
    show ((j : Nat) : Int) = ((((j : Nat) : Int).toNat : Nat) : Int)
    rw [Int.toNat_natCast]
  refine ⟨ns.map Int.toNat, hn, ?_⟩
  rw [hn] at hp
  exact nat_perm.mp hp

end Su
namespace Su
/-! ### the drawn opening, without a circle -/
structure Drawn (n : Nat) (st : Int) (pl ws : List Int) (r : List Nat) (i : Nat) (B : Int := 100000000) : Prop where
  l1 : pl.length = n
  l2 : ws.length = n
  hp : ∀ p ∈ pl, 0 ≤ p ∧ p ≤ B
  hw : ∀ x ∈ ws, 1 ≤ x ∧ x ≤ (n : Int)
  at1 : ∀ (j k : Nat), j < i → r[j]? = some k → st * ((n : Int) - 1 - (j : Int)) ≤ pl.getD k 0
  at2 : ∀ (j k : Nat), j < i → r[j]? = some k → (j : Int) + 1 ≤ ws.getD k 0
theorem getD_set {l : List Int} {i j : Nat} {v : Int} (h : i < l.length) : (l.set i v).getD j 0 = if i = j then v else l.getD j 0 := by
  rw [List.getD_eq_getElem?_getD, List.getElem?_set]
  by_cases e : i = j
  · rw [if_pos e, if_pos e, if_pos h]
    rfl
  · rw [if_neg e, if_neg e, List.getD_eq_getElem?_getD]
theorem Drawn.step {n : Nat} {st : Int} {pl ws : List Int} {r : List Nat} {i k : Nat} {p x : Int} (h : Drawn n st pl ws r i) (hr : r.Nodup) (hk : r[i]? = some k) (hkn : k < n) (p1 : st * ((n : Int) - 1 - (i : Int)) ≤ p) (p0 : 0 ≤ p) (p2 : p ≤ 100000000) (x1 : (i : Int) + 1 ≤ x) (x2 : x ≤ (n : Int)) : Drawn n st (pl.set k p) (ws.set k x) r (i + 1) where
  l1 := by rw [List.length_set]; exact h.l1
  l2 := by rw [List.length_set]; exact h.l2
  hp := fun q hq => by
    rcases List.mem_or_eq_of_mem_set hq with hq | rfl
    · exact h.hp q hq
    · exact ⟨p0, p2⟩
  hw := fun q hq => by
    rcases List.mem_or_eq_of_mem_set hq with hq | rfl
    · exact h.hw q hq
    · exact ⟨by omega, x2⟩
  at1 := fun j m hj hm => by
    rw [getD_set (by rw [h.l1]; exact hkn)]
    by_cases e : k = m
    · rw [if_pos e]
      subst e
      obtain rfl : j = i := (List.getElem?_inj (List.getElem?_eq_some_iff.mp hm).1 hr).mp (hm.trans hk.symm)
      exact p1
    · rw [if_neg e]
      refine h.at1 j m ?_ hm
      have : j ≠ i := fun z => e (by rw [z, hk] at hm; exact Option.some.inj hm)
      omega
  at2 := fun j m hj hm => by
    rw [getD_set (by rw [h.l2]; exact hkn)]
    by_cases e : k = m
    · rw [if_pos e]
      subst e
      obtain rfl : j = i := (List.getElem?_inj (List.getElem?_eq_some_iff.mp hm).1 hr).mp (hm.trans hk.symm)
      exact x1
    · rw [if_neg e]
      refine h.at2 j m ?_ hm
      have : j ≠ i := fun z => e (by rw [z, hk] at hm; exact Option.some.inj hm)
      omega
theorem Drawn.start {n : Nat} {st : Int} {r : List Nat} (h : 1 ≤ n) : Drawn n st (List.replicate n 0) (List.replicate n (n : Int)) r 0 where
  l1 := List.length_replicate
  l2 := List.length_replicate
  hp := fun p hp => by rw [List.eq_of_mem_replicate hp]; omega
  hw := fun x hx => by rw [List.eq_of_mem_replicate hx]; omega
  at1 := fun j k hj _ => absurd hj (Nat.not_lt_zero j)
  at2 := fun j k hj _ => absurd hj (Nat.not_lt_zero j)
section
variable {P : Program} {w : World} {K : PySem.W.Frag} {mg : Str → Option Value} {base : Heap}
def spOpening (K : PySem.W.Frag) : Sp := fun vs H Q _ => ∃ (a : Addr) (rows : List Int) (n : Nat) (st : Int), vs = [.ref a, .int (n : Int), .int st] ∧ SqL K H a (rows.map V.int) ∧ 3 * n ≤ rows.length ∧ 1 ≤ n ∧ n ≤ 20 ∧ 1 ≤ st ∧ st ≤ 1000000 ∧
  ∀ pl ws r H' t p1 p2, H p1 = none → H p2 = none → p1 ≠ p2 → Ex H H' → H' t = some (.tup [.ref p1, .ref p2]) → H' p1 = some (.lst (pl.map V.int)) → H' p2 = some (.lst (ws.map V.int)) → Drawn n st pl ws r n → r.Perm (List.range n) → Q (.ref t) H'
theorem map_repl {n : Nat} {v : Int} : (List.replicate n v).map V.int = List.replicate n (V.int v) := List.map_replicate
set_option maxHeartbeats 4000000 in
theorem ok__law_opening (T : Top K mg) : FnOk P w K mg base CX0 2 T.f__law_opening T.fd__law_opening ["_law_some", "_law_size", "_law_stake"] (spOpening K) := by
  have nd := sc__law_opening.nd
  have G__law_perm : FnOk P w K mg base CX0 1 T.f__law_perm T.fd__law_perm ["_law_some", "_law_size"] (spPerm K) := ok__law_perm T.F__law_perm T
  refine T.F__law_opening.ok sc__law_opening (fun vs H Q E h => ?_) (fun cdv A outer s H vs Q E hr h => ?_)
  · obtain ⟨a, rows, n, st, rfl, _⟩ := h
    rfl
  · obtain ⟨a, rows, n, st, rfl, hS, hl, n1, hn, s1, s2, q⟩ := h
    refine ⟨_, (pss_cons (ps_set (i := 3) nd rfl (.inl rfl) (pe_op op_rep (pe_lst (pa_cons pe_int pa_nil)) (pv 1)))
      (pss_cons (ps_set (i := 4) nd rfl (.inl rfl) (pe_op op_rep (pe_lst (pa_cons (pv 1) pa_nil)) (pv 1)))
      (pss_cons (ps_for PassesOwn.never rfl (pi_enum (by rfl) T.m_enumerate (pa_cons (pe_call G__law_perm (hr.mono (by omega)) (by rfl) T.m__law_perm T.F__law_perm.kp T.b__law_perm .nil pass0 (pa_cons (pv 0) (pa_cons (pv 1) pa_nil))) pa_nil)) (pg_tup rfl (pgs_cons (pg_name (i := 5) nd rfl (.inl rfl)) (pgs_cons (pg_name (i := 6) nd rfl (.inl rfl)) pgs_nil)))
        (pss_cons (ps_set (i := 7) nd rfl (.inl rfl) (pe_op op_mul (pe_op op_mod (pe_op op_fdiv (pe_ix ix_list (pv 0) (pe_op op_add (pv 1) (pv 5)) (fun _ _ => rfl)) pe_int) (pe_op op_add (pe_op op_mul pe_int (pv 2)) pe_int)) (pe_op op_mod (pe_ix ix_list (pv 0) (pe_op op_add (pv 1) (pv 5)) (fun _ _ => rfl)) pe_int)))
          (pss_cons (ps_asg (pe_callB (call_max2 rfl) (by rfl) T.m_max (by decide +kernel) (pa_cons pe_int (pa_cons (pe_op op_add (pe_op op_mul (pv 2) (pe_op op_sub (pe_op op_sub (pv 1) pe_int) (pv 5))) (pe_op op_mul (pv 7) (pe_op op_mod (pe_op op_fdiv (pe_ix ix_list (pv 0) (pe_op op_add (pv 1) (pv 5)) (fun _ _ => rfl)) pe_int) pe_int))) pa_nil))) (pg_sub (pv 3) (pv 6) set_list))
          (pss_one (ps_asg (pe_op op_add (pe_op op_add (pv 5) pe_int) (pe_op op_mod (pe_ix ix_list (pv 0) (pe_op op_add (pe_op op_mul pe_int (pv 1)) (pv 5)) (fun _ _ => rfl)) (pe_op op_sub (pv 1) (pv 5)))) (pg_sub (pv 4) (pv 6) set_list))))))
      (pss_one (ps_ret (pe_tup (pa_cons (pv 3) (pa_cons (pv 4) pa_nil)))))))), ?_⟩
    refine q_asgL (el_rep1 (k := (n : Int)) (el_lst (ea_cons ev_c ea_nil) (by show 1 ≤ 100000; decide)) (ev_var rfl) (by omega) (by omega)) fun p1 H1 hp1 e1 h1 => ?_
    refine q_asgL (el_rep1 (k := (n : Int)) (el_lst (ea_cons (ev_var rfl) ea_nil) (by show 1 ≤ 100000; decide)) (ev_var rfl) (by omega) (by omega)) fun p2 H2 hp2 e2 h2 => ?_
    rw [Int.toNat_natCast, ← map_repl] at h1 h2
    have n12 : p1 ≠ p2 := fun z => by rw [← z, h1] at hp2; cases hp2
    have hs := ex_l (e1.trans e2) hS
    refine s_forEc (by walk_at "ea") (spN_perm (n := n) hs (by omega) (by omega)) ?_
    rintro _ pp H3 ⟨ns, hpm, rfl⟩ hpp e3 h3
    obtain ⟨r, rfl, hrp⟩ := perm_nat hpm
    have hrn : r.Nodup := hrp.nodup_iff.mpr List.nodup_range
    have hrl : r.length = n := by rw [hrp.length_eq, List.length_range]
    have e13 := (e1.trans e2).trans e3
    refine s_forE (xs := (natI r).map V.int) ea_refs (sq_of h3) (fun i σ' H' => ∃ (pl ws : List Int) (y5 y6 y7 : Option V), σ' = [some (.ref a), some (.int (n : Int)), some (.int st), some (.ref p1), some (.ref p2), y5, y6, y7] ∧ Ex H H' ∧ H' pp = some (.lst ((natI r).map V.int)) ∧ H' p1 = some (.lst (pl.map V.int)) ∧ H' p2 = some (.lst (ws.map V.int)) ∧ Drawn n st pl ws r i) ?_ ?_ ?_ ?_
    · intro H4 e4
      exact ⟨_, _, none, none, none, rfl, e13.trans e4, e4 _ _ h3, e4 _ _ (e3 _ _ (e2 _ _ h1)), e4 _ _ (e3 _ _ h2), Drawn.start n1⟩
    · rintro i σ' H' _ ⟨pl, ws, y5, y6, y7, rfl, ex, h4, _⟩
      exact sq_of h4
    · rintro i x Tt σ' Hc gx ⟨pl, ws, y5, y6, y7, rfl, ex, h4, h5, h6, hD⟩ nT
      obtain ⟨k, rfl, gk, _⟩ := nat_at gx
      have hk : k < n := List.mem_range.mp (hrp.mem_iff.mp (List.mem_of_getElem? gk))
      have hi : i < n := by rw [← hrl]; exact (List.getElem?_eq_some_iff.mp gk).1
      refine ⟨_, tg_two (st_of upd_same) tg_name tg_name, ?_⟩
      have eT : Ex Hc (upd Hc Tt (.tup [.int (i : Nat), .int ((k : Nat) : Int)])) := Ex.new nT
      have ex := ex.trans eT
      have h4 := eT _ _ h4
      have h5 := eT _ _ h5
      have h6 := eT _ _ h6
      generalize upd Hc Tt (.tup [.int (i : Nat), .int ((k : Nat) : Int)]) = H7 at ex h4 h5 h6 ⊢
      have hs := ex_l ex hS
      have r1 : atI (rows.map V.int) ((n : Int) + (i : Int)) = some (.int (rows.getD ((n : Int) + (i : Int)).toNat 0)) := Su.at_rows (by omega) (by omega)
      have r2 : atI (rows.map V.int) (2 * (n : Int) + (i : Int)) = some (.int (rows.getD (2 * (n : Int) + (i : Int)).toNat 0)) := Su.at_rows (by omega) (by omega)
      generalize rows.getD ((n : Int) + (i : Int)).toNat 0 = x1 at r1
      generalize rows.getD (2 * (n : Int) + (i : Int)).toNat 0 = x2 at r2
      have i1 : ∀ {H2 : Hp} {σ : L2.St}, Ex H7 H2 → σ[0]? = some (some (.ref a)) → σ[1]? = some (some (.int (n : Int))) → σ[5]? = some (some (.int (i : Int))) → Ev (tOp (rIxL K) (tVar 0) (tOp (rI0 fun i j => .int (i + j)) (tVar 1) (tVar 5))) σ H2 (.int x1) := fun e g0 g1 g5 => ev_op (ev_var g0) (ev_op (ev_var g1) (ev_var g5) rv_I0) (rv_ixL (ex_l e hs) r1)
      have i2 : ∀ {H2 : Hp} {σ : L2.St}, Ex H7 H2 → σ[0]? = some (some (.ref a)) → σ[1]? = some (some (.int (n : Int))) → σ[5]? = some (some (.int (i : Int))) → Ev (tOp (rIxL K) (tVar 0) (tOp (rI0 fun i j => .int (i + j)) (tOp (rI CMul fun i j => .int (i * j)) (tC (.int 2)) (tVar 1)) (tVar 5))) σ H2 (.int x2) := fun e g0 g1 g5 => ev_op (ev_var g0) (ev_op (ev_op ev_c (ev_var g1) (Su.rv_mul (Su.CMul.l (by decide) (by decide)))) (ev_var g5) rv_I0) (rv_ixL (ex_l e hs) r2)
      have m0 := Int.emod_nonneg (x1 / 3) (show 2 * st + 1 ≠ 0 by omega)
      have m1 := Int.emod_lt_of_pos (x1 / 3) (show 0 < 2 * st + 1 by omega)
      refine q_asg (v := .int (x1 / 3 % (2 * st + 1) * (x1 % 3))) (ev_op (ev_op (ev_op (i1 (Ex.refl _) rfl rfl rfl) ev_c (Su.rv_div (by decide) (by decide))) (ev_op (ev_op ev_c (ev_var rfl) (Su.rv_mul (Su.CMul.l (by decide) (by decide)))) ev_c rv_I0) (Su.rv_mod (by omega))) (ev_op (i1 (Ex.refl _) rfl rfl rfl) ev_c (Su.rv_mod (by decide))) (Su.rv_mul (Su.CMul.r (by omega) (by omega)))) fun H8 e8 => ?_
      have hrest : 0 ≤ x1 / 3 % (2 * st + 1) * (x1 % 3) ∧ x1 / 3 % (2 * st + 1) * (x1 % 3) ≤ 4000000 := by
        have : x1 % 3 = 0 ∨ x1 % 3 = 1 ∨ x1 % 3 = 2 := by omega
        rcases this with z | z | z <;> rw [z] <;> omega
      generalize x1 / 3 % (2 * st + 1) * (x1 % 3) = rest at hrest ⊢
      have hb : x1 / 2 % 2 = 0 ∨ x1 / 2 % 2 = 1 := by omega
      have hp0 : 0 ≤ st * ((n : Int) - 1 - (i : Int)) := Int.mul_nonneg (by omega) (by omega)
      have hpq : st * ((n : Int) - 1 - (i : Int)) ≤ 1000000 * 20 := Int.mul_le_mul s2 (by omega) (by omega) (by omega)
      have hrb : 0 ≤ rest * (x1 / 2 % 2) ∧ rest * (x1 / 2 % 2) ≤ 4000000 := by
        rcases hb with z | z <;> rw [z] <;> omega
      refine q_setL (e8 _ _ h5) (v := .int (if st * ((n : Int) - 1 - (i : Int)) + rest * (x1 / 2 % 2) > 0 then st * ((n : Int) - 1 - (i : Int)) + rest * (x1 / 2 % 2) else 0)) (ev_cb (ea_cons ev_c (ea_cons (ev_op (ev_op (ev_var rfl) (ev_op (ev_op (ev_var rfl) ev_c rv_I0) (ev_var rfl) rv_I0) (Su.rv_mul (Su.CMul.l (by omega) (by omega)))) (ev_op (ev_var rfl) (ev_op (ev_op (i1 e8 rfl rfl rfl) ev_c (Su.rv_div (by decide) (by decide))) ev_c (Su.rv_mod (by decide))) (Su.rv_mul (Su.CMul.l (by omega) (by omega)))) rv_I0) ea_nil)) rc_max) (ev_var rfl) (ev_var rfl) (by rw [List.length_map, hD.l1]; exact hk) fun H9 e9 => ?_
      have e89 := e8.trans e9
      have h69 : (upd H9 p1 (.lst ((pl.map V.int).set k (.int (if st * ((n : Int) - 1 - (i : Int)) + rest * (x1 / 2 % 2) > 0 then st * ((n : Int) - 1 - (i : Int)) + rest * (x1 / 2 % 2) else 0))))) p2 = some (.lst (ws.map V.int)) := by rw [upd_ne n12.symm]; exact e89 _ _ h6
      have h59 : (upd H9 p1 (.lst ((pl.map V.int).set k (.int (if st * ((n : Int) - 1 - (i : Int)) + rest * (x1 / 2 % 2) > 0 then st * ((n : Int) - 1 - (i : Int)) + rest * (x1 / 2 % 2) else 0))))) p1 = some (.lst ((pl.set k (if st * ((n : Int) - 1 - (i : Int)) + rest * (x1 / 2 % 2) > 0 then st * ((n : Int) - 1 - (i : Int)) + rest * (x1 / 2 % 2) else 0)).map V.int)) := by rw [upd_same, List.map_set]
      have h49 : (upd H9 p1 (.lst ((pl.map V.int).set k (.int (if st * ((n : Int) - 1 - (i : Int)) + rest * (x1 / 2 % 2) > 0 then st * ((n : Int) - 1 - (i : Int)) + rest * (x1 / 2 % 2) else 0))))) pp = some (.lst ((natI r).map V.int)) := by rw [upd_ne (fun z => by rw [z, (e2.trans (Ex.refl _)) _ _ h1] at hpp; cases hpp)]; exact e89 _ _ h4
      have ex9 : Ex H (upd H9 p1 (.lst ((pl.map V.int).set k (.int (if st * ((n : Int) - 1 - (i : Int)) + rest * (x1 / 2 % 2) > 0 then st * ((n : Int) - 1 - (i : Int)) + rest * (x1 / 2 % 2) else 0))))) := ex_up (ex.trans e89) hp1
      generalize upd H9 p1 (.lst ((pl.map V.int).set k (.int (if st * ((n : Int) - 1 - (i : Int)) + rest * (x1 / 2 % 2) > 0 then st * ((n : Int) - 1 - (i : Int)) + rest * (x1 / 2 % 2) else 0)))) = H10 at h69 h59 h49 ex9 ⊢
      have hpv : st * ((n : Int) - 1 - (i : Int)) ≤ (if st * ((n : Int) - 1 - (i : Int)) + rest * (x1 / 2 % 2) > 0 then st * ((n : Int) - 1 - (i : Int)) + rest * (x1 / 2 % 2) else 0) ∧ 0 ≤ (if st * ((n : Int) - 1 - (i : Int)) + rest * (x1 / 2 % 2) > 0 then st * ((n : Int) - 1 - (i : Int)) + rest * (x1 / 2 % 2) else 0) ∧ (if st * ((n : Int) - 1 - (i : Int)) + rest * (x1 / 2 % 2) > 0 then st * ((n : Int) - 1 - (i : Int)) + rest * (x1 / 2 % 2) else 0) ≤ 100000000 := by
        split <;> omega
      generalize (if st * ((n : Int) - 1 - (i : Int)) + rest * (x1 / 2 % 2) > 0 then st * ((n : Int) - 1 - (i : Int)) + rest * (x1 / 2 % 2) else 0) = pv at hpv h59
      have hs10 := ex_l ex9 hS
      have w0 := Int.emod_nonneg x2 (show (n : Int) - (i : Int) ≠ 0 by omega)
      have w1 := Int.emod_lt_of_pos x2 (show 0 < (n : Int) - (i : Int) by omega)
      refine s_setL h69 (v := .int ((i : Int) + 1 + x2 % ((n : Int) - (i : Int)))) (ev_op (ev_op (ev_var rfl) ev_c rv_I0) (ev_op (ev_op (ev_var rfl) (ev_op (ev_op ev_c (ev_var rfl) (Su.rv_mul (Su.CMul.l (by decide) (by decide)))) (ev_var rfl) rv_I0) (rv_ixL hs10 r2)) (ev_op (ev_var rfl) (ev_var rfl) rv_I0) (Su.rv_mod (by omega))) rv_I0) (ev_var rfl) (ev_var rfl) (by rw [List.length_map, hD.l2]; exact hk) fun H11 e11 => ?_
      refine ⟨pl.set k pv, ws.set k ((i : Int) + 1 + x2 % ((n : Int) - (i : Int))), _, _, _, rfl, ex_up (ex9.trans e11) (fresh_back e1 hp2), ?_, ?_, ?_, hD.step hrn gk hk hpv.1 hpv.2.1 hpv.2.2 (by omega) (by omega)⟩
      · rw [upd_ne (fun z => by rw [z, h2] at hpp; cases hpp)]
        exact e11 _ _ h49
      · rw [upd_ne n12]
        exact e11 _ _ h59
      · rw [upd_same, List.map_set]
    · rintro σ' H4 ⟨pl, ws, y5, y6, y7, rfl, ex, h4, h5, h6, hD⟩
      rw [List.length_map, natI_len, hrl] at hD
      dsimp only
      refine s_retU (eu_tup (by walk_at "ea") (by show 2 ≤ 100000; decide)) fun t H5 ht e5 h7 => ?_
      exact q pl ws r H5 t p1 p2 hp1 (fresh_back e1 hp2) n12 (ex.trans e5) h7 (e5 _ _ h5) (e5 _ _ h6) hD hrp
end

end Su
namespace Su
/-! ### a list turned about, tuples of eight, a choice of two -/
section
variable {X : Cx} {e st : Expr} {te ts : TE} {pos p2 : Pos}
theorem vals_rev {xs : List V} {us : List Value} (r : Vals xs us) : Vals xs.reverse us.reverse := by
  induction r with
  | nil => exact .nil
  | cons h _ ih =>
    rw [List.reverse_cons, List.reverse_cons]
    exact ih.append (.cons h .nil)
def tBack (K : PySem.W.Frag) (te ts : TE) : TE := fun σ H Q => te σ H fun x H1 => ts σ H1 fun y H2 => y = .int (-1) ∧ ∃ a xs, x = .ref a ∧ SqL K H2 a xs ∧ ∀ p, H2 p = none → Q (.ref p) (upd H2 p (.lst xs.reverse))
/-- xs[::-1] -/
theorem pe_back (he : PE X e te) (hs : PE X st ts) : PE X (.Subscript e (.Slice none none (some st) p2) pos) (tBack X.K te ts) := by
  refine ⟨fun pins s σ H Q I h => ?_⟩
  refine Subscript_ (thn (he.run pins s σ H _ I h) fun v s1 ⟨x, H1, I1, r1, q1⟩ => ?_)
  refine wpAny_Slice ?_
  rw [evalPart_none]
  refine wpAny_pure ?_
  refine wpAny_pure ?_
  rw [evalPart_some]
  refine thn (hs.run pins s1 σ H1 _ I1 q1) fun u s2 ⟨y, H2, I2, r2, q2⟩ => ?_
  obtain ⟨rfl, a, xs, rfl, hx, q⟩ := q2
  obtain ⟨t, rfl⟩ := r2
  have I4 : Inv X pins σ H2 { s2 with heap := s2.heap.push { cls := .type "slice", data := .fields #[.none, .none, .int (-1) t] } } := I2.kept (t' := s2.toks) fun b ob q => Heap.get?_push_of_some _ q
  cases r1
  obtain ⟨its, r, ht, hz⟩ := I4.list hx
  have hlen := r.length
  refine tail_any (ops := [.ref a, .ref s2.heap.objs.size]) ht.isList.typeIs slot_list_getitem.lookup ?_ (by with_unfolding_all rfl)
  refine wpAny_getItem_list_slice ht.isList (Heap.IsSliceOf.new ..) .none .none (.int (-1) t) (by simp) ?_ (by rw [List.size_toArray]; omega)
  rw [PySem.W.krv_pick]
  refine ⟨.ref _, _, I4.laid (t' := s2.toks) (o := .lst xs.reverse) (fun b ob q => Heap.get?_push_of_some _ q) (Nat.le_refl _) ?_, rfl, q _ (I4.hok.fresh (Nat.le_refl _))⟩
  exact ⟨by rw [List.length_reverse]; exact hz, _, 0, vals_rev r, Heap.get?_push_size _ rfl⟩
end
section
variable {K : PySem.W.Frag} {σ : L2.St} {H : Hp}
theorem el_back {ta tb : TE} {a : Addr} {xs : List V} (h : Ev ta σ H (.ref a)) (hx : SqL K H a xs) (hb : Ev tb σ H (.int (-1))) : EvL (tBack K ta tb) σ H xs.reverse := fun H0 e Q q => h H0 e _ fun H1 e1 => hb H1 (e.trans e1) _ fun H2 e2 => ⟨rfl, a, xs, rfl, ex_l ((e.trans e1).trans e2) hx, fun p hp => q p _ (fresh_back (e1.trans e2) hp) ((e1.trans e2).trans (Ex.new hp)) upd_same⟩
theorem tg_8 {T : Addr} {x1 x2 x3 x4 x5 x6 x7 x8 : V} {i1 i2 i3 i4 i5 i6 i7 i8 : Nat} (h : SqT K H T [x1, x2, x3, x4, x5, x6, x7, x8]) : Tgt (gTup K 8 (gCons (gName i1) (gCons (gName i2) (gCons (gName i3) (gCons (gName i4) (gCons (gName i5) (gCons (gName i6) (gCons (gName i7) (gCons (gName i8) gNil))))))))) (.ref T) σ ((((((((σ.set i1 (some x1)).set i2 (some x2)).set i3 (some x3)).set i4 (some x4)).set i5 (some x5)).set i6 (some x6)).set i7 (some x7)).set i8 (some x8)) H := fun H2 e Q q =>
  ⟨T, _, rfl, ex_t e h, rfl, x1, _, rfl, x2, _, rfl, x3, _, rfl, x4, _, rfl, x5, _, rfl, x6, _, rfl, x7, _, rfl, x8, [], rfl, rfl, q⟩
/-- {a: x, b: y}[k] -/
theorem ev_dsel2 {a1 a2 k : Str} {t1 t2 tk : TE} {v v1 v2 : V} (h1 : Ev t1 σ H v1) (h2 : Ev t2 σ H v2) (hk : Ev tk σ H (.str k)) (n12 : ¬ a1 = a2) (hv : (if k = a1 then some v1 else if k = a2 then some v2 else none) = some v) :
    Ev (tDGet (tDisp [(tC (.str a1), t1), (tC (.str a2), t2)]) tk) σ H v := fun H0 e Q q => fun p hp => by
  refine h1 _ (e.trans (Ex.new hp)) _ fun H1 e1 => h2 H1 ((e.trans (Ex.new hp)).trans e1) _ fun H3 e2 => ?_
  have e03 : Ex (upd H0 p (.dK [])) H3 := e1.trans e2
  refine ⟨e03 _ _ upd_same, [(.inr a1, v1), (.inr a2, v2)], rfl, by show 2 ≤ 15; decide, ?_⟩
  have em : mergeK [] [(Sum.inr a1, v1), (Sum.inr a2, v2)] = [((Sum.inr a1 : Key), v1), (.inr a2, v2)] := by
    have i12 : ¬ (Sum.inr a1 : Key) = .inr a2 := fun z => n12 (Sum.inr.inj z)
    unfold mergeK
    simp [putK, i12]
  have ex : Ex H0 (upd H3 p (.dK (mergeK [] [(Sum.inr a1, v1), (Sum.inr a2, v2)]))) := Ex.mut ((Ex.new hp).trans e03) hp
  refine hk _ (e.trans ex) _ fun H4 e4 => ⟨p, v, rfl, ?_, q H4 (ex.trans e4)⟩
  refine .inl ⟨_, .inr k, .inl (e4 _ _ upd_same), rfl, ?_⟩
  rw [em]
  unfold valV
  by_cases c1 : k = a1
  · rw [if_pos c1] at hv
    subst c1
    simp [← hv]
  · rw [if_neg c1] at hv
    have d1 : ¬ (Sum.inr a1 : Key) = .inr k := fun z => c1 (Sum.inr.inj z).symm
    by_cases c2 : k = a2
    · rw [if_pos c2] at hv
      subst c2
      simp [d1, ← hv]
    · rw [if_neg c2] at hv
      cases hv
end

end Su
namespace Su
/-! ### the law's own books: whether a report follows, and what stays behind it -/
theorem grow_cons {x y : Int} {r : List Int} : growB (x :: y :: r) = (decide (x < y) && growB (y :: r)) := by
  unfold growB
  show (List.range (r.length + 1)).all _ = _
  rw [List.range_succ_eq_map, List.all_cons, List.all_map]
  rfl
theorem grow_pw : ∀ {l : List Int}, growB l = true → l.Pairwise (· < ·)
  | [], _ => .nil
  | [x], _ => List.pairwise_singleton _ _
  | x :: y :: r, h => by
    rw [grow_cons, Bool.and_eq_true, decide_eq_true_eq] at h
    have hp := grow_pw h.2
    refine .cons (fun z hz => ?_) hp
    rcases List.mem_cons.mp hz with rfl | hz
    · exact h.1
    · have := (List.pairwise_cons.mp hp).1 z hz
      omega
theorem grow_nd {l : List Int} (h : growB l = true) : l.Nodup := (grow_pw h).imp fun h => by omega
def gfrom (m : List Int) : Int → List Int → Bool
  | _, [] => true
  | h, x :: r => if x ≤ h ∨ x ∉ m then false else gfrom m x r
theorem gfrom_eq {m : List Int} : ∀ {l : List Int} {h : Int}, gfrom m h l = ((match l with | [] => true | x :: _ => decide (h < x)) && (growB l && l.all fun x => decide (x ∈ m)))
  | [], h => rfl
  | [x], h => by
    show (if x ≤ h ∨ x ∉ m then false else true) = (decide (h < x) && (true && (decide (x ∈ m) && true)))
    by_cases c1 : x ≤ h
    · rw [if_pos (.inl c1), decide_eq_false (by omega)]
      rfl
    · by_cases c2 : x ∈ m
      · rw [if_neg (by rintro (z | z); exact c1 z; exact z c2), decide_eq_true (by omega), decide_eq_true c2]
        rfl
      · rw [if_pos (.inr c2), decide_eq_false c2]
        simp
  | x :: y :: r, h => by
    show (if x ≤ h ∨ x ∉ m then false else gfrom m x (y :: r)) = (decide (h < x) && (growB (x :: y :: r) && (decide (x ∈ m) && (y :: r).all fun x => decide (x ∈ m))))
    rw [gfrom_eq, grow_cons]
    by_cases c1 : x ≤ h
    · rw [if_pos (.inl c1), decide_eq_false (show ¬ h < x by omega)]
      rfl
    · by_cases c2 : x ∈ m
      · rw [if_neg (by rintro (z | z); exact c1 z; exact z c2), decide_eq_true (show h < x by omega), decide_eq_true c2]
        simp [Bool.and_assoc]
      · rw [if_pos (.inr c2), decide_eq_false c2]
        simp
theorem gfrom_start {m : List Int} (hm : ∀ x ∈ m, 0 ≤ x) {l : List Int} : gfrom m (-1) l = (growB l && l.all fun x => decide (x ∈ m)) := by
  rw [gfrom_eq]
  cases l with
  | nil => rfl
  | cons x r =>
    show (decide (-1 < x) && _) = _
    by_cases c : x ∈ m
    · have := hm x c
      rw [decide_eq_true (show -1 < x by omega)]
      rfl
    · rw [List.all_cons, decide_eq_false c]
      simp
theorem filt_two {p : Int → Bool} : ∀ l : List Int, (l.filter p).length + (l.filter fun x => !p x).length = l.length
  | [] => rfl
  | a :: l => by
    have := filt_two (p := p) l
    rw [List.filter_cons, List.filter_cons]
    cases p a <;> simp <;> omega
theorem filt_diff {l F : List Int} (hl : l.Nodup) (hF : F.Nodup) (hs : ∀ x ∈ F, x ∈ l) : (l.filter fun x => decide (x ∉ F)).length + F.length = l.length := by
  have h1 := filt_two (p := fun x => decide (x ∈ F)) l
  have h2 : (l.filter fun x => decide (x ∈ F)).Perm F := (List.perm_ext_iff_of_nodup (hl.filter _) hF).mpr fun x => by
    rw [List.mem_filter, decide_eq_true_eq]
    exact ⟨fun h => h.2, fun h => ⟨hs x h, h⟩⟩
  rw [h2.length_eq] at h1
  have h3 : (fun x : Int => !decide (x ∈ F)) = fun x => decide (x ∉ F) := by
    funext x
    by_cases c : x ∈ F <;> simp [c]
  rw [h3] at h1
  omega
section
variable {K : PySem.W.Frag} {σ : L2.St} {H : Hp}
theorem eu_slT {te : TE} {tl th : TO} {a : Addr} {xs : List V} {lo hi : Option Int} (h : Ev te σ H (.ref a)) (h1 : EvO tl σ H lo) (h2 : EvO th σ H hi) (hs : SqT K H a xs) (hn : ¬ (HT.sIx xs.length 0 lo = 0 ∧ HT.sIx xs.length xs.length hi = xs.length)) : EvU (tSl (rSlT K) te tl th) σ H (cutV xs lo hi) := fun H1 e Q q =>
  h H1 e _ fun H2 e2 => h1 H2 (e.trans e2) _ fun H3 e3 => h2 H3 ((e.trans e2).trans e3) _ fun H4 e4 => ⟨a, xs, rfl, ex_t (((e.trans e2).trans e3).trans e4) hs, hn, fun p hp => q p _ (fresh_back ((e2.trans e3).trans e4) hp) (((e2.trans e3).trans e4).trans (Ex.new hp)) upd_same⟩
end
section
variable {P : Program} {w : World} {K : PySem.W.Frag} {mg : Str → Option Value} {base : Heap}
def spGrowsL (K : PySem.W.Frag) : Sp := fun vs H Q _ => ∃ (a b : Addr) (l m : List Int), vs = [.ref a, .ref b] ∧ H a = some (.lst (l.map V.int)) ∧ H b = some (.lst (m.map V.int)) ∧ (∀ x ∈ m, 0 ≤ x) ∧ l.length ≤ 1000 ∧ ∀ H', Ex H H' → Q (.bl (growB l && l.all fun x => decide (x ∈ m))) H'
theorem ok__law_grows (T : Top K mg) {k : Nat} : FnOk P w K mg base CX0 (k + 1) T.f__law_grows T.fd__law_grows ["_law_row", "_law_allowed"] (spGrowsL K) := by
  have nd := sc__law_grows.nd
  refine T.F__law_grows.ok sc__law_grows (fun vs H Q E h => ?_) (fun cdv A outer s H vs Q E hr h => ?_)
  · obtain ⟨a, b, l, m, rfl, _⟩ := h
    rfl
  · obtain ⟨a, b, l, m, rfl, ha, hb, hm, hl, q⟩ := h
    refine ⟨_, (pss_cons (ps_set (i := 2) nd rfl (.inl rfl) (pe_un un_neg pe_int))
      (pss_cons (ps_for PassesOwn.never rfl (pi_list (pv 0)) (pg_name (i := 3) nd rfl (.inl rfl))
        (pss_cons (ps_if (PW.pt (pw_or (pt_cmpR op_le (pv 3) (pv 2) (nomark _)) (pw_or1 (pt_cmpR op_notIn_seq (pv 3) (pv 1) rfl))))
            (pss_one (ps_ret pe_bl))
            pss_nil)
          (pss_one (ps_set (i := 2) nd rfl (.inl rfl) (pv 3)))))
      (pss_one (ps_ret pe_bl)))), ?_⟩
    rw [← gfrom_start hm] at q
    refine q_asg (v := .int (-1)) (ev_un ev_c ru_neg) fun H1 e1 => ?_
    refine q_forL (xs := l.map V.int) (ev_var rfl) (sq_of (e1 _ _ ha)) (fun i σ' H' => ∃ (h : Int) (y : Option V), σ' = [some (.ref a), some (.ref b), some (.int h), y] ∧ Ex H H' ∧ gfrom m (-1) l = gfrom m h (l.drop i)) ?_ ?_ ?_ ?_
    · intro H2 e2
      exact ⟨-1, _, rfl, e1.trans e2, rfl⟩
    · rintro i σ' H2 hi ⟨h, y, rfl, ex, _⟩
      exact sq_of (ex _ _ ha)
    · rintro i x σ' H2 hx ⟨h, y, rfl, ex, hg⟩
      obtain ⟨z, rfl, gz⟩ := ints_get hx
      refine tg_name H2 (Ex.refl _) _ ?_
      have hil := (List.getElem?_eq_some_iff.mp gz).1
      have hdr : l.drop i = z :: l.drop (i + 1) := by
        rw [List.drop_eq_getElem_cons hil]
        rw [List.getElem?_eq_getElem hil] at gz
        rw [Option.some.inj gz]
      rw [hdr] at hg
      refine q_when (b := decide (z ≤ h) || decide (z ∉ m)) (et_or (et_test (ev_op (ev_var rfl) (ev_var rfl) rv_I0)) fun _ => et_is (et_test (ev_op (ev_var rfl) (ev_var rfl) (rv_niL (sq_of (ex _ _ hb)) rfl flat_ints))) (by rw [inV_int]; by_cases c : z ∈ m <;> simp [c])) (fun hb2 H3 e3 => ?_) (fun hb2 H3 e3 => ?_)
      · refine s_ret ev_c fun H4 e4 => ?_
        have := q H4 ((ex.trans e3).trans e4)
        rw [hg] at this
        unfold gfrom at this
        rw [if_pos (by rw [Bool.or_eq_true, decide_eq_true_eq, decide_eq_true_eq] at hb2; exact hb2)] at this
        exact this
      · refine s_asg (ev_var rfl) fun H4 e4 => ⟨z, _, rfl, (ex.trans e3).trans e4, ?_⟩
        rw [hg]
        show (if z ≤ h ∨ z ∉ m then false else gfrom m z (l.drop (i + 1))) = _
        rw [if_neg (by
          rintro (c | c)
          · rw [decide_eq_true c] at hb2; cases hb2
          · rw [decide_eq_true c, Bool.or_true] at hb2; cases hb2)]
    · rintro σ' H2 ⟨h, y, rfl, ex, hg⟩
      rw [List.length_map, List.drop_length] at hg
      refine s_ret ev_c fun H3 e3 => ?_
      have := q H3 (ex.trans e3)
      rw [hg] at this
      exact this
structure BookAt (H : Hp) (t a b c : Addr) (L : LedM) : Prop where
  ht : H t = some (.tup [.int L.stake, .int (L.pl.length : Int), .bl L.bid, .int (L.opn - 1), .ref a, .int L.due, .ref b, .ref c])
  ha : H a = some (.lst (L.line.map V.int))
  hb : H b = some (.lst (L.pl.map V.int))
  hc : H c = some (.lst (L.drew.map V.int))
theorem BookAt.ex {H H' : Hp} {t a b c : Addr} {L : LedM} (h : BookAt H t a b c L) (e : Ex H H') : BookAt H' t a b c L := ⟨e _ _ h.ht, e _ _ h.ha, e _ _ h.hb, e _ _ h.hc⟩
theorem draw_eq {L : LedM} {R : RepM} (hO : LedOk L) (hf : R.fal = []) {st : List Int} (hst : st = L.line.filter fun x => decide (x ∉ R.fal)) {u : Int} (hu : u = (st.length : Int) + (L.drew.length : Int)) (ht : R.turn = L.opn) :
    (decide (R.kind = ("draw" : Str)) && (canD L R.who R.share && decide (R.coins = dcoin L R.share))) =
    (if R.kind ≠ ("draw" : Str) ∨ R.who ∉ st ∨ L.pl.getD R.who.toNat 0 < L.stake * ((L.pl.length : Int) - R.turn) then false
      else if (L.bid = false ∧ R.who ≠ st.getD 0 0) ∨ R.share < 0 ∨ R.coins < 0 then false
      else if R.share > 0 ∧ (L.bid = false ∨ u = 1) then false
      else decide (R.coins + R.share * (u - 1) = L.stake * (L.pl.length : Int))) := by
  have hst2 : st = L.line := by rw [hst, hf]; simp
  subst hst2
  have hpay : payL L 0 = u := by rw [hu]; unfold payL; omega
  have hpos : 0 ≤ L.stake * (L.pl.length : Int) := Int.mul_nonneg (by have := hO.s1; omega) (by omega)
  by_cases c1 : R.kind = ("draw" : Str)
  case neg => rw [decide_eq_false c1, if_pos (.inl c1)]; rfl
  rw [decide_eq_true c1, Bool.true_and]
  unfold canD dcoin
  rw [hpay, ht]
  by_cases c2 : R.who ∈ L.line
  case neg => rw [if_pos c2, if_pos (.inr (.inl c2))]; rfl
  rw [if_neg (Decidable.not_not.mpr c2)]
  by_cases c3 : L.pl.getD R.who.toNat 0 ≥ L.stake * ((L.pl.length : Int) - L.opn)
  case neg => rw [if_pos c3, if_pos (.inr (.inr (by omega)))]; rfl
  have nn : ¬ (R.kind ≠ ("draw" : Str) ∨ R.who ∉ L.line ∨ L.pl.getD R.who.toNat 0 < L.stake * ((L.pl.length : Int) - L.opn)) := by
    rintro (z | z | z)
    · exact z c1
    · exact z c2
    · omega
  rw [if_neg (Decidable.not_not.mpr c3), if_neg nn]
  generalize L.stake * (L.pl.length : Int) = pot at hpos ⊢
  by_cases c4 : L.bid = false
  · rw [if_pos c4]
    by_cases c5 : R.who = L.line.getD 0 0
    case neg => rw [decide_eq_false c5, if_pos (.inl ⟨c4, c5⟩)]; rfl
    rw [decide_eq_true c5, Bool.true_and]
    by_cases c6 : R.share = 0
    · rw [decide_eq_true c6, Bool.true_and, c6]
      by_cases c7 : R.coins < 0
      · rw [if_pos (.inr (.inr c7)), decide_eq_false (by rw [Int.zero_mul]; omega)]
      · rw [if_neg (by rintro (⟨_, z⟩ | z | z); exact z c5; omega; omega), if_neg (by omega)]
        simp
    · rw [decide_eq_false c6, Bool.false_and]
      by_cases c7 : R.share < 0 ∨ R.coins < 0
      · rw [if_pos (.inr c7)]
      · rw [if_neg (by rintro (⟨_, z⟩ | z); exact z c5; exact c7 z), if_pos ⟨by omega, .inl c4⟩]
  rw [if_neg c4]
  have n1 : ¬ ((L.bid = false ∧ R.who ≠ L.line.getD 0 0) ∨ R.share < 0 ∨ R.coins < 0) ↔ 0 ≤ R.share ∧ 0 ≤ R.coins := by
    constructor
    · intro z
      exact ⟨by have : ¬ R.share < 0 := fun y => z (.inr (.inl y)); omega, by have : ¬ R.coins < 0 := fun y => z (.inr (.inr y)); omega⟩
    · rintro ⟨z1, z2⟩ (⟨y, _⟩ | y | y)
      · exact c4 y
      · omega
      · omega
  by_cases c5 : u = 1
  · rw [if_pos c5, c5]
    by_cases c6 : R.share = 0
    · rw [decide_eq_true c6, Bool.true_and, c6]
      by_cases c7 : R.coins < 0
      · rw [if_pos (.inr (.inr c7)), decide_eq_false (by omega)]
      · rw [if_neg (by rintro (⟨z, _⟩ | z | z); exact c4 z; omega; omega), if_neg (by omega)]
        simp
    · rw [decide_eq_false c6, Bool.false_and]
      by_cases c7 : R.share < 0 ∨ R.coins < 0
      · rw [if_pos (.inr c7)]
      · rw [if_neg (by rintro (⟨z, _⟩ | z); exact c4 z; exact c7 z), if_pos ⟨by omega, .inr rfl⟩]
  rw [if_neg c5]
  by_cases c6 : R.share < 0 ∨ R.coins < 0
  · rw [if_pos (.inr c6)]
    rcases c6 with z | z
    · rw [decide_eq_false (show ¬ R.share ≥ 0 by omega)]; rfl
    · by_cases c7 : R.coins = pot - R.share * (u - 1)
      · rw [decide_eq_false (show ¬ pot - R.share * (u - 1) ≥ 0 by omega), Bool.and_false]; rfl
      · rw [decide_eq_false c7, Bool.and_false]
  · rw [if_neg (by rintro (⟨z, _⟩ | z); exact c4 z; exact c6 z), if_neg (by rintro ⟨_, z | z⟩; exact c4 z; exact c5 z)]
    have a1 : 0 ≤ R.share := by have : ¬ R.share < 0 := fun y => c6 (.inl y); omega
    have a2 : 0 ≤ R.coins := by have : ¬ R.coins < 0 := fun y => c6 (.inr y); omega
    rw [decide_eq_true (show R.share ≥ 0 by omega), Bool.true_and]
    by_cases c7 : R.coins = pot - R.share * (u - 1)
    · rw [decide_eq_true c7, decide_eq_true (by omega), decide_eq_true (by omega)]; rfl
    · rw [decide_eq_false c7, Bool.and_false, decide_eq_false (by omega)]
def spCan (K : PySem.W.Frag) : Sp := fun vs H Q _ => ∃ (t a b c r pf pg : Addr) (L : LedM) (R : RepM), vs = [.ref t, .ref r] ∧ BookAt H t a b c L ∧ RepAt H r pf pg R ∧ LedOk L ∧ L.line.Nodup ∧ 0 ≤ L.due ∧ R.fal.length ≤ 1000 ∧ R.hlp.length ≤ 1000 ∧ ∀ H', Ex H H' → Q (.bl (folM L R)) H'
set_option maxHeartbeats 4000000 in
theorem ok__law_can (T : Top K mg) {k : Nat} : FnOk P w K mg base CX0 (k + 2) T.f__law_can T.fd__law_can ["_law_book", "_law_report"] (spCan K) := by
  have nd := sc__law_can.nd
  have G__law_grows := ok__law_grows (P := P) (w := w) (base := base) T (k := 0)
  refine T.F__law_can.ok sc__law_can (fun vs H Q E h => ?_) (fun cdv A outer s H vs Q E hr h => ?_)
  · obtain ⟨t, a, b, c, r, pf, pg, L, R, rfl, _⟩ := h
    rfl
  · obtain ⟨t, a, b, c, r, pf, pg, L, R, rfl, hB, hR, hO, hn, hd, l1, l2, q⟩ := h
    refine ⟨_, (pss_cons (ps_asg (pv 0) (pg_tup rfl (pgs_cons (pg_name (i := 2) nd rfl (.inl rfl)) (pgs_cons (pg_name (i := 3) nd rfl (.inl rfl)) (pgs_cons (pg_name (i := 4) nd rfl (.inl rfl)) (pgs_cons (pg_name (i := 5) nd rfl (.inl rfl)) (pgs_cons (pg_name (i := 6) nd rfl (.inl rfl)) (pgs_cons (pg_name (i := 7) nd rfl (.inl rfl)) (pgs_cons (pg_name (i := 8) nd rfl (.inl rfl)) (pgs_cons (pg_name (i := 9) nd rfl (.inl rfl)) pgs_nil))))))))))
      (pss_cons (ps_if (PW.pt (pw_or (pt_cmpR op_ne (pe_ix ix_tup (pv 1) pe_int (fun _ _ => rfl)) (pe_op op_add (pv 5) pe_int) (nomark _)) (pw_or1 (pt_cmpR op_ge (pv 5) (pv 3) (nomark _)))))
        (pss_one (ps_ret pe_bl))
        pss_nil)
      (pss_cons (ps_if (PW.pt (pw_or (pt_not (pt_val (pe_call G__law_grows (hr.mono (by omega)) (by rfl) T.m__law_grows T.F__law_grows.kp T.b__law_grows .nil pass0 (pa_cons (pe_ix ix_tup (pv 1) pe_int (fun _ _ => rfl)) (pa_cons (pv 6) pa_nil))))) (pw_or1 (pt_not (pt_val (pe_call G__law_grows (hr.mono (by omega)) (by rfl) T.m__law_grows T.F__law_grows.kp T.b__law_grows .nil pass0 (pa_cons (pe_ix ix_tup (pv 1) pe_int (fun _ _ => rfl)) (pa_cons (pv 9) pa_nil))))))))
        (pss_one (ps_ret pe_bl))
        pss_nil)
      (pss_cons (ps_for PassesOwn.never rfl (pi_list (pe_ix ix_tup (pv 1) pe_int (fun _ _ => rfl))) (pg_name (i := 10) nd rfl (.inl rfl))
        (pss_one (ps_if (pt_cmpR op_lt (pe_ix ix_list (pv 8) (pv 10) (fun _ _ => rfl)) (pv 2) (nomark _))
            (pss_one (ps_ret pe_bl))
            pss_nil)))
      (pss_cons (ps_setLc (i := 11) (own := [("_law_at", 10)]) (g := gName 10) (tt := _) rfl nd rfl rfl (sw_true rfl rfl rfl (by decide +kernel)) (pi_list (pv 6)) (blkOk_by (own := [("_law_at", 10)]) (N := Su.N__law_can) (sc := defScope s__law_can) (by decide +kernel)) (fun _ _ _ _ _ => (pg_name (i := 10) nd rfl (.inl rfl))) (fun _ _ _ _ _ => (pts_one (pt_cmpR (op_notIn_seqK (K := K) rfl) (pv 10) (pe_ix (ix_tupK (K := K) rfl) (pv 1) pe_int (fun _ _ => rfl)) rfl))) (fun _ _ _ _ _ => (pv 10)))
      (pss_cons (ps_set (i := 12) nd rfl (.inl rfl) (pe_op op_add (pe_callB call_len_seq (by rfl) T.m_len PySem.boot_len (pa_cons (pv 11) pa_nil)) (pe_callB call_len_seq (by rfl) T.m_len PySem.boot_len (pa_cons (pv 9) pa_nil))))
      (pss_cons (ps_if (pt_cmpR op_gt (pe_op op_add (pv 7) (pe_callB call_len_seq (by rfl) T.m_len PySem.boot_len (pa_cons (pe_ix ix_tup (pv 1) pe_int (fun _ _ => rfl)) pa_nil))) pe_int (nomark _))
        (pss_one (ps_ret (pe_cmpR (op_eqD hr.units) (pe_slice sl_tup (pv 1) (po_some pe_int) (po_some pe_int)) (pe_tup (pa_cons pe_str (pa_cons (pe_un un_neg pe_int) (pa_cons (pe_op op_mul (pv 2) (pv 12)) (pa_cons pe_int pa_nil))))) (nomark _))))
        pss_nil)
      (pss_cons (ps_if (PW.pt (pw_or (pt_cmpR op_ne (pe_ix ix_tup (pv 1) pe_int (fun _ _ => rfl)) pe_str (nomark _)) (pw_or (pt_cmpR op_notIn_seq (pe_ix ix_tup (pv 1) pe_int (fun _ _ => rfl)) (pv 11) rfl) (pw_or1 (pt_cmpR op_lt (pe_ix ix_list (pv 8) (pe_ix ix_tup (pv 1) pe_int (fun _ _ => rfl)) (fun _ _ => rfl)) (pe_op op_mul (pv 2) (pe_op op_sub (pv 3) (pe_ix ix_tup (pv 1) pe_int (fun _ _ => rfl)))) (nomark _))))))
        (pss_one (ps_ret pe_bl))
        pss_nil)
      (pss_cons (ps_if (PW.pt (pw_or (PW.pt (pw_and (pt_not (pt_val (pv 4))) (pw_and1 (pt_cmpR op_ne (pe_ix ix_tup (pv 1) pe_int (fun _ _ => rfl)) (pe_ix ix_list (pv 11) pe_int (fun _ _ => rfl)) (nomark _))))) (pw_or (pt_cmpR op_lt (pe_ix ix_tup (pv 1) pe_int (fun _ _ => rfl)) pe_int (nomark _)) (pw_or1 (pt_cmpR op_lt (pe_ix ix_tup (pv 1) pe_int (fun _ _ => rfl)) pe_int (nomark _))))))
        (pss_one (ps_ret pe_bl))
        pss_nil)
      (pss_cons (ps_if (PW.pt (pw_and (pt_cmpR op_gt (pe_ix ix_tup (pv 1) pe_int (fun _ _ => rfl)) pe_int (nomark _)) (pw_and1 (PW.pt (pw_or (pt_not (pt_val (pv 4))) (pw_or1 (pt_cmpR op_eq (pv 12) pe_int (nomark _))))))))
        (pss_one (ps_ret pe_bl))
        pss_nil)
      (pss_one (ps_ret (pe_cmpR op_eq (pe_op op_add (pe_ix ix_tup (pv 1) pe_int (fun _ _ => rfl)) (pe_op op_mul (pe_ix ix_tup (pv 1) pe_int (fun _ _ => rfl)) (pe_op op_sub (pv 12) pe_int))) (pe_op op_mul (pv 2) (pv 3)) (nomark _)))))))))))))), ?_⟩
    unfold folM at q
    have hN := hO.n2
    have hLD := hO.ld
    refine q_asgXg ((ev_var rfl) H (Ex.refl _) _ fun H1 e1 => tg_8 (K := K) (st_of (e1 _ _ hB.ht)) H1 (Ex.refl _) _ ?_)
    have rx : ∀ {H2 : Hp} {σ : L2.St} {j : Int} {v : V}, Ex H H2 → σ[1]? = some (some (.ref r)) → atI [V.int R.turn, .str R.kind, .int R.who, .int R.coins, .int R.share, .ref pf, .ref pg] j = some v → Ev (tOp (rIxT K) (tVar 1) (tC (.int j))) σ H2 v := fun e g hv => ev_op (ev_var g) ev_c (rv_ixT (st_of (e _ _ hR.ht)) hv)
    refine q_when (b := !decide (R.turn = L.opn) || decide ((L.pl.length : Int) ≤ L.opn - 1)) (et_or (et_is (et_test (ev_op (rx e1 rfl rfl) (ev_is (ev_op (ev_var rfl) ev_c rv_I0) (congrArg V.int (show L.opn - 1 + 1 = L.opn by omega))) (rv_ne rfl))) (by rw [int_eq])) fun _ => et_test (ev_op (ev_var rfl) (ev_var rfl) rv_I0)) (fun hb H2 e2 => ?_) (fun hb H2 e2 => ?_)
    · rw [if_pos (by
        by_cases c : R.turn = L.opn
        · rw [decide_eq_true c] at hb
          have := of_decide_eq_true hb
          exact .inr (by omega)
        · exact .inl c)] at q
      exact s_ret ev_c fun H3 e3 => q H3 ((e1.trans e2).trans e3)
    have ht : R.turn = L.opn := by
      by_cases c : R.turn = L.opn
      · exact c
      · rw [decide_eq_false c] at hb; cases hb
    rw [if_neg (by
      rintro (c | c)
      · exact c ht
      · rw [decide_eq_true (show (L.pl.length : Int) ≤ L.opn - 1 by omega), Bool.or_true] at hb; cases hb)] at q
    have e12 := e1.trans e2
    refine q_when (b := !(growB R.fal && R.fal.all fun x => decide (x ∈ L.line)) || !(growB R.hlp && R.hlp.all fun x => decide (x ∈ L.drew))) (et_or (et_not (et_B (ev_call (ea_cons (rx e12 rfl rfl) (ea_cons (ev_var rfl) ea_nil)) (fun Hx e Q q _ => ⟨pf, a, R.fal, L.line, rfl, (e12.trans e) _ _ hR.hf, (e12.trans e) _ _ hB.ha, fun x hx => (hO.lr x hx).1, l1, q⟩)))) fun _ => et_not (et_B (ev_call (ea_cons (rx e12 rfl rfl) (ea_cons (ev_var rfl) ea_nil)) (fun Hx e Q q _ => ⟨pg, c, R.hlp, L.drew, rfl, (e12.trans e) _ _ hR.hg, (e12.trans e) _ _ hB.hc, fun x hx => (hO.dr x hx).1, l2, q⟩)))) (fun hb2 H3 e3 => ?_) (fun hb2 H3 e3 => ?_)
    · refine s_ret ev_c fun H4 e4 => ?_
      have := q H4 ((e12.trans e3).trans e4)
      by_cases c2 : (growB R.fal && R.fal.all (fun x => decide (x ∈ L.line))) = false
      · rw [if_pos c2] at this
        exact this
      · rw [if_neg c2, if_pos ?_] at this
        · exact this
        · rw [Bool.not_eq_false] at c2
          rw [c2] at hb2
          have hb3 : (growB R.hlp && R.hlp.all fun x => decide (x ∈ L.drew)) = false := by
            cases hc : (growB R.hlp && R.hlp.all fun x => decide (x ∈ L.drew)) <;> rw [hc] at hb2 <;> first | rfl | cases hb2
          by_cases g : growB R.hlp = true
          · rw [g, Bool.true_and] at hb3 ⊢
            rw [List.all_eq_false] at hb3 ⊢
            obtain ⟨x, hx, hz⟩ := hb3
            refine ⟨x, hx, ?_⟩
            unfold canP
            rw [Bool.not_eq_true] at hz
            rw [hz]
            simp
          · rw [Bool.not_eq_true] at g
            rw [g]
            rfl
    have hfal : growB R.fal = true ∧ ∀ x ∈ R.fal, x ∈ L.line := by
      cases hc : (growB R.fal && R.fal.all fun x => decide (x ∈ L.line)) with
      | false => rw [hc] at hb2; cases hb2
      | true =>
        rw [Bool.and_eq_true, List.all_eq_true] at hc
        exact ⟨hc.1, fun x hx => of_decide_eq_true (hc.2 x hx)⟩
    have hhlp : growB R.hlp = true ∧ ∀ x ∈ R.hlp, x ∈ L.drew := by
      cases hc : (growB R.hlp && R.hlp.all fun x => decide (x ∈ L.drew)) with
      | false => rw [hc, Bool.not_false, Bool.or_true] at hb2; cases hb2
      | true =>
        rw [Bool.and_eq_true, List.all_eq_true] at hc
        exact ⟨hc.1, fun x hx => of_decide_eq_true (hc.2 x hx)⟩
    rw [if_neg (by
      rw [hfal.1, Bool.true_and, Bool.not_eq_false, List.all_eq_true]
      exact fun x hx => decide_eq_true (hfal.2 x hx))] at q
    have e13 := e12.trans e3
    refine q_forL (xs := R.hlp.map V.int) (rx e13 rfl rfl) (sq_of (e13 _ _ hR.hg)) (fun i σ' H' => ∃ y : Option V, σ' = [some (.ref t), some (.ref r), some (.int L.stake), some (.int (L.pl.length : Int)), some (.bl L.bid), some (.int (L.opn - 1)), some (.ref a), some (.int L.due), some (.ref b), some (.ref c), y, none, none] ∧ Ex H H' ∧ ∀ x ∈ R.hlp.take i, L.stake ≤ L.pl.getD x.toNat 0) ?_ ?_ ?_ ?_
    · intro H4 e4
      exact ⟨_, rfl, e13.trans e4, fun x hx => absurd hx List.not_mem_nil⟩
    · rintro i σ' H4 hi ⟨y, rfl, ex, _⟩
      exact sq_of (ex _ _ hR.hg)
    · rintro i x σ' H4 hx ⟨y, rfl, ex, hs⟩
      obtain ⟨z, rfl, gz⟩ := ints_get hx
      refine tg_name H4 (Ex.refl _) _ ?_
      have hzm := List.mem_of_getElem? gz
      have hz := hO.dr z (hhlp.2 z hzm)
      refine s_when (b := decide (L.pl.getD z.toNat 0 < L.stake)) (et_test (ev_op (ev_op (ev_var rfl) (ev_var rfl) (rv_ixL (sq_of (ex _ _ hB.hb)) (int_at2 (i := z.toNat) (by omega) (by omega)))) (ev_var rfl) rv_I0)) (fun hb3 H5 e5 => ?_) (fun hb3 H5 e5 => ?_)
      · have hlt := of_decide_eq_true hb3
        refine s_ret ev_c fun H6 e6 => ?_
        have := q H6 ((ex.trans e5).trans e6)
        rw [if_pos (by
          rw [hhlp.1, Bool.true_and, List.all_eq_false]
          refine ⟨z, hzm, ?_⟩
          unfold canP
          rw [decide_eq_false (show ¬ L.pl.getD z.toNat 0 ≥ L.stake by omega)]
          simp)] at this
        exact this
      · have hge := of_decide_eq_false hb3
        refine ⟨_, rfl, ex.trans e5, fun x hx => ?_⟩
        rw [List.take_add_one, gz] at hx
        rcases List.mem_append.mp hx with hx | hx
        · exact hs x hx
        · rw [List.mem_singleton.mp hx]
          omega
    rintro σ' H4 ⟨y, rfl, e14, hs⟩
    rw [List.length_map, List.take_length] at hs
    rw [if_neg (by
      rw [hhlp.1, Bool.true_and, Bool.not_eq_false, List.all_eq_true]
      intro x hx
      unfold canP
      rw [decide_eq_true (hhlp.2 x hx), decide_eq_true (hs x hx)]
      rfl)] at q
    obtain ⟨st, hst⟩ : ∃ st, st = L.line.filter fun x => decide (x ∉ R.fal) := ⟨_, rfl⟩
    have hstl : st.length + R.fal.length = L.line.length := by rw [hst]; exact filt_diff hn (grow_nd hfal.1) hfal.2
    refine q_asgL (xs := st.map V.int) (by
      rw [hst, ← given_filter]
      rw [show L.line.length = (L.line.map V.int).length by rw [List.length_map]]
      refine el_lcL _ _ (ev_var rfl) (sq_of (e14 _ _ hB.ha)) (by rw [List.length_map]; omega) (fun x => rfl) (fun j x Hb eb gx => ?_) (fun j x Hb eb gx _ => ?_)
      · obtain ⟨z, rfl, gz⟩ := ints_get gx
        rw [show L.line.getD j 0 = z by rw [List.getD_eq_getElem?_getD, gz]; rfl]
        exact et_is (et_test (ev_op (ev_var rfl) (rx (e14.trans eb) rfl rfl) (rv_niL (sq_of ((e14.trans eb) _ _ hR.hf)) rfl flat_ints))) (by rw [inV_int]; by_cases c : z ∈ R.fal <;> simp [c])
      · obtain ⟨z, rfl, gz⟩ := ints_get gx
        rw [show L.line.getD j 0 = z by rw [List.getD_eq_getElem?_getD, gz]; rfl]
        exact ev_var rfl) fun ps H5 hps e5 h5 => ?_
    obtain ⟨u, hu⟩ : ∃ u : Int, u = (st.length : Int) + (L.drew.length : Int) := ⟨_, rfl⟩
    have e15 := e14.trans e5
    have hub : 0 ≤ u ∧ u ≤ 100 := by omega
    refine q_asg (v := .int u) (ev_is (ev_op (ev_len (ev_var rfl) (sq_of h5)) (ev_len (ev_var rfl) (sq_of (e15 _ _ hB.hc))) rv_I0) (by rw [List.length_map, List.length_map, hu])) fun H6 e6 => ?_
    have e16 := e15.trans e6
    have h6 := e6 _ _ h5
    refine q_when (b := decide (L.due + (R.fal.length : Int) > 0)) (et_test (ev_op (ev_op (ev_var rfl) (ev_is (ev_len (rx e16 rfl rfl) (sq_of (e16 _ _ hR.hf))) (by rw [List.length_map])) rv_I0) ev_c rv_I0)) (fun hb4 H7 e7 => ?_) (fun hb4 H7 e7 => ?_)
    · rw [if_pos (of_decide_eq_true hb4)] at q
      have e17 := e16.trans e7
      refine s_ret (v := .bl (boxB L R)) (ev_opUU (xs := [.str R.kind, .int R.who, .int R.coins, .int R.share]) (eu_slT (ev_var rfl) (eo_some (i := ((1 : Nat) : Int)) ev_c) (eo_some (i := ((5 : Nat) : Int)) ev_c) (st_of (e17 _ _ hR.ht)) (by rw [HT.sIx_nat]; intro z; cases z.1)) (eu_tup (vs := [.str "box", .int (-1), .int (L.stake * payL L R.fal.length), .int 0]) (ea_cons ev_c (ea_cons (ev_un ev_c ru_neg) (ea_cons (ev_is (ev_op (ev_var rfl) (ev_var rfl) (Su.rv_mul (Su.CMul.r (by omega) (by omega)))) (by
        rw [show payL L R.fal.length = u by unfold payL; omega])) (ea_cons ev_c ea_nil)))) (by show 4 ≤ 100000; decide)) fun p5 q5 Hx hp5 hq5 ex => rv_eqDD (d := .tuple [.str R.kind, .int R.who, .int R.coins, .int R.share]) (e := .tuple [.str "box", .int (-1), .int (L.stake * payL L R.fal.length), .int 0]) (.tup (st_of hp5) (.cons (.str _) (.cons (.int _) (.cons (.int _) (.cons (.int _) .nil))))) (.tup (st_of hq5) (.cons (.str _) (.cons (.int _) (.cons (.int _) (.cons (.int _) .nil))))) (tup4_sh hR.ks) (tup4_sh (by decide +kernel)) box_eq) fun H8 e8 => q H8 (e17.trans e8)
    have hle := of_decide_eq_false hb4
    have hf0 : R.fal = [] := List.length_eq_zero_iff.mp (by omega)
    rw [if_neg hle, draw_eq hO hf0 hst hu ht] at q
    have e17 := e16.trans e7
    have h7 := e7 _ _ h6
    have str_eqd : decide (V.str R.kind = V.str "draw") = decide (R.kind = ("draw" : Str)) := by
      by_cases c : R.kind = ("draw" : Str)
      · rw [c, decide_eq_true rfl, decide_eq_true rfl]
      · rw [decide_eq_false c, decide_eq_false fun z => c (V.str.inj z)]
    have hst2 : st = L.line := by rw [hst, hf0]; simp
    have ow := hO.o1
    have ow2 := hO.o2
    refine q_when (b := !decide (R.kind = ("draw" : Str)) || (decide (R.who ∉ st) || decide (L.pl.getD R.who.toNat 0 < L.stake * ((L.pl.length : Int) - R.turn)))) (et_or (et_is (et_test (ev_op (rx e17 rfl rfl) ev_c (rv_ne rfl))) (congrArg (!·) str_eqd)) fun _ => et_or (et_is (et_test (ev_op (rx e17 rfl rfl) (ev_var rfl) (rv_niL (sq_of h7) rfl flat_ints))) (by rw [inV_int]; by_cases c : R.who ∈ st <;> simp [c])) fun hin => ?_) (fun hb5 H8 e8 => ?_) (fun hb5 H8 e8 => ?_)
    · have hin := Decidable.not_not.mp (of_decide_eq_false hin)
      rw [hst2] at hin
      have hx := hO.lr _ hin
      exact et_test (ev_op (ev_op (ev_var rfl) (rx e17 rfl rfl) (rv_ixL (sq_of (e17 _ _ hB.hb)) (int_at2 (i := R.who.toNat) (by omega) (by omega)))) (ev_op (ev_var rfl) (ev_op (ev_var rfl) (rx e17 rfl rfl) rv_I0) (Su.rv_mul (Su.CMul.r (by omega) (by omega)))) rv_I0)
    · rw [if_pos (by
        by_cases c1 : R.kind = ("draw" : Str)
        · rw [decide_eq_true c1, Bool.not_true, Bool.false_or, Bool.or_eq_true, decide_eq_true_eq, decide_eq_true_eq] at hb5
          exact .inr hb5
        · exact .inl c1)] at q
      exact s_ret ev_c fun H9 e9 => q H9 ((e17.trans e8).trans e9)
    rw [Bool.or_eq_false_iff, Bool.or_eq_false_iff, Bool.not_eq_false', decide_eq_true_eq, decide_eq_false_iff_not, decide_eq_false_iff_not] at hb5
    rw [if_neg (by
      rintro (z | z | z)
      · exact z hb5.1
      · exact hb5.2.1 z
      · exact hb5.2.2 z)] at q
    have hin := Decidable.not_not.mp hb5.2.1
    have hpos := List.length_pos_of_mem hin
    have e18 := e17.trans e8
    have h8 := e8 _ _ h7
    refine q_when (b := (!L.bid && !decide (R.who = st.getD 0 0)) || (decide (R.share < 0) || decide (R.coins < 0))) (et_or (et_and (et_not (et_B (ev_var rfl))) fun _ => et_is (et_test (ev_op (rx e18 rfl rfl) (ev_op (ev_var rfl) ev_c (rv_ixL (sq_of h8) (int_at2 (i := 0) rfl hpos))) (rv_ne rfl))) (by rw [int_eq])) fun _ => et_or (et_test (ev_op (rx e18 rfl rfl) ev_c rv_I0)) fun _ => et_test (ev_op (rx e18 rfl rfl) ev_c rv_I0)) (fun hb6 H9 e9 => ?_) (fun hb6 H9 e9 => ?_)
    · rw [if_pos (by
        rw [Bool.or_eq_true, Bool.or_eq_true, Bool.and_eq_true, decide_eq_true_eq, decide_eq_true_eq, Bool.not_eq_true', Bool.not_eq_true', decide_eq_false_iff_not] at hb6
        exact hb6)] at q
      exact s_ret ev_c fun H10 e10 => q H10 ((e18.trans e9).trans e10)
    rw [if_neg (by
      intro z
      have : (!L.bid && !decide (R.who = st.getD 0 0) || (decide (R.share < 0) || decide (R.coins < 0))) = true := by
        rw [Bool.or_eq_true, Bool.or_eq_true, Bool.and_eq_true, decide_eq_true_eq, decide_eq_true_eq, Bool.not_eq_true', Bool.not_eq_true', decide_eq_false_iff_not]
        exact z
      rw [this] at hb6
      cases hb6)] at q
    have e19 := e18.trans e9
    refine q_when (b := decide (R.share > 0) && (!L.bid || decide (u = 1))) (et_and (et_test (ev_op (rx e19 rfl rfl) ev_c rv_I0)) fun _ => et_or (et_not (et_B (ev_var rfl))) fun _ => et_is (et_test (ev_op (ev_var rfl) ev_c (rv_eq rfl))) int_eq) (fun hb7 H10 e10 => ?_) (fun hb7 H10 e10 => ?_)
    · rw [if_pos (by
        rw [Bool.and_eq_true, Bool.or_eq_true, decide_eq_true_eq, decide_eq_true_eq, Bool.not_eq_true'] at hb7
        exact hb7)] at q
      exact s_ret ev_c fun H11 e11 => q H11 ((e19.trans e10).trans e11)
    rw [if_neg (by
      intro z
      have : (decide (R.share > 0) && (!L.bid || decide (u = 1))) = true := by
        rw [Bool.and_eq_true, Bool.or_eq_true, decide_eq_true_eq, decide_eq_true_eq, Bool.not_eq_true']
        exact z
      rw [this] at hb7
      cases hb7)] at q
    have e20 := e19.trans e10
    exact s_ret (ev_is (ev_op (ev_op (rx e20 rfl rfl) (ev_op (rx e20 rfl rfl) (ev_op (ev_var rfl) ev_c rv_I0) (Su.rv_mul (Su.CMul.r (by omega) (by omega)))) rv_I0) (ev_op (ev_var rfl) (ev_var rfl) (Su.rv_mul (Su.CMul.r (by omega) (by omega)))) (rv_eq rfl)) (by rw [int_eq])) fun H11 e11 => q H11 (e20.trans e11)
end

end Su
namespace Su
theorem ev_ixN {K : PySem.W.Frag} {te tb : TE} {σ : L2.St} {H : Hp} {xs : List V} {z : Int} {v : V} (h : EvL te σ H xs) (hb : Ev tb σ H (.int z)) (hz : atI xs z = some v) : Ev (tOp (rIxL K) te tb) σ H v := fun H1 e Q q =>
  h H1 e _ fun p H2 _ e2 h2 => hb H2 (e.trans e2) _ fun H3 e3 => rv_ixL (sq_of (e3 _ _ h2)) hz H3 (Ex.refl _) _ fun H4 e4 => q H4 ((e2.trans e3).trans e4)

end Su
namespace Su
/-! ### the books behind a report, a free report, a spoilt one -/
section
variable {P : Program} {w : World} {K : PySem.W.Frag} {mg : Str → Option Value} {base : Heap}
def afterB (L : LedM) (r : RepM) : LedM where
  stake := L.stake
  pl := plsub L.stake L.pl r.hlp
  line := L.line.filter fun x => decide (x ∉ r.fal) && decide (x ≠ r.who)
  bid := L.bid
  drew := if L.due + (r.fal.length : Int) > 0 then L.drew else L.drew ++ [r.who]
  opn := L.opn + 1
  due := if L.due + (r.fal.length : Int) > 0 then L.due + (r.fal.length : Int) - 1 else L.due + (r.fal.length : Int)
def spAfter (K : PySem.W.Frag) : Sp := fun vs H Q _ => ∃ (t a b c r pf pg : Addr) (L : LedM) (R : RepM), vs = [.ref t, .ref r] ∧ BookAt H t a b c L ∧ RepAt H r pf pg R ∧ L.pl.length ≤ 100 ∧ L.line.length ≤ 100 ∧ L.drew.length ≤ 100 ∧ R.fal.length ≤ 1000 ∧ R.hlp.length ≤ 1000 ∧ (∀ x ∈ R.hlp, 0 ≤ x ∧ x < (L.pl.length : Int)) ∧ ∀ H' t' a' b' c', Ex H H' → H t' = none → H a' = none → H b' = none → H c' = none → BookAt H' t' a' b' c' (afterB L R) → Q (.ref t') H'
theorem ok__law_after (T : Top K mg) {k : Nat} : FnOk P w K mg base CX0 (k + 1) T.f__law_after T.fd__law_after ["_law_book", "_law_report"] (spAfter K) := by
  have nd := sc__law_after.nd
  refine T.F__law_after.ok sc__law_after (fun vs H Q E h => ?_) (fun cdv A outer s H vs Q E hr h => ?_)
  · obtain ⟨t, a, b, c, r, pf, pg, L, R, rfl, _⟩ := h
    rfl
  · obtain ⟨t, a, b, c, r, pf, pg, L, R, rfl, hB, hR, n1, n2, n3, l1, l2, hh, q⟩ := h
    refine ⟨_, (pss_cons (ps_set (i := 2) nd rfl (.inl rfl) (pe_callTy call_list_of (by rfl) T.m_list (by decide +kernel) (pa_cons (pe_ix ix_tup (pv 0) pe_int (fun _ _ => rfl)) pa_nil)))
      (pss_cons (ps_for PassesOwn.never rfl (pi_list (pe_ix ix_tup (pv 1) pe_int (fun _ _ => rfl))) (pg_name (i := 3) nd rfl (.inl rfl))
        (pss_one (ps_augS (pv 2) (pv 3) get_list (pe_ix ix_tup (pv 0) pe_int (fun _ _ => rfl)) ip_sub set_list)))
      (pss_cons (ps_setLc (i := 4) (own := [("_law_at", 3)]) (g := gName 3) (tt := _) rfl nd rfl rfl (sw_true rfl rfl rfl (by decide +kernel)) (pi_list (pe_ix ix_tup (pv 0) pe_int (fun _ _ => rfl))) (blkOk_by (own := [("_law_at", 3)]) (N := Su.N__law_after) (sc := defScope s__law_after) (by decide +kernel)) (fun _ _ _ _ _ => (pg_name (i := 3) nd rfl (.inl rfl))) (fun _ _ _ _ _ => (pts_one (PW.pt (pw_and (pt_cmpR (op_notIn_seqK (K := K) rfl) (pv 3) (pe_ix (ix_tupK (K := K) rfl) (pv 1) pe_int (fun _ _ => rfl)) rfl) (pw_and1 (pt_cmpR op_ne (pv 3) (pe_ix (ix_tupK (K := K) rfl) (pv 1) pe_int (fun _ _ => rfl)) (nomark _))))))) (fun _ _ _ _ _ => (pv 3)))
      (pss_cons (ps_set (i := 5) nd rfl (.inl rfl) (pe_callTy call_list_of (by rfl) T.m_list (by decide +kernel) (pa_cons (pe_ix ix_tup (pv 0) pe_int (fun _ _ => rfl)) pa_nil)))
      (pss_cons (ps_set (i := 6) nd rfl (.inl rfl) (pe_op op_add (pe_ix ix_tup (pv 0) pe_int (fun _ _ => rfl)) (pe_callB call_len_seq (by rfl) T.m_len PySem.boot_len (pa_cons (pe_ix ix_tup (pv 1) pe_int (fun _ _ => rfl)) pa_nil))))
      (pss_cut (ps_if (pt_cmpR op_gt (pv 6) pe_int (nomark _))
        (pss_one (ps_set (i := 6) nd rfl (.inl rfl) (pe_op op_sub (pv 6) pe_int)))
        (pss_one (ps_expr (pe_bm PySem.F.plainAttrs_list PySem.F.slot_list_append PySem.F.type_list_append mt_append (pv 5) (pa_cons (pe_ix ix_tup (pv 1) pe_int (fun _ _ => rfl)) pa_nil)))))
      (pss_one (ps_ret (pe_tup (pa_cons (pe_ix ix_tup (pv 0) pe_int (fun _ _ => rfl)) (pa_cons (pe_ix ix_tup (pv 0) pe_int (fun _ _ => rfl)) (pa_cons (pe_ix ix_tup (pv 0) pe_int (fun _ _ => rfl)) (pa_cons (pe_op op_add (pe_ix ix_tup (pv 0) pe_int (fun _ _ => rfl)) pe_int) (pa_cons (pv 4) (pa_cons (pv 6) (pa_cons (pv 2) (pa_cons (pv 5) pa_nil))))))))))))))))), ?_⟩
    have bx : ∀ {H2 : Hp} {σ : L2.St} {j : Int} {v : V}, Ex H H2 → σ[0]? = some (some (.ref t)) → atI [V.int L.stake, .int (L.pl.length : Int), .bl L.bid, .int (L.opn - 1), .ref a, .int L.due, .ref b, .ref c] j = some v → Ev (tOp (rIxT K) (tVar 0) (tC (.int j))) σ H2 v := fun e g hv => ev_op (ev_var g) ev_c (rv_ixT (st_of (e _ _ hB.ht)) hv)
    have rx : ∀ {H2 : Hp} {σ : L2.St} {j : Int} {v : V}, Ex H H2 → σ[1]? = some (some (.ref r)) → atI [V.int R.turn, .str R.kind, .int R.who, .int R.coins, .int R.share, .ref pf, .ref pg] j = some v → Ev (tOp (rIxT K) (tVar 1) (tC (.int j))) σ H2 v := fun e g hv => ev_op (ev_var g) ev_c (rv_ixT (st_of (e _ _ hR.ht)) hv)
    refine q_asgL (el_list (bx (Ex.refl _) rfl rfl) (sq_of hB.hb)) fun p1 H1 hp1 e1 h1 => ?_
    refine q_forL (xs := R.hlp.map V.int) (rx e1 rfl rfl) (sq_of (e1 _ _ hR.hg)) (fun u σ' H' => ∃ y : Option V, σ' = [some (.ref t), some (.ref r), some (.ref p1), y, none, none, none] ∧ Ex H H' ∧ H' p1 = some (.lst ((plsub L.stake L.pl (R.hlp.take u)).map V.int))) ?_ ?_ ?_ ?_
    · intro H2 e2
      exact ⟨_, rfl, e1.trans e2, e2 _ _ h1⟩
    · rintro u σ' H2 hu ⟨y, rfl, ex, _⟩
      exact sq_of (ex _ _ hR.hg)
    · rintro u x σ' H2 hx ⟨y, rfl, ex, h2⟩
      obtain ⟨z, rfl, gz⟩ := ints_get hx
      have hz := hh z (List.mem_of_getElem? gz)
      have hlen : (plsub L.stake L.pl (R.hlp.take u)).length = L.pl.length := plsub_len
      refine tg_name H2 (Ex.refl _) _ ?_
      refine q_augL (D := { nx := _, rt := _, bk := _, ct := _ }) (tz := fun D' σ' H' => D'.nx σ' H') (z := z) (j := z.toNat) (a := (plsub L.stake L.pl (R.hlp.take u)).getD z.toNat 0) h2 (ev_var rfl) (ev_var rfl) (by omega) (int_nat (i := z.toNat) (by show z.toNat < (plsub L.stake L.pl (R.hlp.take u)).length; omega)) (bx ex rfl rfl) fun H3 e3 => ?_
      refine ⟨_, rfl, ex_up (ex.trans e3) hp1, ?_⟩
      have e : R.hlp.take (u + 1) = R.hlp.take u ++ [z] := by rw [List.take_add_one, gz]; rfl
      rw [e, plsub_snoc, upd_same, List.map_set]
    rintro σ' H2 ⟨y, rfl, ex2, h2⟩
    rw [List.length_map, List.take_length] at h2
    refine q_asgL (xs := (L.line.filter fun x => decide (x ∉ R.fal) && decide (x ≠ R.who)).map V.int) (by
      rw [← given_filter]
      rw [show L.line.length = (L.line.map V.int).length by rw [List.length_map]]
      refine el_lcL _ _ (bx ex2 rfl rfl) (sq_of (ex2 _ _ hB.ha)) (by rw [List.length_map]; omega) (fun x => rfl) (fun j x Hb eb gx => ?_) (fun j x Hb eb gx _ => ?_)
      · obtain ⟨z, rfl, gz⟩ := ints_get gx
        rw [show L.line.getD j 0 = z by rw [List.getD_eq_getElem?_getD, gz]; rfl]
        exact et_and (et_is (et_test (ev_op (ev_var rfl) (rx (ex2.trans eb) rfl rfl) (rv_niL (sq_of ((ex2.trans eb) _ _ hR.hf)) rfl flat_ints))) (by rw [inV_int]; by_cases c : z ∈ R.fal <;> simp [c])) fun _ => et_is (et_test (ev_op (ev_var rfl) (rx (ex2.trans eb) rfl rfl) (rv_ne rfl))) (by rw [int_eq]; by_cases c : z = R.who <;> simp [c])
      · obtain ⟨z, rfl, gz⟩ := ints_get gx
        rw [show L.line.getD j 0 = z by rw [List.getD_eq_getElem?_getD, gz]; rfl]
        exact ev_var rfl) fun p2 H3 hp2 e3 h3 => ?_
    have ex3 := ex2.trans e3
    refine q_asgL (el_list (bx ex3 rfl rfl) (sq_of (ex3 _ _ hB.hc))) fun p3 H4 hp3 e4 h4 => ?_
    have ex4 := ex3.trans e4
    refine q_asg (ev_op (bx ex4 rfl rfl) (ev_is (ev_len (rx ex4 rfl rfl) (sq_of (ex4 _ _ hR.hf))) (by rw [List.length_map])) rv_I0) fun H5 e5 => ?_
    have ex5 := ex4.trans e5
    have h1' := (e3.trans (e4.trans e5)) _ _ h2
    have h2' := (e4.trans e5) _ _ h3
    have h3' := e5 _ _ h4
    have n12 : p1 ≠ p3 := fun z => by rw [← z, e3 _ _ h2] at hp3; cases hp3
    have n23 : p2 ≠ p3 := fun z => by rw [← z, h3] at hp3; cases hp3
    refine q_cut (M := fun σ' H' => σ' = [some (.ref t), some (.ref r), some (.ref p1), y, some (.ref p2), some (.ref p3), some (.int (afterB L R).due)] ∧ Ex H H' ∧ H' p1 = some (.lst ((afterB L R).pl.map V.int)) ∧ H' p2 = some (.lst ((afterB L R).line.map V.int)) ∧ H' p3 = some (.lst ((afterB L R).drew.map V.int))) ?_ ?_
    · refine s_if (b := decide (L.due + (R.fal.length : Int) > 0)) (et_test (ev_op (ev_var rfl) ev_c rv_I0)) (fun hb H6 e6 => ?_) (fun hb H6 e6 => ?_)
      · have hb := of_decide_eq_true hb
        refine s_asg (ev_op (ev_var rfl) ev_c rv_I0) fun H7 e7 => ⟨?_, (ex5.trans e6).trans e7, (e6.trans e7) _ _ h1', (e6.trans e7) _ _ h2', ?_⟩
        · show _ = [some (V.ref t), some (.ref r), some (.ref p1), y, some (.ref p2), some (.ref p3), some (.int (if L.due + (R.fal.length : Int) > 0 then L.due + (R.fal.length : Int) - 1 else L.due + (R.fal.length : Int)))]
          rw [if_pos hb]
          rfl
        · show _ = some (HO.lst ((if L.due + (R.fal.length : Int) > 0 then L.drew else L.drew ++ [R.who]).map V.int))
          rw [if_pos hb]
          exact (e6.trans e7) _ _ h3'
      · have hb := of_decide_eq_false hb
        refine s_app (e6 _ _ h3') (ev_var rfl) (rx (ex5.trans e6) rfl rfl) (by rw [List.length_map]; omega) fun H7 e7 => ⟨?_, ex_up ((ex5.trans e6).trans e7) (fresh_back ex3 hp3), ?_, ?_, ?_⟩
        · show _ = [some (V.ref t), some (.ref r), some (.ref p1), y, some (.ref p2), some (.ref p3), some (.int (if L.due + (R.fal.length : Int) > 0 then L.due + (R.fal.length : Int) - 1 else L.due + (R.fal.length : Int)))]
          rw [if_neg hb]
          rfl
        · rw [upd_ne n12]
          exact (e6.trans e7) _ _ h1'
        · rw [upd_ne n23]
          exact (e6.trans e7) _ _ h2'
        · show _ = some (HO.lst ((if L.due + (R.fal.length : Int) > 0 then L.drew else L.drew ++ [R.who]).map V.int))
          rw [if_neg hb, upd_same, List.map_append]
          rfl
    rintro _ H6 ⟨rfl, ex6, k1, k2, k3⟩
    refine s_retU (eu_tup (ea_cons (bx ex6 rfl rfl) (ea_cons (bx ex6 rfl rfl) (ea_cons (bx ex6 rfl rfl) (ea_cons (ev_op (bx ex6 rfl rfl) ev_c rv_I0) (ea_cons (ev_var rfl) (ea_cons (ev_var rfl) (ea_cons (ev_var rfl) (ea_cons (ev_var rfl) ea_nil)))))))) (by show 8 ≤ 100000; decide)) fun t' H7 ht' e7 h7 => ?_
    refine q H7 t' p2 p1 p3 (ex6.trans e7) (fresh_back ex6 ht') (fresh_back ex2 hp2) hp1 (fresh_back ex3 hp3) ⟨?_, e7 _ _ k2, e7 _ _ k1, e7 _ _ k3⟩
    rw [h7, show (afterB L R).pl.length = L.pl.length from plsub_len, show (afterB L R).opn - 1 = L.opn - 1 + 1 by show L.opn + 1 - 1 = _; omega]
    rfl
structure BookOk (n : Nat) (L : LedM) : Prop where
  s1 : 1 ≤ L.stake
  s2 : L.stake ≤ 1000000
  pn : L.pl.length = n
  n1 : 2 ≤ n
  n2 : n ≤ 9
  lr : ∀ x ∈ L.line, 0 ≤ x ∧ x < (n : Int)
  dr : ∀ x ∈ L.drew, 0 ≤ x ∧ x < (n : Int)
  ld : L.line.length + L.drew.length ≤ n
  ln : L.line.Nodup
  d0 : 0 ≤ L.due
  eq : (L.line.length : Int) + L.due + (L.opn - 1) = (n : Int)
  o1 : 1 ≤ L.opn
/-- a report that fits the books, but for its coins -/
structure RepOk (L : LedM) (r : RepM) : Prop where
  kd : r.kind = ("box" : Str) ∨ r.kind = ("draw" : Str)
  fl : ∀ x ∈ r.fal, x ∈ L.line
  fn : r.fal.Nodup
  hl : ∀ x ∈ r.hlp, x ∈ L.drew
  hn : r.hlp.length ≤ 100
  box : L.due + (r.fal.length : Int) > 0 → r.who = -1
  drw : ¬ L.due + (r.fal.length : Int) > 0 → r.who ∈ L.line
def spFree (K : PySem.W.Frag) : Sp := fun vs H Q _ => ∃ (t a b c s : Addr) (L : LedM) (n : Nat) (rows : List Int), vs = [.ref t, .ref s] ∧ BookAt H t a b c L ∧ BookOk n L ∧ L.opn ≤ (n : Int) ∧ SqL K H s (rows.map V.int) ∧ 4 ≤ rows.length ∧ ∀ H' r pf pg R, Ex H H' → H r = none → H pf = none → H pg = none → RepAt H' r pf pg R → RepOk L R → Q (.ref r) H'
set_option maxHeartbeats 8000000 in
theorem ok__law_free (T : Top K mg) {k : Nat} : FnOk P w K mg base CX0 (k + 1) T.f__law_free T.fd__law_free ["_law_book", "_law_some"] (spFree K) := by
  have nd := sc__law_free.nd
  refine T.F__law_free.ok sc__law_free (fun vs H Q E h => ?_) (fun cdv A outer s H vs Q E hr h => ?_)
  · obtain ⟨t, a, b, c, s, L, n, rows, rfl, _⟩ := h
    rfl
  · obtain ⟨t, a, b, c, s, L, n, rows, rfl, hB, hO, ho, hS, hl, q⟩ := h
    refine ⟨_, (pss_cons (ps_asg (pv 0) (pg_tup rfl (pgs_cons (pg_name (i := 2) nd rfl (.inr rfl)) (pgs_cons (pg_name (i := 3) nd rfl (.inr rfl)) (pgs_cons (pg_name (i := 4) nd rfl (.inl rfl)) (pgs_cons (pg_name (i := 5) nd rfl (.inr rfl)) (pgs_cons (pg_name (i := 6) nd rfl (.inl rfl)) (pgs_cons (pg_name (i := 7) nd rfl (.inl rfl)) (pgs_cons (pg_name (i := 8) nd rfl (.inr rfl)) (pgs_cons (pg_name (i := 9) nd rfl (.inl rfl)) pgs_nil))))))))))
      (pss_cons (ps_set (i := 10) nd rfl (.inr rfl) (pe_lc (own := [("_law_at", 17)]) (g := gName 17) (tt := _) rfl nd (pi_list (pe_callB cr_sortedI (by rfl) T.m_sorted (by decide +kernel) (pa_cons (pv 6) pa_nil))) (blkOk_by (own := [("_law_at", 17)]) (N := Su.N__law_free) (sc := defScope s__law_free) (by decide +kernel)) (fun _ _ _ _ _ => (pg_name (i := 17) nd rfl (.inl rfl))) (fun _ _ _ _ _ => (pts_one (pt_cmpR op_eq (pe_op op_mod (pe_op op_add (pe_op op_fdiv (pe_ix (ix_listK (K := K) rfl) (pv 1) pe_int (fun _ _ => rfl)) pe_int) (pe_op op_mul (pv 17) (pe_ix (ix_listK (K := K) rfl) (pv 1) pe_int (fun _ _ => rfl)))) pe_int) pe_int (nomark _)))) (fun _ _ _ _ _ => (pv 17))))
      (pss_cons (ps_setLc (i := 11) (own := [("_law_at", 17)]) (g := gName 17) (tt := _) rfl nd rfl rfl (sw_true rfl rfl rfl (by decide +kernel)) (pi_list (pe_callB cr_sortedI (by rfl) T.m_sorted (by decide +kernel) (pa_cons (pv 9) pa_nil))) (blkOk_by (own := [("_law_at", 17)]) (N := Su.N__law_free) (sc := defScope s__law_free) (by decide +kernel)) (fun _ _ _ _ _ => (pg_name (i := 17) nd rfl (.inl rfl))) (fun _ _ _ _ _ => (pts_one (PW.pt (pw_and (pt_cmpR op_eq (pe_op op_mod (pe_op op_add (pe_op op_fdiv (pe_ix (ix_listK (K := K) rfl) (pv 1) pe_int (fun _ _ => rfl)) pe_int) (pe_op op_mul (pv 17) (pe_ix (ix_listK (K := K) rfl) (pv 1) pe_int (fun _ _ => rfl)))) pe_int) pe_int (nomark _)) (pw_and1 (pt_cmpR op_ge (pe_ix (ix_listK (K := K) rfl) (pv 8) (pv 17) (fun _ _ => rfl)) (pv 2) (nomark _))))))) (fun _ _ _ _ _ => (pv 17)))
      (pss_cons (ps_setLc (i := 12) (own := [("_law_at", 17)]) (g := gName 17) (tt := _) rfl nd rfl rfl (sw_true rfl rfl rfl (by decide +kernel)) (pi_list (pv 6)) (blkOk_by (own := [("_law_at", 17)]) (N := Su.N__law_free) (sc := defScope s__law_free) (by decide +kernel)) (fun _ _ _ _ _ => (pg_name (i := 17) nd rfl (.inl rfl))) (fun _ _ _ _ _ => (pts_one (pt_cmpR (op_notIn_seqK (K := K) rfl) (pv 17) (pv 10) rfl))) (fun _ _ _ _ _ => (pv 17)))
      (pss_cons (ps_set (i := 13) nd rfl (.inl rfl) (pe_op op_add (pe_callB call_len_seq (by rfl) T.m_len PySem.boot_len (pa_cons (pv 12) pa_nil)) (pe_callB call_len_seq (by rfl) T.m_len PySem.boot_len (pa_cons (pv 9) pa_nil))))
      (pss_cons (ps_if (PW.pt (pw_or (pt_cmpR op_gt (pe_op op_add (pv 7) (pe_callB call_len_seq (by rfl) T.m_len PySem.boot_len (pa_cons (pv 10) pa_nil))) pe_int (nomark _)) (pw_or1 (pt_cmpR op_eq (pe_callB call_len_seq (by rfl) T.m_len PySem.boot_len (pa_cons (pv 12) pa_nil)) pe_int (nomark _)))))
        (pss_one (ps_ret (pe_tup (pa_cons (pe_op op_add (pv 5) pe_int) (pa_cons pe_str (pa_cons (pe_un un_neg pe_int) (pa_cons (pe_op op_mul (pv 2) (pv 13)) (pa_cons pe_int (pa_cons (pv 10) (pa_cons (pv 11) pa_nil))))))))))
        pss_nil)
      (pss_cons (ps_setLc (i := 14) (own := [("_law_at", 17)]) (g := gName 17) (tt := _) rfl nd rfl rfl (sw_true rfl rfl rfl (by decide +kernel)) (pi_list (pv 12)) (blkOk_by (own := [("_law_at", 17)]) (N := Su.N__law_free) (sc := defScope s__law_free) (by decide +kernel)) (fun _ _ _ _ _ => (pg_name (i := 17) nd rfl (.inl rfl))) (fun _ _ _ _ _ => (pts_one (pt_cmpR op_ge (pe_ix (ix_listK (K := K) rfl) (pv 8) (pv 17) (fun _ _ => rfl)) (pe_op op_mul (pv 2) (pe_op op_sub (pe_op op_sub (pv 3) (pv 5)) pe_int)) (nomark _)))) (fun _ _ _ _ _ => (pv 17)))
      (pss_cons (ps_set (i := 15) nd rfl (.inl rfl) (pe_ix ix_list (pv 12) pe_int (fun _ _ => rfl)))
      (pss_cons (ps_set (i := 16) nd rfl (.inl rfl) pe_int)
      (pss_cut (ps_if (PW.pt (pw_and (pt_val (pv 4)) (pw_and1 (pt_cmpR op_gt (pe_callB call_len_seq (by rfl) T.m_len PySem.boot_len (pa_cons (pv 14) pa_nil)) pe_int (nomark _)))))
        (pss_cons (ps_set (i := 15) nd rfl (.inl rfl) (pe_ix ix_list (pv 14) (pe_op op_mod (pe_ix ix_list (pv 1) pe_int (fun _ _ => rfl)) (pe_callB call_len_seq (by rfl) T.m_len PySem.boot_len (pa_cons (pv 14) pa_nil))) (fun _ _ => rfl)))
          (pss_one (ps_if (pt_cmpR op_gt (pv 13) pe_int (nomark _))
            (pss_one (ps_set (i := 16) nd rfl (.inl rfl) (pe_op op_mod (pe_ix ix_list (pv 1) pe_int (fun _ _ => rfl)) (pe_op op_add (pe_op op_fdiv (pe_op op_mul (pv 2) (pv 3)) (pe_op op_sub (pv 13) pe_int)) pe_int))))
            pss_nil)))
        pss_nil)
      (pss_one (ps_ret (pe_tup (pa_cons (pe_op op_add (pv 5) pe_int) (pa_cons pe_str (pa_cons (pv 15) (pa_cons (pe_op op_sub (pe_op op_mul (pv 2) (pv 3)) (pe_op op_mul (pv 16) (pe_op op_sub (pv 13) pe_int))) (pa_cons (pv 16) (pa_cons (pv 10) (pa_cons (pv 11) pa_nil)))))))))))))))))))), ?_⟩
    have s1 := hO.s1
    have s2 := hO.s2
    have pn := hO.pn
    have bn1 := hO.n1
    have bn2 := hO.n2
    have hld := hO.ld
    have hd0 := hO.d0
    have heq := hO.eq
    have ho1 := hO.o1
    have hl0 : L.line.length ≤ 9 := by omega
    have hd9 : L.drew.length ≤ 9 := by omega
    have r0 : atI (rows.map V.int) 0 = some (.int (rows.getD (Int.toNat 0) 0)) := Su.at_rows (by omega) (by omega)
    have r1 : atI (rows.map V.int) 1 = some (.int (rows.getD (Int.toNat 1) 0)) := Su.at_rows (by omega) (by omega)
    have r2 : atI (rows.map V.int) 2 = some (.int (rows.getD (Int.toNat 2) 0)) := Su.at_rows (by omega) (by omega)
    have r3 : atI (rows.map V.int) 3 = some (.int (rows.getD (Int.toNat 3) 0)) := Su.at_rows (by omega) (by omega)
    generalize rows.getD (Int.toNat 0) 0 = z0 at r0
    generalize rows.getD (Int.toNat 1) 0 = z1 at r1
    generalize rows.getD (Int.toNat 2) 0 = z2 at r2
    generalize rows.getD (Int.toNat 3) 0 = z3 at r3
    have ix : ∀ {H2 : Hp} {σ : L2.St} {j : Int} {v : V}, Ex H H2 → σ[1]? = some (some (.ref s)) → atI (rows.map V.int) j = some v → Ev (tOp (rIxL K) (tVar 1) (tC (.int j))) σ H2 v := fun e g hv => ev_op (ev_var g) ev_c (rv_ixL (ex_l e hS) hv)
    refine q_asgXg ((ev_var rfl) H (Ex.refl _) _ fun H1 e1 => tg_8 (K := K) (st_of (e1 _ _ hB.ht)) H1 (Ex.refl _) _ ?_)
    show tSeq _ _ _ [some (.ref t), some (.ref s), some (.int L.stake), some (.int (L.pl.length : Int)), some (.bl L.bid), some (.int (L.opn - 1)), some (.ref a), some (.int L.due), some (.ref b), some (.ref c), none, none, none, none, none, none, none, none] _
    have hsl : ∀ {l : List Int}, (sortI l).length = l.length := (sortI_perm _).length_eq
    have hsm : ∀ {l : List Int} {x : Int}, x ∈ sortI l ↔ x ∈ l := (sortI_perm _).mem_iff
    -- the fallen
    obtain ⟨fal, hfal⟩ : ∃ fal, fal = (sortI L.line).filter fun x => decide ((z0 / 3 + x * z0) % 5 = 1) := ⟨_, rfl⟩
    refine q_asgX (lc_first (el_sortedI (ev_var rfl) (sq_of (e1 _ _ hB.ha))) fun pw H2 hpw e2 h2 => ?_)
    have e12 := e1.trans e2
    refine el_go (xs := fal.map V.int) (by
      rw [hfal, ← given_filter]
      rw [show (sortI L.line).length = ((sortI L.line).map V.int).length by rw [List.length_map]]
      refine el_lcL _ _ ev_c (sq_of h2) (by rw [List.length_map, hsl]; omega) (fun x => rfl) (fun j x Hb eb gx => ?_) (fun j x Hb eb gx _ => ?_)
      · obtain ⟨z, rfl, gz⟩ := ints_get gx
        rw [show (sortI L.line).getD j 0 = z by rw [List.getD_eq_getElem?_getD, gz]; rfl]
        have hz := hO.lr z (hsm.mp (List.mem_of_getElem? gz))
        have eb2 := e12.trans eb
        exact et_is (et_test (ev_op (ev_op (ev_op (ev_op (ix eb2 rfl r0) ev_c (Su.rv_div (by decide) (by decide))) (ev_op (ev_var rfl) (ix eb2 rfl r0) (Su.rv_mul (Su.CMul.l (by omega) (by omega)))) rv_I0) ev_c (Su.rv_mod (by decide))) ev_c (rv_eq rfl))) int_eq
      · obtain ⟨z, rfl, gz⟩ := ints_get gx
        rw [show (sortI L.line).getD j 0 = z by rw [List.getD_eq_getElem?_getD, gz]; rfl]
        exact ev_var rfl) fun pf H3 hpf e3 h3 => ?_
    have e13 := e12.trans e3
    show tSeq _ _ _ [some (.ref t), some (.ref s), some (.int L.stake), some (.int (L.pl.length : Int)), some (.bl L.bid), some (.int (L.opn - 1)), some (.ref a), some (.int L.due), some (.ref b), some (.ref c), some (.ref pf), none, none, none, none, none, none, none] _
    -- the helped
    obtain ⟨hlp, hhlp⟩ : ∃ hlp, hlp = (sortI L.drew).filter fun x => decide ((z1 / 3 + x * z1) % 3 = 1) && decide (L.pl.getD x.toNat 0 ≥ L.stake) := ⟨_, rfl⟩
    refine q_asgX (lc_first (el_sortedI (ev_var rfl) (sq_of (e13 _ _ hB.hc))) fun pw2 H4 hpw2 e4 h4 => ?_)
    have e14 := e13.trans e4
    refine el_go (xs := hlp.map V.int) (by
      rw [hhlp, ← given_filter]
      rw [show (sortI L.drew).length = ((sortI L.drew).map V.int).length by rw [List.length_map]]
      refine el_lcL _ _ ev_c (sq_of h4) (by rw [List.length_map, hsl]; omega) (fun x => rfl) (fun j x Hb eb gx => ?_) (fun j x Hb eb gx _ => ?_)
      · obtain ⟨z, rfl, gz⟩ := ints_get gx
        rw [show (sortI L.drew).getD j 0 = z by rw [List.getD_eq_getElem?_getD, gz]; rfl]
        have hz := hO.dr z (hsm.mp (List.mem_of_getElem? gz))
        have eb2 := e14.trans eb
        exact et_and (et_is (et_test (ev_op (ev_op (ev_op (ev_op (ix eb2 rfl r1) ev_c (Su.rv_div (by decide) (by decide))) (ev_op (ev_var rfl) (ix eb2 rfl r1) (Su.rv_mul (Su.CMul.l (by omega) (by omega)))) rv_I0) ev_c (Su.rv_mod (by decide))) ev_c (rv_eq rfl))) int_eq) fun _ => et_test (ev_op (ev_op (ev_var rfl) (ev_var rfl) (rv_ixL (sq_of (eb2 _ _ hB.hb)) (int_at2 (i := z.toNat) (by omega) (by omega)))) (ev_var rfl) rv_I0)
      · obtain ⟨z, rfl, gz⟩ := ints_get gx
        rw [show (sortI L.drew).getD j 0 = z by rw [List.getD_eq_getElem?_getD, gz]; rfl]
        exact ev_var rfl) fun pg H5 hpg e5 h5 => ?_
    have e15 := e14.trans e5
    have h3 := (e4.trans e5) _ _ h3
    have fl : ∀ x ∈ fal, x ∈ L.line := fun x hx => by rw [hfal] at hx; exact hsm.mp (List.mem_filter.mp hx).1
    have fn : fal.Nodup := by rw [hfal]; exact ((sortI_perm _).nodup_iff.mpr hO.ln).filter _
    have hlm : ∀ x ∈ hlp, x ∈ L.drew := fun x hx => by rw [hhlp] at hx; exact hsm.mp (List.mem_filter.mp hx).1
    have hll : hlp.length ≤ 9 := by
      rw [hhlp]
      have := List.length_filter_le (fun x => decide ((z1 / 3 + x * z1) % 3 = 1) && decide (L.pl.getD x.toNat 0 ≥ L.stake)) (sortI L.drew)
      rw [hsl] at this
      omega
    clear hhlp
    show tSeq _ _ _ [some (.ref t), some (.ref s), some (.int L.stake), some (.int (L.pl.length : Int)), some (.bl L.bid), some (.int (L.opn - 1)), some (.ref a), some (.int L.due), some (.ref b), some (.ref c), some (.ref pf), some (.ref pg), none, none, none, none, none, none] _
    -- the others
    obtain ⟨st, hst⟩ : ∃ st, st = L.line.filter fun x => decide (x ∉ fal) := ⟨_, rfl⟩
    refine q_asgL (xs := st.map V.int) (by
      rw [hst, ← given_filter]
      rw [show L.line.length = (L.line.map V.int).length by rw [List.length_map]]
      refine el_lcL _ _ (ev_var rfl) (sq_of (e15 _ _ hB.ha)) (by rw [List.length_map]; omega) (fun x => rfl) (fun j x Hb eb gx => ?_) (fun j x Hb eb gx _ => ?_)
      · obtain ⟨z, rfl, gz⟩ := ints_get gx
        rw [show L.line.getD j 0 = z by rw [List.getD_eq_getElem?_getD, gz]; rfl]
        exact et_is (et_test (ev_op (ev_var rfl) (ev_var rfl) (rv_niL (sq_of (eb _ _ h3)) rfl flat_ints))) (by rw [inV_int]; by_cases c : z ∈ fal <;> simp [c])
      · obtain ⟨z, rfl, gz⟩ := ints_get gx
        rw [show L.line.getD j 0 = z by rw [List.getD_eq_getElem?_getD, gz]; rfl]
        exact ev_var rfl) fun ps H6 hps e6 h6 => ?_
    have hstl : st.length + fal.length = L.line.length := by rw [hst]; exact filt_diff hO.ln fn fl
    show tSeq _ _ _ [some (.ref t), some (.ref s), some (.int L.stake), some (.int (L.pl.length : Int)), some (.bl L.bid), some (.int (L.opn - 1)), some (.ref a), some (.int L.due), some (.ref b), some (.ref c), some (.ref pf), some (.ref pg), some (.ref ps), none, none, none, none, none] _
    have e16 := e15.trans e6
    obtain ⟨u, hu⟩ : ∃ u : Int, u = (st.length : Int) + (L.drew.length : Int) := ⟨_, rfl⟩
    refine q_asg (v := .int u) (ev_is (ev_op (ev_len (ev_var rfl) (sq_of h6)) (ev_len (ev_var rfl) (sq_of (e16 _ _ hB.hc))) rv_I0) (by rw [List.length_map, List.length_map, hu])) fun H7 e7 => ?_
    have e17 := e16.trans e7
    have h6 := e7 _ _ h6
    have h3 := (e6.trans e7) _ _ h3
    have h5 := (e6.trans e7) _ _ h5
    have pf0 := fresh_back e12 hpf
    have pg0 := fresh_back e14 hpg
    show tSeq _ _ _ [some (.ref t), some (.ref s), some (.int L.stake), some (.int (L.pl.length : Int)), some (.bl L.bid), some (.int (L.opn - 1)), some (.ref a), some (.int L.due), some (.ref b), some (.ref c), some (.ref pf), some (.ref pg), some (.ref ps), some (.int u), none, none, none, none] _
    have hpot : 0 ≤ L.stake * (n : Int) := Int.mul_nonneg (by omega) (by omega)
    refine q_when (b := decide (L.due + (fal.length : Int) > 0) || decide ((st.length : Int) = 0)) (et_or (et_test (ev_op (ev_op (ev_var rfl) (ev_is (ev_len (ev_var rfl) (sq_of h3)) (by rw [List.length_map])) rv_I0) ev_c rv_I0)) fun _ => et_is (et_test (ev_op (ev_is (ev_len (ev_var rfl) (sq_of h6)) (by rw [List.length_map])) ev_c (rv_eq rfl))) int_eq) (fun hb H8 e8 => ?_) (fun hb H8 e8 => ?_)
    · have hdue : L.due + (fal.length : Int) > 0 := by
        by_cases c : L.due + (fal.length : Int) > 0
        · exact c
        · rw [decide_eq_false c, Bool.false_or, decide_eq_true_eq] at hb
          omega
      refine s_retU (eu_tup (ea_cons (ev_op (ev_var rfl) ev_c rv_I0) (ea_cons ev_c (ea_cons (ev_un ev_c ru_neg) (ea_cons (ev_op (ev_var rfl) (ev_var rfl) (Su.rv_mul (Su.CMul.r (by omega) (by omega)))) (ea_cons ev_c (ea_cons (ev_var rfl) (ea_cons (ev_var rfl) ea_nil))))))) (by show 7 ≤ 100000; decide)) fun t' H9 ht' e9 h9 => ?_
      exact q H9 t' pf pg ⟨L.opn - 1 + 1, "box", -1, L.stake * u, 0, fal, hlp⟩ ((e17.trans e8).trans e9) (fresh_back (e17.trans e8) ht') pf0 pg0 ⟨h9, (e8.trans e9) _ _ h3, (e8.trans e9) _ _ h5, (by show PyData.strOk ("box" : Str) = true; decide +kernel)⟩ ⟨.inl rfl, fl, fn, hlm, by show hlp.length ≤ 100; omega, fun _ => rfl, fun z => absurd hdue z⟩
    rw [Bool.or_eq_false_iff, decide_eq_false_iff_not, decide_eq_false_iff_not] at hb
    have hf0 : fal = [] := List.length_eq_zero_iff.mp (by omega)
    have hst2 : st = L.line := by rw [hst, hf0]; simp
    have e18 := e17.trans e8
    have h8 := e8 _ _ h6
    refine q_asgL (xs := (st.filter fun x => decide (L.pl.getD x.toNat 0 ≥ L.stake * ((L.pl.length : Int) - (L.opn - 1) - 1))).map V.int) (by
      rw [← given_filter]
      rw [show st.length = (st.map V.int).length by rw [List.length_map]]
      refine el_lcL _ _ (ev_var rfl) (sq_of h8) (by rw [List.length_map]; omega) (fun x => rfl) (fun j x Hb eb gx => ?_) (fun j x Hb eb gx _ => ?_)
      · obtain ⟨z, rfl, gz⟩ := ints_get gx
        rw [show st.getD j 0 = z by rw [List.getD_eq_getElem?_getD, gz]; rfl]
        have hz := hO.lr z (by rw [← hst2]; exact List.mem_of_getElem? gz)
        exact et_test (ev_op (ev_op (ev_var rfl) (ev_var rfl) (rv_ixL (sq_of ((e18.trans eb) _ _ hB.hb)) (int_at2 (i := z.toNat) (by omega) (by omega)))) (ev_op (ev_var rfl) (ev_op (ev_op (ev_var rfl) (ev_var rfl) rv_I0) ev_c rv_I0) (Su.rv_mul (Su.CMul.r (by omega) (by omega)))) rv_I0)
      · obtain ⟨z, rfl, gz⟩ := ints_get gx
        rw [show st.getD j 0 = z by rw [List.getD_eq_getElem?_getD, gz]; rfl]
        exact ev_var rfl) fun pb H9 hpb e9 h9 => ?_
    obtain ⟨ab, hab⟩ : ∃ ab, ab = st.filter fun x => decide (L.pl.getD x.toNat 0 ≥ L.stake * ((L.pl.length : Int) - (L.opn - 1) - 1)) := ⟨_, rfl⟩
    rw [← hab] at h9
    have habm : ∀ x ∈ ab, x ∈ L.line := fun x hx => by rw [hab] at hx; rw [← hst2]; exact (List.mem_filter.mp hx).1
    have habl : ab.length ≤ 9 := by
      rw [hab]
      have := List.length_filter_le (fun x => decide (L.pl.getD x.toNat 0 ≥ L.stake * ((L.pl.length : Int) - (L.opn - 1) - 1))) st
      omega
    have e19 := e18.trans e9
    have h8 := e9 _ _ h8
    refine q_asg (v := .int (st.getD 0 0)) (ev_op (ev_var rfl) ev_c (rv_ixL (sq_of h8) (int_at2 (i := 0) rfl (by omega)))) fun H10 e10 => ?_
    refine q_asg (v := .int 0) ev_c fun H11 e11 => ?_
    have e111 := (e19.trans e10).trans e11
    have h9 := (e10.trans e11) _ _ h9
    have h0in : st.getD 0 0 ∈ L.line := by
      rw [← hst2, List.getD_eq_getElem?_getD, List.getElem?_eq_getElem (show 0 < st.length by omega)]
      exact List.getElem_mem _
    refine q_cut (M := fun σ' H' => ∃ here share : Int, σ' = [some (.ref t), some (.ref s), some (.int L.stake), some (.int (L.pl.length : Int)), some (.bl L.bid), some (.int (L.opn - 1)), some (.ref a), some (.int L.due), some (.ref b), some (.ref c), some (.ref pf), some (.ref pg), some (.ref ps), some (.int u), some (.ref pb), some (.int here), some (.int share), none] ∧ Ex H H' ∧ Ex H7 H' ∧ here ∈ L.line) ?_ ?_
    · refine s_when (b := L.bid && decide ((ab.length : Int) > 0)) (et_and (et_B (ev_var rfl)) fun _ => et_test (ev_op (ev_is (ev_len (ev_var rfl) (sq_of h9)) (by rw [List.length_map])) ev_c rv_I0)) (fun hb2 H12 e12 => ?_) (fun hb2 H12 e12 => ?_)
      · rw [Bool.and_eq_true, decide_eq_true_eq] at hb2
        have m0 := Int.emod_nonneg z2 (show (ab.length : Int) ≠ 0 by omega)
        have m1 := Int.emod_lt_of_pos z2 (show 0 < (ab.length : Int) by omega)
        refine q_asg (v := .int (ab.getD (z2 % (ab.length : Int)).toNat 0)) (ev_op (ev_var rfl) (ev_op (ix (e111.trans e12) rfl r2) (ev_is (ev_len (ev_var rfl) (sq_of (e12 _ _ h9))) (by rw [List.length_map])) (Su.rv_mod (by omega))) (rv_ixL (sq_of (e12 _ _ h9)) (int_at2 (i := (z2 % (ab.length : Int)).toNat) (by omega) (by omega)))) fun H13 e13 => ?_
        have hin : ab.getD (z2 % (ab.length : Int)).toNat 0 ∈ L.line := by
          refine habm _ ?_
          rw [List.getD_eq_getElem?_getD, List.getElem?_eq_getElem (show (z2 % (ab.length : Int)).toNat < ab.length by omega)]
          exact List.getElem_mem _
        have e113 := (e111.trans e12).trans e13
        have e7_13 := (((((e8.trans e9).trans e10).trans e11).trans e12).trans e13)
        refine s_when (b := decide (u > 1)) (et_test (ev_op (ev_var rfl) ev_c rv_I0)) (fun hb3 H14 e14 => ?_) (fun hb3 H14 e14 => ?_)
        · have hu1 := of_decide_eq_true hb3
          have q0 : 0 ≤ L.stake * (L.pl.length : Int) / (u - 1) := Int.ediv_nonneg (by rw [pn]; exact hpot) (by omega)
          refine s_asg (ev_op (ix (e113.trans e14) rfl r3) (ev_op (ev_op (ev_op (ev_var rfl) (ev_var rfl) (Su.rv_mul (Su.CMul.r (by omega) (by omega)))) (ev_op (ev_var rfl) ev_c rv_I0) (Su.rv_div (by omega) (by omega))) ev_c rv_I0) (Su.rv_mod (by omega))) fun H15 e15 => ⟨_, _, rfl, (e113.trans e14).trans e15, (e7_13.trans e14).trans e15, hin⟩
        · exact ⟨_, _, rfl, e113.trans e14, e7_13.trans e14, hin⟩
      · exact ⟨_, _, rfl, e111.trans e12, ((((e8.trans e9).trans e10).trans e11).trans e12), h0in⟩
    rintro _ H12 ⟨here, share, rfl, e112, e712, hin⟩
    refine s_retU (eu_tup (ea_cons (ev_op (ev_var rfl) ev_c rv_I0) (ea_cons ev_c (ea_cons (ev_var rfl) (ea_cons (ev_op (ev_op (ev_var rfl) (ev_var rfl) (Su.rv_mul (Su.CMul.r (by omega) (by omega)))) (ev_op (ev_var rfl) (ev_op (ev_var rfl) ev_c rv_I0) (Su.rv_mul (Su.CMul.r (by omega) (by omega)))) rv_I0) (ea_cons (ev_var rfl) (ea_cons (ev_var rfl) (ea_cons (ev_var rfl) ea_nil))))))) (by show 7 ≤ 100000; decide)) fun t' H13 ht' e13 h13 => ?_
    exact q H13 t' pf pg ⟨L.opn - 1 + 1, "draw", here, _, share, fal, hlp⟩ (e112.trans e13) (fresh_back e112 ht') pf0 pg0 ⟨h13, (e712.trans e13) _ _ h3, (e712.trans e13) _ _ h5, (by show PyData.strOk ("draw" : Str) = true; decide +kernel)⟩ ⟨.inr rfl, fl, fn, hlm, by show hlp.length ≤ 100; omega, fun z => absurd z hb.1, fun _ => hin⟩
end

end Su
namespace Su
/-! ### a report spoilt, reports bent, the first wrong one by the law's own books -/
section
variable {P : Program} {w : World} {K : PySem.W.Frag} {mg : Str → Option Value} {base : Heap}
def rowV (p1 p2 : Addr) (R : RepM) : List V := [.int R.turn, .str R.kind, .int R.who, .int R.coins, .int R.share, .ref p1, .ref p2]
structure RowAt (H : Hp) (l p1 p2 : Addr) (R : RepM) : Prop where
  h0 : H l = some (.lst (rowV p1 p2 R))
  h1 : H p1 = some (.lst (R.fal.map V.int))
  h2 : H p2 = some (.lst (R.hlp.map V.int))
  ks : PyData.strOk R.kind = true
  n1 : p1 ≠ l
  n2 : p2 ≠ l
  n12 : p1 ≠ p2
theorem RowAt.ex {H H' : Hp} {l p1 p2 : Addr} {R : RepM} (h : RowAt H l p1 p2 R) (e : Ex H H') : RowAt H' l p1 p2 R := ⟨e _ _ h.h0, e _ _ h.h1, e _ _ h.h2, h.ks, h.n1, h.n2, h.n12⟩
theorem RowAt.put {H : Hp} {l p1 p2 : Addr} {R R' : RepM} {xs : List V} (h : RowAt H l p1 p2 R) (hx : xs = rowV p1 p2 R') (hf : R'.fal = R.fal) (hg : R'.hlp = R.hlp) (hk : PyData.strOk R'.kind = true) : RowAt (upd H l (.lst xs)) l p1 p2 R' :=
  ⟨by rw [upd_same, hx], by rw [upd_ne h.n1, hf]; exact h.h1, by rw [upd_ne h.n2, hg]; exact h.h2, hk, h.n1, h.n2, h.n12⟩
def SpoilM (H : Hp) (t l : Addr) (way raw : Int) (n b : Nat) : L2.St → Hp → Prop := fun σ' H' => ∃ (p1 p2 : Addr) (R : RepM), σ' = [some (.ref t), some (.int way), some (.int raw), some (.int (n : Int)), some (.ref l)] ∧ Ex H H' ∧ H p1 = none ∧ H p2 = none ∧ RowAt H' l p1 p2 R ∧ R.fal.length ≤ b ∧ R.hlp.length ≤ b
theorem cut_ints {l : List Int} {lo hi : Option Int} : ∃ m : List Int, cutV (l.map V.int) lo hi = m.map V.int ∧ m.length ≤ l.length := by
  refine ⟨(l.drop (HT.sIx (l.map V.int).length 0 lo)).take (HT.sIx (l.map V.int).length (l.map V.int).length hi - HT.sIx (l.map V.int).length 0 lo), ?_, ?_⟩
  · unfold cutV
    rw [List.map_take, List.map_drop]
  · rw [List.length_take, List.length_drop]
    omega
theorem s_setN {σ : L2.St} {H : Hp} {D : Ends} {l : Addr} {xs ys : List V} {z : Int} {j : Nat} {te ta tb : TE} (hl : H l = some (.lst xs)) (h : EvL te σ H ys) (ho : Ev ta σ H (.ref l)) (hi : Ev tb σ H (.int z)) (hz : ixN xs.length z = some j) (k : ∀ p H1, H p = none → Ex H H1 → H1 p = some (.lst ys) → D.nx σ (upd H1 l (.lst (xs.set j (.ref p))))) : tAsg te (gSub ta tb rSetL) D σ H :=
  h H (Ex.refl H) _ fun p H1 hp e1 h1 => ho H1 e1 _ fun H2 e2 => hi H2 (e1.trans e2) _ fun H3 e3 => ⟨l, xs, z, j, rfl, rfl, ((e1.trans e2).trans e3) _ _ hl, hz, k p H3 hp ((e1.trans e2).trans e3) ((e2.trans e3) _ _ h1)⟩
theorem q_setN {σ : L2.St} {H : Hp} {D : Ends} {tz : TS} {l : Addr} {xs ys : List V} {z : Int} {j : Nat} {te ta tb : TE} (hl : H l = some (.lst xs)) (h : EvL te σ H ys) (ho : Ev ta σ H (.ref l)) (hi : Ev tb σ H (.int z)) (hz : ixN xs.length z = some j) (k : ∀ p H1, H p = none → Ex H H1 → H1 p = some (.lst ys) → tz D σ (upd H1 l (.lst (xs.set j (.ref p))))) : tSeq (tAsg te (gSub ta tb rSetL)) tz D σ H := s_setN (D := { D with nx := tz D }) hl h ho hi hz k
theorem q_app2 {σ : L2.St} {H : Hp} {D : Ends} {tz : TS} {l : Addr} {xs : List V} {v : V} {ta te : TE} (hl : H l = some (.lst xs)) (ha : Ev ta σ H (.ref l)) (h : Ev te σ H v) (hz : xs.length < 100000) (k : ∀ H1, Ex H H1 → tz D σ (upd H1 l (.lst (xs ++ [v])))) : tSeq (tDrop (tBM K "list" rAppend ta (tCons te tNil))) tz D σ H := s_app (D := { D with nx := tz D }) hl ha h hz k
theorem s_asgX2 {σ : L2.St} {H : Hp} {D : Ends} {i : Nat} {te : TE} (k : te σ H fun v H1 => D.nx (σ.set i (some v)) H1) : tAsg te (gName i) D σ H := k
theorem el_catR {σ : L2.St} {H : Hp} {ta tb : TE} {a : Addr} {xs ys : List V} (ha : Ev ta σ H (.ref a)) (hx : H a = some (.lst xs)) (hb : EvL tb σ H ys) (hz : xs.length + ys.length ≤ 100000) : EvL (tOp rCat ta tb) σ H (xs ++ ys) := fun H1 e Q q =>
  ha H1 e _ fun H2 e2 => hb H2 (e.trans e2) _ fun p H3 hp e3 h3 => ⟨a, p, xs, ys, rfl, rfl, ((e.trans e2).trans e3) _ _ hx, h3, sz_of hz, fun r hr => q r _ (fresh_back (e2.trans e3) hr) ((e2.trans e3).trans (Ex.new hr)) upd_same⟩
def spSpoilt (K : PySem.W.Frag) : Sp := fun vs H Q _ => ∃ (t pf pg : Addr) (R : RepM) (way raw : Int) (n : Nat), vs = [.ref t, .int way, .int raw, .int (n : Int)] ∧ RepAt H t pf pg R ∧ (R.kind = ("box" : Str) ∨ R.kind = ("draw" : Str)) ∧ 2 ≤ n ∧ n ≤ 9 ∧ R.fal.length ≤ 100 ∧ R.hlp.length ≤ 100 ∧ ∀ H' t' pf' pg' R', Ex H H' → H t' = none → H pf' = none → H pg' = none → RepAt H' t' pf' pg' R' → R'.fal.length ≤ 1000 → R'.hlp.length ≤ 1000 → Q (.ref t') H'
set_option maxHeartbeats 8000000 in
theorem ok__law_spoilt (T : Top K mg) {k : Nat} : FnOk P w K mg base CX0 (k + 1) T.f__law_spoilt T.fd__law_spoilt ["_law_report", "_law_way", "_law_raw", "_law_size"] (spSpoilt K) := by
  have nd := sc__law_spoilt.nd
  refine T.F__law_spoilt.ok sc__law_spoilt (fun vs H Q E h => ?_) (fun cdv A outer s H vs Q E hr h => ?_)
  · obtain ⟨t, pf, pg, R, way, raw, n, rfl, _⟩ := h
    rfl
  · obtain ⟨t, pf, pg, R, way, raw, n, rfl, hR, hk, n1, n2, l1, l2, q⟩ := h
    refine ⟨_, (pss_cons (ps_set (i := 4) nd rfl (.inl rfl) (pe_lst (pa_cons (pe_ix ix_tup (pv 0) pe_int (fun _ _ => rfl)) (pa_cons (pe_ix ix_tup (pv 0) pe_int (fun _ _ => rfl)) (pa_cons (pe_ix ix_tup (pv 0) pe_int (fun _ _ => rfl)) (pa_cons (pe_ix ix_tup (pv 0) pe_int (fun _ _ => rfl)) (pa_cons (pe_ix ix_tup (pv 0) pe_int (fun _ _ => rfl)) (pa_cons (pe_callTy call_list_of (by rfl) T.m_list (by decide +kernel) (pa_cons (pe_ix ix_tup (pv 0) pe_int (fun _ _ => rfl)) pa_nil)) (pa_cons (pe_callTy call_list_of (by rfl) T.m_list (by decide +kernel) (pa_cons (pe_ix ix_tup (pv 0) pe_int (fun _ _ => rfl)) pa_nil)) pa_nil)))))))))
      (pss_cut (ps_if (pt_cmpR op_eq (pv 1) pe_int (nomark _))
        (pss_one (ps_augS (pv 4) pe_int get_list (pe_ix ix_list (pe_lst (pa_cons pe_int (pa_cons (pe_un un_neg pe_int) (pa_cons (pv 3) pa_nil)))) (pe_op op_mod (pv 2) pe_int) (fun _ _ => rfl)) ip_add set_list))
        pss_nil)
      (pss_cut (ps_if (pt_cmpR op_eq (pv 1) pe_int (nomark _))
        (pss_one (ps_asg (pe_ix ix_list (pe_lst (pa_cons (pe_dget (hu_of hr) (pe_disp (pps_cons pe_str pe_str (pps_cons pe_str pe_str pps_nil)) rfl rfl (by simp) (by decide)) (pe_ix ix_tup (pv 0) pe_int (fun _ _ => rfl)) (fun _ _ => rfl)) (pa_cons pe_str (pa_cons pe_str (pa_cons pe_str pa_nil))))) (pe_op op_mod (pv 2) pe_int) (fun _ _ => rfl)) (pg_sub (pv 4) pe_int set_list)))
        pss_nil)
      (pss_cut (ps_if (pt_cmpR op_eq (pv 1) pe_int (nomark _))
        (pss_one (ps_asg (pe_ix ix_list (pe_lst (pa_cons (pe_un un_neg pe_int) (pa_cons (pe_op op_mod (pe_op op_fdiv (pv 2) pe_int) (pv 3)) (pa_cons (pv 3) (pa_cons (pe_un un_neg pe_int) pa_nil))))) (pe_op op_mod (pv 2) pe_int) (fun _ _ => rfl)) (pg_sub (pv 4) pe_int set_list)))
        pss_nil)
      (pss_cut (ps_if (pt_cmpR op_eq (pv 1) pe_int (nomark _))
        (pss_one (ps_augS (pv 4) pe_int get_list (pe_ix ix_list (pe_lst (pa_cons pe_int (pa_cons (pe_un un_neg pe_int) (pa_cons pe_int (pa_cons (pe_op op_sub (pe_un un_neg (pe_ix ix_list (pv 4) pe_int (fun _ _ => rfl))) pe_int) pa_nil))))) (pe_op op_mod (pv 2) pe_int) (fun _ _ => rfl)) ip_add set_list))
        pss_nil)
      (pss_cut (ps_if (pt_cmpR op_eq (pv 1) pe_int (nomark _))
        (pss_one (ps_augS (pv 4) pe_int get_list (pe_ix ix_list (pe_lst (pa_cons pe_int (pa_cons (pe_un un_neg pe_int) (pa_cons pe_int (pa_cons (pe_un un_neg pe_int) pa_nil))))) (pe_op op_mod (pv 2) pe_int) (fun _ _ => rfl)) ip_add set_list))
        pss_nil)
      (pss_cut (ps_if (PW.pt (pw_or (pt_cmpR op_eq (pv 1) pe_int (nomark _)) (pw_or1 (pt_cmpR op_eq (pv 1) pe_int (nomark _)))))
        (pss_cons (ps_expr (pe_bm PySem.F.plainAttrs_list PySem.F.slot_list_append PySem.F.type_list_append mt_append (pe_ix ix_list (pv 4) (pv 1) (fun _ _ => rfl)) (pa_cons (pe_op op_sub (pe_op op_mod (pe_op op_fdiv (pv 2) pe_int) (pe_op op_add (pv 3) pe_int)) pe_int) pa_nil)))
          (pss_one (ps_if (pt_cmpR op_gt (pe_op op_mod (pv 2) pe_int) pe_int (nomark _))
            (pss_one (ps_asg (pe_callB cr_sortedI (by rfl) T.m_sorted (by decide +kernel) (pa_cons (pe_ix ix_list (pv 4) (pv 1) (fun _ _ => rfl)) pa_nil)) (pg_sub (pv 4) (pv 1) set_list)))
            pss_nil)))
        pss_nil)
      (pss_cut (ps_if (pt_cmpR op_eq (pv 1) pe_int (nomark _))
        (pss_one (ps_asg (pe_slice sl_list (pe_ix ix_list (pv 4) pe_int (fun _ _ => rfl)) (po_some pe_int) po_none) (pg_sub (pv 4) pe_int set_list)))
        pss_nil)
      (pss_cut (ps_if (pt_cmpR op_eq (pv 1) pe_int (nomark _))
        (pss_cons (ps_asg (pe_back (pe_ix ix_list (pv 4) pe_int (fun _ _ => rfl)) (pe_un un_neg pe_int)) (pg_sub (pv 4) pe_int set_list))
          (pss_one (ps_asg (pe_back (pe_ix ix_list (pv 4) pe_int (fun _ _ => rfl)) (pe_un un_neg pe_int)) (pg_sub (pv 4) pe_int set_list))))
        pss_nil)
      (pss_cut (ps_if (pt_cmpR op_eq (pv 1) pe_int (nomark _))
        (pss_one (ps_asg (pe_op op_cat (pe_ix ix_list (pv 4) pe_int (fun _ _ => rfl)) (pe_slice sl_list (pe_ix ix_list (pv 4) pe_int (fun _ _ => rfl)) (po_some (pe_un un_neg pe_int)) po_none)) (pg_sub (pv 4) pe_int set_list)))
        pss_nil)
      (pss_one (ps_ret (pe_callTy call_tuple_of (by rfl) T.m_tuple (by decide +kernel) (pa_cons (pv 4) pa_nil)))))))))))))), ?_⟩
    have rx : ∀ {H2 : Hp} {σ : L2.St} {j : Int} {v : V}, Ex H H2 → σ[0]? = some (some (.ref t)) → atI [V.int R.turn, .str R.kind, .int R.who, .int R.coins, .int R.share, .ref pf, .ref pg] j = some v → Ev (tOp (rIxT K) (tVar 0) (tC (.int j))) σ H2 v := fun e g hv => ev_op (ev_var g) ev_c (rv_ixT (st_of (e _ _ hR.ht)) hv)
    have hw : ∀ {z m : Int}, 0 < m → 0 ≤ z % m ∧ z % m < m := fun {z m} h => ⟨Int.emod_nonneg _ (by omega), Int.emod_lt_of_pos _ h⟩
    -- the row
    refine q_asgX (te_lst (ta_consX ?_))
    refine (rx (Ex.refl _) rfl rfl) H (Ex.refl _) _ fun H1 e1 => ta_consX ((rx e1 rfl rfl) H1 (Ex.refl _) _ fun H2 e2 => ta_consX ((rx (e1.trans e2) rfl rfl) H2 (Ex.refl _) _ fun H3 e3 => ta_consX ((rx ((e1.trans e2).trans e3) rfl rfl) H3 (Ex.refl _) _ fun H4 e4 => ta_consX ((rx (((e1.trans e2).trans e3).trans e4) rfl rfl) H4 (Ex.refl _) _ fun H5 e5 => ?_))))
    have e15 := (((e1.trans e2).trans e3).trans e4).trans e5
    refine ta_consX (el_go (el_list (rx e15 rfl rfl) (sq_of (e15 _ _ hR.hf))) fun p1 H6 hp1 e6 h6 => ta_consX (el_go (el_list (rx (e15.trans e6) rfl rfl) (sq_of ((e15.trans e6) _ _ hR.hg))) fun p2 H7 hp2 e7 h7 => ta_all (vs := []) ea_nil fun H8 e8 => ⟨by show 7 ≤ sizeLine; decide, fun l hl => ?_⟩))
    have e18 := ((e15.trans e6).trans e7).trans e8
    have hrow : RowAt (upd H8 l (.lst (rowV p1 p2 R))) l p1 p2 R := by
      have k1 := (e7.trans e8) _ _ h6
      have k2 := e8 _ _ h7
      have m1 : p1 ≠ l := fun z => by rw [z, hl] at k1; cases k1
      have m2 : p2 ≠ l := fun z => by rw [z, hl] at k2; cases k2
      exact ⟨upd_same, by rw [upd_ne m1]; exact k1, by rw [upd_ne m2]; exact k2, hR.ks, m1, m2, fun z => by rw [← z, h6] at hp2; cases hp2⟩
    have hlH : H l = none := fresh_back e18 hl
    have start : SpoilM H t l way raw n 100 [some (.ref t), some (.int way), some (.int raw), some (.int (n : Int)), some (.ref l)] (upd H8 l (.lst (rowV p1 p2 R))) := ⟨p1, p2, R, rfl, e18.trans (Ex.new hl), fresh_back e15 hp1, fresh_back (e15.trans e6) hp2, hrow, l1, l2⟩
    have isw : ∀ {z : Int} {σ : L2.St} {H1 : Hp}, σ[1]? = some (some (.int way)) → EvT (tTest (tOp rEq (tVar 1) (tC (.int z)))) σ H1 (decide (way = z)) := fun g => et_is (et_test (ev_op (ev_var g) ev_c (rv_eq rfl))) int_eq
    show tCut _ _ _ [some (.ref t), some (.int way), some (.int raw), some (.int (n : Int)), some (.ref l)] (upd H8 l (.lst (rowV p1 p2 R)))
    clear hrow e18 e15 h6 h7 hp1 hp2 hl e1 e2 e3 e4 e5 e6 e7 e8
    obtain ⟨σ0, hσ0⟩ : ∃ σ0 : L2.St, σ0 = [some (.ref t), some (.int way), some (.int raw), some (.int (n : Int)), some (.ref l)] := ⟨_, rfl⟩
    rw [← hσ0] at start ⊢
    clear hσ0
    obtain ⟨R0, hR0⟩ : ∃ R0, R0 = R := ⟨_, rfl⟩
    rw [← hR0] at rx hk
    generalize upd H8 l (.lst (rowV p1 p2 R)) = H9 at start
    clear hR0 l1 l2 hR
    -- 0
    refine q_cut (M := SpoilM H t l way raw n 100) ?_ ?_
    · obtain ⟨p1, p2, R, rfl, ex, hp1, hp2, hrow, f1, g1⟩ := start
      refine s_when (b := decide (way = 0)) (isw rfl) (fun hb Ha ea => ?_) (fun hb Ha ea => ⟨p1, p2, R, rfl, ex.trans ea, hp1, hp2, hrow.ex ea, by omega, by omega⟩)
      have hra := hrow.ex ea
      have exa := ex.trans ea
      obtain ⟨d, hd⟩ : ∃ d : Int, atI ([V.int (1), V.int (-1), V.int ((n : Int))]) (raw % 3) = some (.int d) := ⟨_, int_at2 (l := [(1 : Int), (-1 : Int), ((n : Int) : Int)]) (i := (raw % 3).toNat) (by have := hw (z := raw) (m := 3) (by decide); omega) (by have := hw (z := raw) (m := 3) (by decide); show _ < 3; omega)⟩
      refine st_lastAugL (j := 0) (a := R.turn) (b := d) hra.h0 (ev_var rfl) ev_c rfl rfl (ev_ixN (el_lst (ea_cons (ev_c) (ea_cons (ev_un ev_c ru_neg) (ea_cons (ev_var rfl) ea_nil))) (by show 3 ≤ 100000; decide)) (ev_op (ev_var rfl) ev_c (Su.rv_mod (by decide))) hd) fun Hb eb => ⟨p1, p2, { R with turn := R.turn + d }, rfl, ex_up (exa.trans eb) hlH, hp1, hp2, (hra.ex eb).put rfl rfl rfl hra.ks, by show R.fal.length ≤ _; omega, by show R.hlp.length ≤ _; omega⟩
    clear start
    intro σ1 H1 start
    -- 1
    refine q_cut (M := SpoilM H t l way raw n 100) ?_ ?_
    · obtain ⟨p1, p2, R, rfl, ex, hp1, hp2, hrow, f1, g1⟩ := start
      refine s_when (b := decide (way = 1)) (isw rfl) (fun hb Ha ea => ?_) (fun hb Ha ea => ⟨p1, p2, R, rfl, ex.trans ea, hp1, hp2, hrow.ex ea, by omega, by omega⟩)
      have hra := hrow.ex ea
      have exa := ex.trans ea
      obtain ⟨z, hz, hzd⟩ : ∃ z : Str, PyData.strOk z = true ∧ atI [V.str (if R0.kind = ("box" : Str) then "draw" else "box"), .str "", .str "Draw", .str "boxed"] (raw % 4) = some (.str z) := by
        have h4 : raw % 4 = 0 ∨ raw % 4 = 1 ∨ raw % 4 = 2 ∨ raw % 4 = 3 := by omega
        rcases h4 with h | h | h | h <;> rw [h]
        · refine ⟨if R0.kind = ("box" : Str) then "draw" else "box", ?_, rfl⟩
          split <;> decide +kernel
        · exact ⟨"", by decide +kernel, rfl⟩
        · exact ⟨"Draw", by decide +kernel, rfl⟩
        · exact ⟨"boxed", by decide +kernel, rfl⟩
      refine s_setL (j := 1) hra.h0 (ev_ixN (el_lst (ea_cons (ev_dsel2 (v := .str (if R0.kind = ("box" : Str) then "draw" else "box")) ev_c ev_c (rx exa rfl rfl) (by decide +kernel) (by
        rcases hk with z | z
        · rw [z, if_pos rfl, if_pos rfl]
        · rw [z, if_neg (by decide +kernel), if_pos rfl, if_neg (by decide +kernel)])) (ea_cons ev_c (ea_cons ev_c (ea_cons ev_c ea_nil)))) (by show 4 ≤ 100000; decide)) (ev_op (ev_var rfl) ev_c (Su.rv_mod (by decide))) hzd) (ev_var rfl) ev_c (by show 1 < 7; decide) fun Hb eb => ⟨p1, p2, { R with kind := z }, rfl, ex_up (exa.trans eb) hlH, hp1, hp2, (hra.ex eb).put rfl rfl rfl hz, by show R.fal.length ≤ _; omega, by show R.hlp.length ≤ _; omega⟩
    clear start
    intro σ1 H1 start
    -- 2
    refine q_cut (M := SpoilM H t l way raw n 100) ?_ ?_
    · obtain ⟨p1, p2, R, rfl, ex, hp1, hp2, hrow, f1, g1⟩ := start
      refine s_when (b := decide (way = 2)) (isw rfl) (fun hb Ha ea => ?_) (fun hb Ha ea => ⟨p1, p2, R, rfl, ex.trans ea, hp1, hp2, hrow.ex ea, by omega, by omega⟩)
      have hra := hrow.ex ea
      have exa := ex.trans ea
      have hm7 := hw (z := raw / 7) (m := (n : Int)) (by omega)
      obtain ⟨d, hd⟩ : ∃ d : Int, atI [V.int (-1), .int (raw / 7 % (n : Int)), .int (n : Int), .int (-2)] (raw % 4) = some (.int d) := ⟨_, int_at2 (l := [(-1 : Int), raw / 7 % (n : Int), (n : Int), -2]) (i := (raw % 4).toNat) (by have := hw (z := raw) (m := 4) (by decide); omega) (by have := hw (z := raw) (m := 4) (by decide); show _ < 4; omega)⟩
      refine s_setL (j := 2) hra.h0 (ev_ixN (el_lst (ea_cons (ev_un ev_c ru_neg) (ea_cons (ev_op (ev_op (ev_var rfl) ev_c (Su.rv_div (by decide) (by decide))) (ev_var rfl) (Su.rv_mod (by omega))) (ea_cons (ev_var rfl) (ea_cons (ev_un ev_c ru_neg) ea_nil)))) (by show 4 ≤ 100000; decide)) (ev_op (ev_var rfl) ev_c (Su.rv_mod (by decide))) hd) (ev_var rfl) ev_c (by show 2 < 7; decide) fun Hb eb => ⟨p1, p2, { R with who := d }, rfl, ex_up (exa.trans eb) hlH, hp1, hp2, (hra.ex eb).put rfl rfl rfl hra.ks, by show R.fal.length ≤ _; omega, by show R.hlp.length ≤ _; omega⟩
    clear start
    intro σ1 H1 start
    -- 3
    refine q_cut (M := SpoilM H t l way raw n 100) ?_ ?_
    · obtain ⟨p1, p2, R, rfl, ex, hp1, hp2, hrow, f1, g1⟩ := start
      refine s_when (b := decide (way = 3)) (isw rfl) (fun hb Ha ea => ?_) (fun hb Ha ea => ⟨p1, p2, R, rfl, ex.trans ea, hp1, hp2, hrow.ex ea, by omega, by omega⟩)
      have hra := hrow.ex ea
      have exa := ex.trans ea
      obtain ⟨d, hd⟩ : ∃ d : Int, atI ([V.int (1), V.int (-1), V.int (7), V.int (-R.coins - 1)]) (raw % 4) = some (.int d) := ⟨_, int_at2 (l := [(1 : Int), (-1 : Int), (7 : Int), (-R.coins - 1 : Int)]) (i := (raw % 4).toNat) (by have := hw (z := raw) (m := 4) (by decide); omega) (by have := hw (z := raw) (m := 4) (by decide); show _ < 4; omega)⟩
      refine st_lastAugL (j := 3) (a := R.coins) (b := d) hra.h0 (ev_var rfl) ev_c rfl rfl (ev_ixN (el_lst (ea_cons (ev_c) (ea_cons (ev_un ev_c ru_neg) (ea_cons (ev_c) (ea_cons (ev_op (ev_un (ev_op (ev_var rfl) ev_c (rv_ixL (sq_of hra.h0) rfl)) ru_neg) ev_c rv_I0) ea_nil)))) (by show 4 ≤ 100000; decide)) (ev_op (ev_var rfl) ev_c (Su.rv_mod (by decide))) hd) fun Hb eb => ⟨p1, p2, { R with coins := R.coins + d }, rfl, ex_up (exa.trans eb) hlH, hp1, hp2, (hra.ex eb).put rfl rfl rfl hra.ks, by show R.fal.length ≤ _; omega, by show R.hlp.length ≤ _; omega⟩
    clear start
    intro σ1 H1 start
    -- 4
    refine q_cut (M := SpoilM H t l way raw n 100) ?_ ?_
    · obtain ⟨p1, p2, R, rfl, ex, hp1, hp2, hrow, f1, g1⟩ := start
      refine s_when (b := decide (way = 4)) (isw rfl) (fun hb Ha ea => ?_) (fun hb Ha ea => ⟨p1, p2, R, rfl, ex.trans ea, hp1, hp2, hrow.ex ea, by omega, by omega⟩)
      have hra := hrow.ex ea
      have exa := ex.trans ea
      obtain ⟨d, hd⟩ : ∃ d : Int, atI ([V.int (1), V.int (-1), V.int (2), V.int (-5)]) (raw % 4) = some (.int d) := ⟨_, int_at2 (l := [(1 : Int), (-1 : Int), (2 : Int), (-5 : Int)]) (i := (raw % 4).toNat) (by have := hw (z := raw) (m := 4) (by decide); omega) (by have := hw (z := raw) (m := 4) (by decide); show _ < 4; omega)⟩
      refine st_lastAugL (j := 4) (a := R.share) (b := d) hra.h0 (ev_var rfl) ev_c rfl rfl (ev_ixN (el_lst (ea_cons (ev_c) (ea_cons (ev_un ev_c ru_neg) (ea_cons (ev_c) (ea_cons (ev_un ev_c ru_neg) ea_nil)))) (by show 4 ≤ 100000; decide)) (ev_op (ev_var rfl) ev_c (Su.rv_mod (by decide))) hd) fun Hb eb => ⟨p1, p2, { R with share := R.share + d }, rfl, ex_up (exa.trans eb) hlH, hp1, hp2, (hra.ex eb).put rfl rfl rfl hra.ks, by show R.fal.length ≤ _; omega, by show R.hlp.length ≤ _; omega⟩
    clear start
    intro σ1 H1 start
    -- 56
    refine q_cut (M := SpoilM H t l way raw n 101) ?_ ?_
    · obtain ⟨p1, p2, R, rfl, ex, hp1, hp2, hrow, f1, g1⟩ := start
      refine s_when (b := decide (way = 5) || decide (way = 6)) (et_or (isw rfl) fun _ => isw rfl) (fun hb Ha ea => ?_) (fun hb Ha ea => ⟨p1, p2, R, rfl, ex.trans ea, hp1, hp2, hrow.ex ea, by omega, by omega⟩)
      have hra := hrow.ex ea
      have exa := ex.trans ea
      have h56 : way = 5 ∨ way = 6 := by
        rw [Bool.or_eq_true, decide_eq_true_eq, decide_eq_true_eq] at hb
        exact hb
      have hm2 := hw (z := raw / 3) (m := (n : Int) + 2) (by omega)
      rcases h56 with rfl | rfl
      · refine q_app2 hra.h1 (ev_op (ev_var rfl) (ev_var rfl) (rv_ixL (sq_of hra.h0) rfl)) (ev_op (ev_op (ev_op (ev_var rfl) ev_c (Su.rv_div (by decide) (by decide))) (ev_op (ev_var rfl) ev_c rv_I0) (Su.rv_mod (by omega))) ev_c rv_I0) (by rw [List.length_map]; omega) fun Hb eb => ?_
        have hrb := hra.ex eb
        generalize raw / 3 % ((n : Int) + 2) - 1 = v
        have hr2 : RowAt (upd Hb p1 (.lst (R.fal.map V.int ++ [.int v]))) l p1 p2 { R with fal := R.fal ++ [v] } := ⟨by rw [upd_ne hrb.n1.symm]; exact hrb.h0, by rw [upd_same, List.map_append]; rfl, by rw [upd_ne hrb.n12.symm]; exact hrb.h2, hrb.ks, hrb.n1, hrb.n2, hrb.n12⟩
        have ex2 : Ex H (upd Hb p1 (.lst (R.fal.map V.int ++ [.int v]))) := ex_up (exa.trans eb) hp1
        generalize upd Hb p1 (.lst (R.fal.map V.int ++ [.int v])) = Hc at hr2 ex2
        have hl2 : (R.fal ++ [v]).length ≤ 101 := by rw [List.length_append]; show _ + 1 ≤ _; omega
        refine s_when (b := decide (raw % 3 > 0)) (et_test (ev_op (ev_op (ev_var rfl) ev_c (Su.rv_mod (by decide))) ev_c rv_I0)) (fun _ Hd ed => ?_) (fun _ Hd ed => ⟨p1, p2, _, rfl, ex2.trans ed, hp1, hp2, hr2.ex ed, hl2, by show R.hlp.length ≤ _; omega⟩)
        have hr3 := hr2.ex ed
        refine s_setN (j := 5) hr3.h0 (el_sortedI (ns := R.fal ++ [v]) (ev_op (ev_var rfl) (ev_var rfl) (rv_ixL (sq_of hr3.h0) rfl)) (sq_of hr3.h1)) (ev_var rfl) (ev_var rfl) rfl fun p He hp ee hpe => ?_
        have hr4 := hr3.ex ee
        have np : p ≠ l := fun z => by rw [z, hr3.h0] at hp; cases hp
        have np2 : p ≠ p2 := fun z => by rw [z, hr3.h2] at hp; cases hp
        exact ⟨p, p2, { R with fal := sortI (R.fal ++ [v]) }, rfl, ex_up ((ex2.trans ed).trans ee) hlH, fresh_back (ex2.trans ed) hp, hp2, ⟨by rw [upd_same]; rfl, by rw [upd_ne np]; exact hpe, by rw [upd_ne hr4.n2]; exact hr4.h2, hr4.ks, np, hr4.n2, np2⟩, by show (sortI (R.fal ++ [v])).length ≤ _; rw [(sortI_perm _).length_eq]; exact hl2, by show R.hlp.length ≤ _; omega⟩
      · refine q_app2 hra.h2 (ev_op (ev_var rfl) (ev_var rfl) (rv_ixL (sq_of hra.h0) rfl)) (ev_op (ev_op (ev_op (ev_var rfl) ev_c (Su.rv_div (by decide) (by decide))) (ev_op (ev_var rfl) ev_c rv_I0) (Su.rv_mod (by omega))) ev_c rv_I0) (by rw [List.length_map]; omega) fun Hb eb => ?_
        have hrb := hra.ex eb
        generalize raw / 3 % ((n : Int) + 2) - 1 = v
        have hr2 : RowAt (upd Hb p2 (.lst (R.hlp.map V.int ++ [.int v]))) l p1 p2 { R with hlp := R.hlp ++ [v] } := ⟨by rw [upd_ne hrb.n2.symm]; exact hrb.h0, by rw [upd_ne hrb.n12]; exact hrb.h1, by rw [upd_same, List.map_append]; rfl, hrb.ks, hrb.n1, hrb.n2, hrb.n12⟩
        have ex2 : Ex H (upd Hb p2 (.lst (R.hlp.map V.int ++ [.int v]))) := ex_up (exa.trans eb) hp2
        generalize upd Hb p2 (.lst (R.hlp.map V.int ++ [.int v])) = Hc at hr2 ex2
        have hl2 : (R.hlp ++ [v]).length ≤ 101 := by rw [List.length_append]; show _ + 1 ≤ _; omega
        refine s_when (b := decide (raw % 3 > 0)) (et_test (ev_op (ev_op (ev_var rfl) ev_c (Su.rv_mod (by decide))) ev_c rv_I0)) (fun _ Hd ed => ?_) (fun _ Hd ed => ⟨p1, p2, _, rfl, ex2.trans ed, hp1, hp2, hr2.ex ed, by show R.fal.length ≤ _; omega, hl2⟩)
        have hr3 := hr2.ex ed
        refine s_setN (j := 6) hr3.h0 (el_sortedI (ns := R.hlp ++ [v]) (ev_op (ev_var rfl) (ev_var rfl) (rv_ixL (sq_of hr3.h0) rfl)) (sq_of hr3.h2)) (ev_var rfl) (ev_var rfl) rfl fun p He hp ee hpe => ?_
        have hr4 := hr3.ex ee
        have np : p ≠ l := fun z => by rw [z, hr3.h0] at hp; cases hp
        have np1 : p1 ≠ p := fun z => by rw [← z, hr3.h1] at hp; cases hp
        exact ⟨p1, p, { R with hlp := sortI (R.hlp ++ [v]) }, rfl, ex_up ((ex2.trans ed).trans ee) hlH, hp1, fresh_back (ex2.trans ed) hp, ⟨by rw [upd_same]; rfl, by rw [upd_ne hr4.n1]; exact hr4.h1, by rw [upd_ne np]; exact hpe, hr4.ks, hr4.n1, np, np1⟩, by show R.fal.length ≤ _; omega, by show (sortI (R.hlp ++ [v])).length ≤ _; rw [(sortI_perm _).length_eq]; exact hl2⟩
    clear start
    intro σ1 H1 start
    -- 7
    refine q_cut (M := SpoilM H t l way raw n 101) ?_ ?_
    · obtain ⟨p1, p2, R, rfl, ex, hp1, hp2, hrow, f1, g1⟩ := start
      refine s_when (b := decide (way = 7)) (isw rfl) (fun hb Ha ea => ?_) (fun hb Ha ea => ⟨p1, p2, R, rfl, ex.trans ea, hp1, hp2, hrow.ex ea, by omega, by omega⟩)
      have hra := hrow.ex ea
      have exa := ex.trans ea
      refine s_setN (j := 5) hra.h0 (ys := (R.fal.drop 1).map V.int) (by rw [List.map_drop, ← cut_from]; exact el_sl (ev_op (ev_var rfl) ev_c (rv_ixL (sq_of hra.h0) rfl)) (eo_some (i := ((1 : Nat) : Int)) ev_c) eo_none (sq_of hra.h1)) (ev_var rfl) ev_c rfl fun p Hb hp eb hpb => ?_
      have hrb := hra.ex eb
      have np : p ≠ l := fun z => by rw [z, hra.h0] at hp; cases hp
      have np2 : p ≠ p2 := fun z => by rw [z, hra.h2] at hp; cases hp
      have hr2 : RowAt (upd Hb l (.lst ((rowV p1 p2 R).set 5 (.ref p)))) l p p2 { R with fal := R.fal.drop 1 } := ⟨by rw [upd_same]; rfl, by rw [upd_ne np]; exact hpb, by rw [upd_ne hrb.n2]; exact hrb.h2, hrb.ks, np, hrb.n2, np2⟩
      have ex2 : Ex H (upd Hb l (.lst ((rowV p1 p2 R).set 5 (.ref p)))) := ex_up (exa.trans eb) hlH
      have hpH := fresh_back exa hp
      exact ⟨p, p2, _, rfl, ex2, hpH, hp2, hr2, by show (R.fal.drop 1).length ≤ _; rw [List.length_drop]; omega, by show R.hlp.length ≤ _; omega⟩
    clear start
    intro σ1 H1 start
    -- 8
    refine q_cut (M := SpoilM H t l way raw n 101) ?_ ?_
    · obtain ⟨p1, p2, R, rfl, ex, hp1, hp2, hrow, f1, g1⟩ := start
      refine s_when (b := decide (way = 8)) (isw rfl) (fun hb Ha ea => ?_) (fun hb Ha ea => ⟨p1, p2, R, rfl, ex.trans ea, hp1, hp2, hrow.ex ea, by omega, by omega⟩)
      have hra := hrow.ex ea
      have exa := ex.trans ea
      refine q_setN (j := 5) hra.h0 (ys := R.fal.reverse.map V.int) (by rw [List.map_reverse]; exact el_back (ev_op (ev_var rfl) ev_c (rv_ixL (sq_of hra.h0) rfl)) (sq_of hra.h1) (ev_un ev_c ru_neg)) (ev_var rfl) ev_c rfl fun p Hb hp eb hpb => ?_
      have hrb := hra.ex eb
      have np : p ≠ l := fun z => by rw [z, hra.h0] at hp; cases hp
      have np2 : p ≠ p2 := fun z => by rw [z, hra.h2] at hp; cases hp
      have hr2 : RowAt (upd Hb l (.lst ((rowV p1 p2 R).set 5 (.ref p)))) l p p2 { R with fal := R.fal.reverse } := ⟨by rw [upd_same]; rfl, by rw [upd_ne np]; exact hpb, by rw [upd_ne hrb.n2]; exact hrb.h2, hrb.ks, np, hrb.n2, np2⟩
      have ex2 : Ex H (upd Hb l (.lst ((rowV p1 p2 R).set 5 (.ref p)))) := ex_up (exa.trans eb) hlH
      have hpH := fresh_back exa hp
      generalize upd Hb l (.lst ((rowV p1 p2 R).set 5 (.ref p))) = Hc at hr2 ex2
      refine s_setN (j := 6) hr2.h0 (ys := R.hlp.reverse.map V.int) (by rw [List.map_reverse]; exact el_back (ev_op (ev_var rfl) ev_c (rv_ixL (sq_of hr2.h0) rfl)) (sq_of hr2.h2) (ev_un ev_c ru_neg)) (ev_var rfl) ev_c rfl fun p' Hd hp' ed hpd => ?_
      have hrd := hr2.ex ed
      have np' : p' ≠ l := fun z => by rw [z, hr2.h0] at hp'; cases hp'
      have np3 : p ≠ p' := fun z => by rw [← z, hr2.h1] at hp'; cases hp'
      exact ⟨p, p', { R with fal := R.fal.reverse, hlp := R.hlp.reverse }, rfl, ex_up (ex2.trans ed) hlH, hpH, fresh_back ex2 hp', ⟨by rw [upd_same]; rfl, by rw [upd_ne hrd.n1]; exact hrd.h1, by rw [upd_ne np']; exact hpd, hrd.ks, hrd.n1, np', np3⟩, by show R.fal.reverse.length ≤ _; rw [List.length_reverse]; omega, by show R.hlp.reverse.length ≤ _; rw [List.length_reverse]; omega⟩
    clear start
    intro σ1 H1 start
    -- 9
    refine q_cut (M := SpoilM H t l way raw n 300) ?_ ?_
    · obtain ⟨p1, p2, R, rfl, ex, hp1, hp2, hrow, f1, g1⟩ := start
      refine s_when (b := decide (way = 9)) (isw rfl) (fun hb Ha ea => ?_) (fun hb Ha ea => ⟨p1, p2, R, rfl, ex.trans ea, hp1, hp2, hrow.ex ea, by omega, by omega⟩)
      have hra := hrow.ex ea
      have exa := ex.trans ea
      obtain ⟨m, hm, hml⟩ := cut_ints (l := R.hlp) (lo := some (-1)) (hi := none)
      refine s_setN (j := 6) hra.h0 (ys := (R.hlp ++ m).map V.int) (by
        rw [List.map_append, ← hm]
        exact el_catR (ev_op (ev_var rfl) ev_c (rv_ixL (sq_of hra.h0) rfl)) hra.h2 (el_sl (ev_op (ev_var rfl) ev_c (rv_ixL (sq_of hra.h0) rfl)) (eo_some (ev_un ev_c ru_neg)) eo_none (sq_of hra.h2)) (by rw [hm, List.length_map, List.length_map]; omega)) (ev_var rfl) ev_c rfl fun p Hb hp eb hpb => ?_
      have hrb := hra.ex eb
      have np : p ≠ l := fun z => by rw [z, hra.h0] at hp; cases hp
      have np1 : p1 ≠ p := fun z => by rw [← z, hra.h1] at hp; cases hp
      exact ⟨p1, p, { R with hlp := R.hlp ++ m }, rfl, ex_up (exa.trans eb) hlH, hp1, fresh_back exa hp, ⟨by rw [upd_same]; rfl, by rw [upd_ne hrb.n1]; exact hrb.h1, by rw [upd_ne np]; exact hpb, hrb.ks, hrb.n1, np, np1⟩, by show R.fal.length ≤ _; omega, by show (R.hlp ++ m).length ≤ _; rw [List.length_append]; omega⟩
    clear start
    intro σ1 H1 start
    obtain ⟨p1, p2, R, rfl, ex, hp1, hp2, hrow, f1, g1⟩ := start
    refine s_retU (eu_tupOf (ev_var rfl) (sq_of hrow.h0)) fun t' Hz ht' ez hz => ?_
    exact q Hz t' p1 p2 R (ex.trans ez) (fresh_back ex ht') hp1 hp2 ⟨hz, ez _ _ hrow.h1, ez _ _ hrow.h2, hrow.ks⟩ (by omega) (by omega)
theorem RepsAt.sub {H H2 : Hp} {rp p : Addr} {xs ys : List RepD} (h : RepsAt H rp xs) (e : Ex H H2) (h2 : H2 p = some (.lst (ys.map fun x => V.ref x.t))) (hs : ∀ y ∈ ys, y ∈ xs) : RepsAt H2 p ys := ⟨h2, fun y hy => (h.hr y (hs y hy)).ex e, fun y hy => h.hl y (hs y hy)⟩
def spBent (K : PySem.W.Frag) : Sp := fun vs H Q _ => ∃ (rp : Addr) (xs : List RepD) (way : Int) (pl n : Nat), vs = [.ref rp, .int way, .int (pl : Int), .int (n : Int)] ∧ RepsAt H rp xs ∧ xs.length ≤ 100 ∧ pl < xs.length ∧ ∀ H' rp' ys, Ex H H' → RepsAt H' rp' ys → ys.length ≤ 300 → Q (.ref rp') H'
set_option maxHeartbeats 4000000 in
theorem ok__law_bent (T : Top K mg) {k : Nat} : FnOk P w K mg base CX0 (k + 1) T.f__law_bent T.fd__law_bent ["_law_reports", "_law_way", "_law_place", "_law_size"] (spBent K) := by
  have nd := sc__law_bent.nd
  refine T.F__law_bent.ok sc__law_bent (fun vs H Q E h => ?_) (fun cdv A outer s H vs Q E hr h => ?_)
  · obtain ⟨rp, xs, way, pl, n, rfl, _⟩ := h
    rfl
  · obtain ⟨rp, xs, way, pl, n, rfl, hR, hx, hp, q⟩ := h
    refine ⟨_, (pss_cons (ps_if (pt_cmpR op_eq (pv 1) pe_int (nomark _))
        (pss_one (ps_ret (pe_op op_cat (pe_slice sl_list (pv 0) po_none (po_some (pv 2))) (pe_slice sl_list (pv 0) (po_some (pe_op op_add (pv 2) pe_int)) po_none))))
        pss_nil)
      (pss_cons (ps_if (pt_cmpR op_eq (pv 1) pe_int (nomark _))
        (pss_one (ps_ret (pe_op op_cat (pe_op op_cat (pe_slice sl_list (pv 0) po_none (po_some (pv 2))) (pe_lst (pa_cons (pe_ix ix_list (pv 0) (pv 2) (fun _ _ => rfl)) pa_nil))) (pe_slice sl_list (pv 0) (po_some (pv 2)) po_none))))
        pss_nil)
      (pss_cons (ps_if (pt_cmpR op_eq (pv 1) pe_int (nomark _))
        (pss_one (ps_ret (pe_op op_cat (pv 0) (pe_lst (pa_cons (pe_tup (pa_cons (pe_op op_add (pv 3) pe_int) (pa_cons pe_str (pa_cons (pe_un un_neg pe_int) (pa_cons pe_int (pa_cons pe_int (pa_cons (pe_lst pa_nil) (pa_cons (pe_lst pa_nil) pa_nil)))))))) pa_nil)))))
        pss_nil)
      (pss_one (ps_ret (pv 0)))))), ?_⟩
    have isw : ∀ {z : Int} {σ : L2.St} {H1 : Hp}, σ[1]? = some (some (.int way)) → EvT (tTest (tOp rEq (tVar 1) (tC (.int z)))) σ H1 (decide (way = z)) := fun g => et_is (et_test (ev_op (ev_var g) ev_c (rv_eq rfl))) int_eq
    have sl1 : ∀ {H1 : Hp} {σ : L2.St}, Ex H H1 → σ[0]? = some (some (.ref rp)) → σ[2]? = some (some (.int (pl : Int))) → EvL (tSl (rSlL K) (tVar 0) tNoPart (tPart (tVar 2))) σ H1 ((xs.take pl).map fun x => V.ref x.t) := fun e g0 g2 => by
      rw [List.map_take, ← cut_to]
      exact el_sl (ev_var g0) eo_none (eo_some (ev_var g2)) (sq_of (e _ _ hR.h0))
    refine q_when (isw rfl) (fun hb H1 e1 => ?_) (fun hb H1 e1 => ?_)
    · refine s_retL (xs := ((xs.take pl) ++ xs.drop (pl + 1)).map fun x => V.ref x.t) (by
        rw [List.map_append]
        refine el_cat (sl1 e1 rfl rfl) ?_ (by rw [List.length_map, List.length_map, List.length_take, List.length_drop]; omega)
        rw [List.map_drop, ← cut_from]
        exact el_sl (ev_var rfl) (eo_some (ev_is (ev_op (ev_var rfl) ev_c rv_I0) (by push_cast; rfl))) eo_none (sq_of (e1 _ _ hR.h0))) fun p H2 hp2 e2 h2 => ?_
      refine q H2 p _ (e1.trans e2) (hR.sub (e1.trans e2) h2 fun y hy => ?_) (by rw [List.length_append, List.length_take, List.length_drop]; omega)
      rcases List.mem_append.mp hy with hy | hy
      · exact List.mem_of_mem_take hy
      · exact List.mem_of_mem_drop hy
    refine q_when (isw rfl) (fun hb2 H2 e2 => ?_) (fun hb2 H2 e2 => ?_)
    · have e12 := e1.trans e2
      obtain ⟨x, hxg⟩ : ∃ x, xs[pl]? = some x := ⟨_, List.getElem?_eq_getElem hp⟩
      refine s_retL (xs := ((xs.take pl ++ [x]) ++ xs.drop pl).map fun x => V.ref x.t) (by
        rw [List.map_append, List.map_append]
        refine el_cat (el_cat (sl1 e12 rfl rfl) (el_lst (ea_cons (ev_op (ev_var rfl) (ev_var rfl) (rv_ixL (sq_of (e12 _ _ hR.h0)) (atI_nat' (i := pl) rfl (by rw [List.getElem?_map, hxg]; rfl)))) ea_nil) (by show 1 ≤ 100000; decide)) (by rw [List.length_map, List.length_take]; show _ + 1 ≤ _; omega)) ?_ (by simp only [List.length_append, List.length_map, List.length_take, List.length_drop, List.length_cons, List.length_nil]; omega)
        rw [List.map_drop, ← cut_from]
        exact el_sl (ev_var rfl) (eo_some (ev_var rfl)) eo_none (sq_of (e12 _ _ hR.h0))) fun p H3 hp3 e3 h3 => ?_
      refine q H3 p _ (e12.trans e3) (hR.sub (e12.trans e3) h3 fun y hy => ?_) (by rw [List.length_append, List.length_append, List.length_take, List.length_drop]; show _ + 1 + _ ≤ _; omega)
      rcases List.mem_append.mp hy with hy | hy
      · rcases List.mem_append.mp hy with hy | hy
        · exact List.mem_of_mem_take hy
        · rw [List.mem_singleton.mp hy]
          exact List.mem_of_getElem? hxg
      · exact List.mem_of_mem_drop hy
    refine q_when (isw rfl) (fun hb3 H3 e3 => ?_) (fun hb3 H3 e3 => ?_)
    · have e13 := (e1.trans e2).trans e3
      refine s_retG (te_op ((ev_var rfl) H3 (Ex.refl _) _ fun H4 e4 => te_lst (ta_consX (te_tup ?_))))
      refine ta_consX ((ev_op (ev_var rfl) ev_c rv_I0) H4 (Ex.refl _) _ fun H5 e5 => ta_consX (ev_c H5 (Ex.refl _) _ fun H6 e6 => ta_consX ((ev_un ev_c ru_neg) H6 (Ex.refl _) _ fun H7 e7 => ta_consX (ev_c H7 (Ex.refl _) _ fun H8 e8 => ta_consX (ev_c H8 (Ex.refl _) _ fun H9 e9 => ?_)))))
      refine ta_consX (el_go (xs := ([] : List Int).map V.int) (el_lst ea_nil (by decide)) fun pf H10 hpf e10 h10 => ta_consX (el_go (xs := ([] : List Int).map V.int) (el_lst ea_nil (by decide)) fun pg H11 hpg e11 h11 => ta_all (vs := []) ea_nil fun H12 e12 => ⟨by show 7 ≤ sizeLine; decide, fun t ht => ?_⟩))
      have e312 := ((((((e4.trans e5).trans e6).trans e7).trans e8).trans e9).trans e10).trans (e11.trans e12)
      have eT := Ex.new (o := .tup [.int ((n : Int) + 1), .str "box", .int (-1), .int 0, .int 0, .ref pf, .ref pg]) ht
      have h13 : (upd H12 t (.tup [.int ((n : Int) + 1), .str "box", .int (-1), .int 0, .int 0, .ref pf, .ref pg])) t = some (.tup [.int ((n : Int) + 1), .str "box", .int (-1), .int 0, .int 0, .ref pf, .ref pg]) := upd_same
      refine ta_nilX ⟨by show 1 ≤ sizeLine; decide, ?_⟩
      show ∀ m, (upd H12 t (.tup [.int ((n : Int) + 1), .str "box", .int (-1), .int 0, .int 0, .ref pf, .ref pg])) m = none → rCat (.ref rp) (.ref m) (upd (upd H12 t (.tup [.int ((n : Int) + 1), .str "box", .int (-1), .int 0, .int 0, .ref pf, .ref pg])) m (.lst [.ref t])) _
      generalize upd H12 t (.tup [.int ((n : Int) + 1), .str "box", .int (-1), .int 0, .int 0, .ref pf, .ref pg]) = H13 at eT h13
      intro m hm
      have eM := Ex.new (o := .lst [V.ref t]) hm
      have e13M := ((e13.trans e312).trans eT).trans eM
      refine cat_go (e13M _ _ hR.h0) upd_same (by rw [List.length_map]; show _ + 1 ≤ _; omega) fun r hr => ?_
      have eR := Ex.new (o := .lst (xs.map (fun x => V.ref x.t) ++ [V.ref t])) hr
      have hall := e13M.trans eR
      refine q _ r (xs ++ [⟨t, pf, pg, ⟨(n : Int) + 1, "box", -1, 0, 0, [], []⟩⟩]) hall ⟨by rw [upd_same, List.map_append]; rfl, fun y hy => ?_, fun y hy => ?_⟩ (by rw [List.length_append]; show _ + 1 ≤ _; omega)
      · rcases List.mem_append.mp hy with hy | hy
        · exact (hR.hr y hy).ex hall
        · rw [List.mem_singleton.mp hy]
          exact ⟨(eM.trans eR) _ _ h13, ((((e11.trans e12).trans eT).trans eM).trans eR) _ _ h10, (((e12.trans eT).trans eM).trans eR) _ _ h11, (by show PyData.strOk ("box" : Str) = true; decide +kernel)⟩
      · rcases List.mem_append.mp hy with hy | hy
        · exact hR.hl y hy
        · rw [List.mem_singleton.mp hy]
          exact ⟨Nat.zero_le _, Nat.zero_le _⟩
    · have e13 := (e1.trans e2).trans e3
      exact s_ret (ev_var rfl) fun H4 e4 => q H4 rp xs (e13.trans e4) (hR.ex (e13.trans e4)) (by omega)
theorem after_eq {L : LedM} {r : RepM} (h : folM L r = true) (hd : 0 ≤ L.due) : afterB L r = afterL L r := by
  unfold folM at h
  by_cases c1 : r.turn ≠ L.opn ∨ r.turn > (L.pl.length : Int)
  · rw [if_pos c1] at h; cases h
  rw [if_neg c1] at h
  have ht : r.turn = L.opn := Decidable.not_not.mp fun z => c1 (.inl z)
  by_cases c2 : (growB r.fal && r.fal.all (fun x => decide (x ∈ L.line))) = false
  · rw [if_pos c2] at h; cases h
  rw [if_neg c2] at h
  by_cases c3 : (growB r.hlp && r.hlp.all (canP L)) = false
  · rw [if_pos c3] at h; cases h
  rw [if_neg c3] at h
  unfold afterB afterL
  by_cases c4 : L.due + (r.fal.length : Int) > 0
  · rw [if_pos c4] at h
    unfold boxB at h
    rw [Bool.and_eq_true, decide_eq_true_eq] at h
    rw [if_pos c4, if_pos c4, if_pos h.1, if_pos h.1, ht]
  · rw [if_neg c4, Bool.and_eq_true, decide_eq_true_eq] at h
    have nb : ¬ r.kind = ("box" : Str) := by rw [h.1]; decide +kernel
    rw [if_neg c4, if_neg c4, if_neg nb, if_neg nb, ht, Int.sub_zero]
def spFirstB (K : PySem.W.Frag) : Sp := fun vs H Q _ => ∃ (t a b c rp : Addr) (L : LedM) (xs : List RepD), vs = [.ref t, .ref rp] ∧ BookAt H t a b c L ∧ LedOk L ∧ L.line.Nodup ∧ 0 ≤ L.due ∧ RepsAt H rp xs ∧ ∀ H', Ex H H' → Q (.int (firstL L (xs.map RepD.r) 0)) H'
set_option maxHeartbeats 4000000 in
theorem ok__law_first (T : Top K mg) {k : Nat} : FnOk P w K mg base CX0 (k + 3) T.f__law_first T.fd__law_first ["_law_book", "_law_reports"] (spFirstB K) := by
  have nd := sc__law_first.nd
  have G__law_can := ok__law_can (P := P) (w := w) (base := base) T (k := 0)
  have G__law_after := ok__law_after (P := P) (w := w) (base := base) T (k := 1)
  refine T.F__law_first.ok sc__law_first (fun vs H Q E h => ?_) (fun cdv A outer s H vs Q E hr h => ?_)
  · obtain ⟨t, a, b, c, rp, L, xs, rfl, _⟩ := h
    rfl
  · obtain ⟨t, a, b, c, rp, L, xs, rfl, hB, hO, hn, hd, hR, q⟩ := h
    refine ⟨_, (pss_cons (ps_for PassesOwn.never rfl (pi_enum (by rfl) T.m_enumerate (pa_cons (pv 1) pa_nil)) (pg_tup rfl (pgs_cons (pg_name (i := 2) nd rfl (.inl rfl)) (pgs_cons (pg_name (i := 3) nd rfl (.inl rfl)) pgs_nil)))
        (pss_cons (ps_if (pt_not (pt_val (pe_call G__law_can (hr.mono (by omega)) (by rfl) T.m__law_can T.F__law_can.kp T.b__law_can .nil pass0 (pa_cons (pv 0) (pa_cons (pv 3) pa_nil)))))
            (pss_one (ps_ret (pv 2)))
            pss_nil)
          (pss_one (ps_set (i := 0) nd rfl (.inl rfl) (pe_call G__law_after (hr.mono (by omega)) (by rfl) T.m__law_after T.F__law_after.kp T.b__law_after .nil pass0 (pa_cons (pv 0) (pa_cons (pv 3) pa_nil)))))))
      (pss_one (ps_ret (pe_un un_neg pe_int)))), ?_⟩
    refine q_forE (xs := xs.map fun x => V.ref x.t) (ea_cons (ev_var rfl) ea_nil) (sq_of hR.h0) (fun i σ' H' => ∃ (t' a' b' c' : Addr) (L' : LedM) (y2 y3 : Option V), σ' = [some (.ref t'), some (.ref rp), y2, y3] ∧ Ex H H' ∧ BookAt H' t' a' b' c' L' ∧ LedOk L' ∧ L'.line.Nodup ∧ 0 ≤ L'.due ∧ firstL L (xs.map RepD.r) 0 = firstL L' ((xs.drop i).map RepD.r) (i : Int)) ?_ ?_ ?_ ?_
    · intro H3 e3
      exact ⟨t, a, b, c, L, _, _, rfl, e3, hB.ex e3, hO, hn, hd, rfl⟩
    · rintro i σ' H3 hi ⟨t', a', b', c', L', y2, y3, rfl, ex, _⟩
      exact sq_of (hR.ex ex).h0
    · clear hB hO hn hd
      rintro i xv t0 σ' Hc hxv ⟨t', a', b', c', L', y2, y3, rfl, ex, hB, hO, hn, hd, hfst⟩ nT
      rw [List.getElem?_map] at hxv
      obtain ⟨x, hx, rfl⟩ := Option.map_eq_some_iff.mp hxv
      have hxm := List.mem_of_getElem? hx
      refine ⟨_, tg_two (st_of upd_same) tg_name tg_name, ?_⟩
      have exT := ex.trans (Ex.new (o := .tup [.int (i : Nat), .ref x.t]) nT)
      have hBT := hB.ex (Ex.new (o := .tup [.int (i : Nat), .ref x.t]) nT)
      generalize upd Hc t0 (.tup [.int (i : Nat), .ref x.t]) = H3 at exT hBT
      have hil := (List.getElem?_eq_some_iff.mp hx).1
      have hdr : (xs.drop i).map RepD.r = x.r :: (xs.drop (i + 1)).map RepD.r := by
        rw [List.drop_eq_getElem_cons hil, List.map_cons]
        rw [List.getElem?_eq_getElem hil] at hx
        rw [Option.some.inj hx]
      rw [hdr] at hfst
      have hRx := (hR.ex exT).hr x hxm
      have hxl := hR.hl x hxm
      refine q_when (b := !folM L' x.r) (et_not (et_B (ev_call (ea_cons (ev_var rfl) (ea_cons (ev_var rfl) ea_nil)) (fun Hx e Q q _ => ⟨t', a', b', c', x.t, x.pf, x.pg, L', x.r, rfl, hBT.ex e, hRx.ex e, hO, hn, hd, hxl.1, hxl.2, q⟩)))) (fun hb H4 e4 => ?_) (fun hb H4 e4 => ?_)
      · have hff : ¬ folM L' x.r = true := fun z => by rw [z] at hb; cases hb
        refine s_ret (ev_var rfl) fun H5 e5 => ?_
        have := q H5 ((exT.trans e4).trans e5)
        rw [hfst] at this
        unfold firstL at this
        rw [if_neg hff] at this
        exact this
      · have hff : folM L' x.r = true := by cases hc : folM L' x.r <;> rw [hc] at hb <;> first | rfl | cases hb
        have hNl := hO.n2
        have hLd := hO.ld
        refine s_asgX2 (te_callX (ta_all (vs := [.ref t', .ref x.t]) (ea_cons (ev_var rfl) (ea_cons (ev_var rfl) ea_nil)) fun H5 e5 => ?_))
        refine ⟨t', a', b', c', x.t, x.pf, x.pg, L', x.r, rfl, (hBT.ex e4).ex e5, (hRx.ex e4).ex e5, by omega, by omega, by omega, hxl.1, hxl.2, fun z hz => hO.dr z (fol_hlp hff z hz), fun H6 t2 a2 b2 c2 e6 _ _ _ _ hB2 => ?_⟩
        rw [after_eq hff hd] at hB2
        have hd2 : 0 ≤ (afterL L' x.r).due := by
          rw [← after_eq hff hd]
          show 0 ≤ if L'.due + (x.r.fal.length : Int) > 0 then L'.due + (x.r.fal.length : Int) - 1 else L'.due + (x.r.fal.length : Int)
          split <;> omega
        refine ⟨t2, a2, b2, c2, afterL L' x.r, _, _, rfl, ((exT.trans e4).trans e5).trans e6, hB2, hO.after hff, hn.filter _, hd2, ?_⟩
        rw [hfst]
        show (if folM L' x.r = true then _ else _) = _
        rw [if_pos hff]
        push_cast
        rfl
    · rintro σ' H3 ⟨t', a', b', c', L', y2, y3, rfl, ex, _, _, _, _, hfst⟩
      rw [List.length_map, List.drop_length] at hfst
      refine s_ret (ev_un ev_c ru_neg) fun H4 e4 => ?_
      have := q H4 (ex.trans e4)
      rw [hfst] at this
      exact this
end

end Su
namespace Su
/-! ### the law itself -/
/-! ### the law -/
section
variable {K : PySem.W.Frag} {σ : L2.St} {H : Hp}
theorem s_asgXg {te : TE} {g : TG} {D : Ends} (k : te σ H fun v H1 => g v σ H1 D.nx) : tAsg te g D σ H := k
theorem te_book {Q : VK} {t3 t2 t4 t6 t5 : TE} {st : Int} {pl line : List Int} {bd : Bool} {pq pp : Addr} (h3 : Ev t3 σ H (.int st)) (h2 : Ev t2 σ H (.int (pl.length : Int))) (h4 : Ev t4 σ H (.bl bd)) (h6 : Ev t6 σ H (.ref pq)) (hq : H pq = some (.lst (line.map V.int))) (h5 : Ev t5 σ H (.ref pp)) (hp : H pp = some (.lst (pl.map V.int)))
    (k : ∀ t a b c H', H t = none → H a = none → H b = none → H c = none → Ex H H' → BookAt H' t a b c (led0 st pl line bd) → Q (.ref t) H') : tTup (tCons t3 (tCons t2 (tCons t4 (tCons (tC (.int 0)) (tCons (tCB (rListS K) (tCons t6 tNil)) (tCons (tC (.int 0)) (tCons (tCB (rListS K) (tCons t5 tNil)) (tCons (tLst tNil) tNil)))))))) σ H Q := by
  refine te_tup (ta_consX (h3 H (Ex.refl _) _ fun H1 e1 => ta_consX (h2 H1 e1 _ fun H2 e2 => ta_consX (h4 H2 (e1.trans e2) _ fun H3 e3 => ta_consX (ev_c H3 (Ex.refl _) _ fun H4 e4 => ?_)))))
  have e14 := ((e1.trans e2).trans e3).trans e4
  refine ta_consX (el_go (el_list (K := K) (fun H' e => h6 H' (e14.trans e)) (sq_of (e14 _ _ hq))) fun a H5 ha e5 g5 => ta_consX (ev_c H5 (Ex.refl _) _ fun H6 e6 => ?_))
  have e16 := (e14.trans e5).trans e6
  refine ta_consX (el_go (el_list (K := K) (fun H' e => h5 H' (e16.trans e)) (sq_of (e16 _ _ hp))) fun b H7 hb e7 g7 => ta_consX (el_go (xs := ([] : List Int).map V.int) (el_lst ea_nil (by decide)) fun c H8 hc e8 g8 => ta_nilX ⟨by show 8 ≤ sizeLine; decide, fun t ht => ?_⟩))
  have e18 := (e16.trans e7).trans e8
  refine k t a b c _ (fresh_back e18 ht) (fresh_back e14 ha) (fresh_back e16 hb) (fresh_back (e16.trans e7) hc) (e18.trans (Ex.new ht)) ⟨upd_same, ?_, ?_, ?_⟩
  · exact (Ex.new ht) _ _ (((e6.trans e7).trans e8) _ _ g5)
  · exact (Ex.new ht) _ _ (e8 _ _ g7)
  · exact (Ex.new ht) _ _ g8
end
theorem BookOk.after {n : Nat} {L : LedM} {r : RepM} (h : BookOk n L) (hr : RepOk L r) (ho : L.opn ≤ (n : Int)) : BookOk n (afterB L r) := by
  have hpl : (afterB L r).pl.length = L.pl.length := plsub_len
  have hsub : ∀ x ∈ (afterB L r).line, x ∈ L.line := fun x hx => (List.mem_filter.mp hx).1
  have e0 := h.eq
  have d0 := h.d0
  have ld := h.ld
  by_cases c : L.due + (r.fal.length : Int) > 0
  · have hw := hr.box c
    have hl : (afterB L r).line.length + r.fal.length = L.line.length := by
      have : (afterB L r).line = L.line.filter fun x => decide (x ∉ r.fal) := by
        show L.line.filter (fun x => decide (x ∉ r.fal) && decide (x ≠ r.who)) = _
        apply List.filter_congr
        intro x hx
        have := (h.lr x hx).1
        rw [hw, decide_eq_true (show x ≠ -1 by omega), Bool.and_true]
      rw [this]
      exact filt_diff h.ln hr.fn hr.fl
    have hdr : (afterB L r).drew = L.drew := if_pos c
    have hdu : (afterB L r).due = L.due + (r.fal.length : Int) - 1 := if_pos c
    exact ⟨h.s1, h.s2, by rw [hpl]; exact h.pn, h.n1, h.n2, fun x hx => h.lr x (hsub x hx), fun x hx => h.dr x (by rw [hdr] at hx; exact hx), by rw [hdr]; omega, h.ln.filter _, by rw [hdu]; omega, by rw [hdu]; show _ + _ + (L.opn + 1 - 1) = _; omega, by show 1 ≤ L.opn + 1; have := h.o1; omega⟩
  · have hin := hr.drw c
    have hf0 : r.fal = [] := List.length_eq_zero_iff.mp (by omega)
    have hl : (afterB L r).line.length + 1 = L.line.length := by
      have : (afterB L r).line = L.line.filter fun x => decide (x ∉ [r.who]) := by
        show L.line.filter (fun x => decide (x ∉ r.fal) && decide (x ≠ r.who)) = _
        apply List.filter_congr
        intro x hx
        rw [hf0]
        simp
      rw [this]
      exact filt_diff h.ln (by simp) fun x hx => by rw [List.mem_singleton.mp hx]; exact hin
    have hdr : (afterB L r).drew = L.drew ++ [r.who] := if_neg c
    have hdu : (afterB L r).due = L.due + (r.fal.length : Int) := if_neg c
    have hfl : r.fal.length = 0 := by rw [hf0]; rfl
    exact ⟨h.s1, h.s2, by rw [hpl]; exact h.pn, h.n1, h.n2, fun x hx => h.lr x (hsub x hx), fun x hx => by
      rw [hdr] at hx
      rcases List.mem_append.mp hx with hx | hx
      · exact h.dr x hx
      · rw [List.mem_singleton.mp hx]
        exact h.lr _ hin, by rw [hdr, List.length_append]; show _ + (_ + 1) ≤ _; omega, h.ln.filter _, by rw [hdu]; omega, by rw [hdu]; show _ + _ + (L.opn + 1 - 1) = _; omega, by show 1 ≤ L.opn + 1; have := h.o1; omega⟩
theorem RepOk.same {L : LedM} {r r' : RepM} (h : RepOk L r) (h1 : r'.kind = r.kind) (h2 : r'.fal = r.fal) (h3 : r'.hlp = r.hlp) (h4 : r'.who = r.who) : RepOk L r' := ⟨by rw [h1]; exact h.kd, by rw [h2]; exact h.fl, by rw [h2]; exact h.fn, by rw [h3]; exact h.hl, by rw [h3]; exact h.hn, by rw [h2, h4]; exact h.box, by rw [h2, h4]; exact h.drw⟩
theorem BookAt.up {H : Hp} {t a b c l : Addr} {L : LedM} {xs ys : List V} (h : BookAt H t a b c L) (hl : H l = some (.lst ys)) (n1 : a ≠ l) (n2 : b ≠ l) (n3 : c ≠ l) : BookAt (upd H l (.lst xs)) t a b c L := ⟨by rw [upd_ne fun z => by rw [← z, h.ht] at hl; cases hl]; exact h.ht, by rw [upd_ne n1]; exact h.ha, by rw [upd_ne n2]; exact h.hb, by rw [upd_ne n3]; exact h.hc⟩
theorem shaped_two (a b : List Int) : SeqAt.shaped (.list [intD a, intD b]) = true := by
  unfold SeqAt.shaped intD
  simp [PyData.canLay0, PyData.canLayAll0, PyData.depth, PyData.depthAll, layInts, depInts]
theorem at2 {a b z : Int} (h0 : 0 ≤ z) (h : z < 2) : atI [V.int a, .int b] z = some (.int (if z = 0 then a else b)) := by
  have h4 : z = 0 ∨ z = 1 := by omega
  rcases h4 with rfl | rfl <;> rfl
theorem natI_nd {r : List Nat} (h : r.Nodup) : (natI r).Nodup := List.pairwise_map.mpr (h.imp fun hab z => hab (by omega))
section
variable {P : Program} {w : World} {K : PySem.W.Frag} {mg : Str → Option Value} {base : Heap}
def spLaw (K : PySem.W.Frag) : Sp := fun vs H Q _ => ∃ (a : Addr) (ns : List Int), vs = [.ref a] ∧ SqL K H a (ns.map V.int) ∧ ns.length ≤ 63 ∧ ∀ H', Q (.bl true) H'
set_option maxHeartbeats 8000000 in
theorem ok_law {f : Addr} {fd : FuncData} (F : Fun K "law" "law" s_law f fd) (T : Top K mg) : FnOk P w K mg base CX0 6 f fd ["_law_script"] (spLaw K) := by
  have nd := sc_law.nd
  have G__law_draws : FnOk P w K mg base CX0 1 T.f__law_draws T.fd__law_draws ["_law_script", "_law_many"] (spDraws K) := ok__law_draws T.F__law_draws T
  have G__law_opening : FnOk P w K mg base CX0 2 T.f__law_opening T.fd__law_opening ["_law_some", "_law_size", "_law_stake"] (spOpening K) := ok__law_opening T
  have G__law_perm : FnOk P w K mg base CX0 1 T.f__law_perm T.fd__law_perm ["_law_some", "_law_size"] (spPerm K) := ok__law_perm T.F__law_perm T
  have G__law_same : FnOk P w K mg base CX0 3 T.f__law_same T.fd__law_same ["_law_told", "_law_due"] (spSame K 2) := ok__law_same T 2
  have G_first_wrong := ok_first_wrong (P := P) (w := w) (base := base) T (k := 0)
  have G__law_free := ok__law_free (P := P) (w := w) (base := base) T (k := 0)
  have G__law_after := ok__law_after (P := P) (w := w) (base := base) T (k := 0)
  have G__law_spoilt := ok__law_spoilt (P := P) (w := w) (base := base) T (k := 0)
  have G__law_bent := ok__law_bent (P := P) (w := w) (base := base) T (k := 0)
  have G__law_first := ok__law_first (P := P) (w := w) (base := base) T (k := 0)
  refine F.ok sc_law (fun vs H Q E h => ?_) (fun cdv A outer s H vs Q E hr h => ?_)
  · obtain ⟨a, ns, rfl, _⟩ := h
    rfl
  · obtain ⟨a, ns, rfl, hS, hlen, q⟩ := h
    refine ⟨_, (pss_cons (ps_set (i := 1) nd rfl (.inl rfl) (pe_call G__law_draws (hr.mono (by omega)) (by rfl) T.m__law_draws T.F__law_draws.kp T.b__law_draws .nil pass0 (pa_cons (pv 0) (pa_cons pe_int pa_nil))))
      (pss_cons (ps_set (i := 2) nd rfl (.inl rfl) (pe_op op_add pe_int (pe_op op_mod (pe_ix ix_list (pv 1) pe_int (fun _ _ => rfl)) pe_int)))
      (pss_cons (ps_set (i := 3) nd rfl (.inl rfl) (pe_op op_add pe_int (pe_op op_mod (pe_ix ix_list (pv 1) pe_int (fun _ _ => rfl)) (pe_ix ix_list (pe_lst (pa_cons pe_int (pa_cons pe_int pa_nil))) (pe_op op_mod (pe_ix ix_list (pv 1) pe_int (fun _ _ => rfl)) pe_int) (fun _ _ => rfl)))))
      (pss_cons (ps_set (i := 4) nd rfl (.inl rfl) (pe_cmpR op_eq (pe_op op_mod (pe_ix ix_list (pv 1) pe_int (fun _ _ => rfl)) pe_int) pe_int (nomark _)))
      (pss_cons (ps_set (i := 5) nd rfl (.inl rfl) (pe_ix ix_tup (pe_call G__law_opening (hr.mono (by omega)) (by rfl) T.m__law_opening T.F__law_opening.kp T.b__law_opening .nil pass0 (pa_cons (pe_slice sl_list (pv 1) (po_some pe_int) po_none) (pa_cons (pv 2) (pa_cons (pv 3) pa_nil)))) pe_int (fun _ _ => rfl)))
      (pss_cut (ps_if (pt_cmpR op_gt (pe_op op_mod (pe_ix ix_list (pv 1) pe_int (fun _ _ => rfl)) pe_int) pe_int (nomark _))
        (pss_one (ps_set (i := 5) nd rfl (.inl rfl) (pe_op op_rep (pe_lst (pa_cons (pe_op op_mul (pv 3) (pv 2)) pa_nil)) (pv 2))))
        pss_nil)
      (pss_cons (ps_set (i := 6) nd rfl (.inl rfl) (pe_call G__law_perm (hr.mono (by omega)) (by rfl) T.m__law_perm T.F__law_perm.kp T.b__law_perm .nil pass0 (pa_cons (pe_slice sl_list (pv 1) (po_some (pe_op op_add pe_int (pe_op op_mod (pe_ix ix_list (pv 1) pe_int (fun _ _ => rfl)) pe_int))) po_none) (pa_cons (pv 2) pa_nil))))
      (pss_cons (ps_set (i := 7) nd rfl (.inl rfl) (pe_tup (pa_cons (pv 3) (pa_cons (pv 2) (pa_cons (pv 4) (pa_cons pe_int (pa_cons (pe_callTy call_list_of (by rfl) T.m_list (by decide +kernel) (pa_cons (pv 6) pa_nil)) (pa_cons pe_int (pa_cons (pe_callTy call_list_of (by rfl) T.m_list (by decide +kernel) (pa_cons (pv 5) pa_nil)) (pa_cons (pe_lst pa_nil) pa_nil))))))))))
      (pss_cons (ps_set (i := 8) nd rfl (.inl rfl) (pe_lst pa_nil))
      (pss_cons (ps_set (i := 9) nd rfl (.inl rfl) (pe_op op_mod (pe_ix ix_list (pv 1) pe_int (fun _ _ => rfl)) pe_int))
      (pss_cons (ps_set (i := 10) nd rfl (.inl rfl) (pe_op op_mod (pe_ix ix_list (pv 1) pe_int (fun _ _ => rfl)) (pv 2)))
      (pss_cons (ps_for PassesOwn.never rfl (pi_range1 rfl T.m_range (pa_cons (pv 2) pa_nil)) (pg_name (i := 11) nd rfl (.inl rfl))
        (pss_cons (ps_set (i := 12) nd rfl (.inl rfl) (pe_call G__law_free (hr.mono (by omega)) (by rfl) T.m__law_free T.F__law_free.kp T.b__law_free .nil pass0 (pa_cons (pv 7) (pa_cons (pe_slice sl_list (pv 1) (po_some (pe_op op_add pe_int (pe_op op_mul pe_int (pv 11)))) po_none) pa_nil))))
          (pss_cut (ps_if (PW.pt (pw_and (pt_cmpR op_gt (pv 9) pe_int (nomark _)) (pw_and (pt_cmpR op_lt (pv 9) pe_int (nomark _)) (pw_and (pt_cmpR op_eq (pv 11) (pv 10) (nomark _)) (pw_and1 (pt_cmpR op_eq (pe_ix ix_tup (pv 12) pe_int (fun _ _ => rfl)) pe_str (nomark _)))))))
            (pss_cons (ps_set (i := 13) nd rfl (.inl rfl) (pe_op op_sub (pe_op op_sub (pe_op op_add (pe_callB call_len_seq (by rfl) T.m_len PySem.boot_len (pa_cons (pe_ix ix_tup (pv 7) pe_int (fun _ _ => rfl)) pa_nil)) (pe_callB call_len_seq (by rfl) T.m_len PySem.boot_len (pa_cons (pe_ix ix_tup (pv 7) pe_int (fun _ _ => rfl)) pa_nil))) (pe_callB call_len_seq (by rfl) T.m_len PySem.boot_len (pa_cons (pe_ix ix_tup (pv 12) pe_int (fun _ _ => rfl)) pa_nil))) pe_int))
              (pss_cons (ps_set (i := 14) nd rfl (.inl rfl) (pe_op op_sub (pe_op op_mod (pe_ix ix_list (pv 1) pe_int (fun _ _ => rfl)) (pe_op op_add (pe_op op_mul (pe_op op_mul pe_int (pv 3)) (pv 2)) pe_int)) pe_int))
              (pss_one (ps_set (i := 12) nd rfl (.inl rfl) (pe_op op_catT (pe_op op_catT (pe_slice sl_tup (pv 12) po_none (po_some pe_int)) (pe_tup (pa_cons (pe_op op_sub (pe_op op_mul (pv 3) (pv 2)) (pe_op op_mul (pv 14) (pv 13))) (pa_cons (pv 14) pa_nil)))) (pe_slice sl_tup (pv 12) (po_some pe_int) po_none))))))
            pss_nil)
          (pss_cons (ps_expr (pe_bm PySem.F.plainAttrs_list PySem.F.slot_list_append PySem.F.type_list_append mt_append (pv 8) (pa_cons (pv 12) pa_nil)))
          (pss_one (ps_set (i := 7) nd rfl (.inl rfl) (pe_call G__law_after (hr.mono (by omega)) (by rfl) T.m__law_after T.F__law_after.kp T.b__law_after .nil pass0 (pa_cons (pv 7) (pa_cons (pv 12) pa_nil)))))))))
      (pss_cut (ps_if (pt_cmpR op_lt (pv 9) pe_int (nomark _))
        (pss_one (ps_asg (pe_call G__law_spoilt (hr.mono (by omega)) (by rfl) T.m__law_spoilt T.F__law_spoilt.kp T.b__law_spoilt .nil pass0 (pa_cons (pe_ix ix_list (pv 8) (pv 10) (fun _ _ => rfl)) (pa_cons (pv 9) (pa_cons (pe_ix ix_list (pv 1) pe_int (fun _ _ => rfl)) (pa_cons (pv 2) pa_nil))))) (pg_sub (pv 8) (pv 10) set_list)))
        pss_nil)
      (pss_cons (ps_set (i := 8) nd rfl (.inl rfl) (pe_call G__law_bent (hr.mono (by omega)) (by rfl) T.m__law_bent T.F__law_bent.kp T.b__law_bent .nil pass0 (pa_cons (pv 8) (pa_cons (pv 9) (pa_cons (pv 10) (pa_cons (pv 2) pa_nil))))))
      (pss_cons (ps_set (i := 15) nd rfl (.inl rfl) (pe_call G__law_first (hr.mono (by omega)) (by rfl) T.m__law_first T.F__law_first.kp T.b__law_first .nil pass0 (pa_cons (pe_tup (pa_cons (pv 3) (pa_cons (pv 2) (pa_cons (pv 4) (pa_cons pe_int (pa_cons (pe_callTy call_list_of (by rfl) T.m_list (by decide +kernel) (pa_cons (pv 6) pa_nil)) (pa_cons pe_int (pa_cons (pe_callTy call_list_of (by rfl) T.m_list (by decide +kernel) (pa_cons (pv 5) pa_nil)) (pa_cons (pe_lst pa_nil) pa_nil))))))))) (pa_cons (pv 8) pa_nil))))
      (pss_cons (ps_setLc (i := 16) (own := [("_law_row", 19)]) (g := gName 19) (tt := tYes) rfl nd rfl rfl (sw_true rfl rfl rfl (by decide +kernel)) (pi_list (pv 8)) (blkOk_by (own := [("_law_row", 19)]) (N := Su.N_law) (sc := defScope s_law) (by decide +kernel)) (fun _ _ _ _ _ => (pg_name (i := 19) nd rfl (.inl rfl))) (fun _ _ _ _ _ => pts_nil) (fun _ _ _ _ _ => (pe_op (op_catTK (K := K) rfl) (pe_slice (sl_tupK (K := K) rfl) (pv 19) po_none (po_some pe_int)) (pe_tup (pa_cons (pe_callTy (call_list_ofK (K := K) rfl) (by rfl) T.m_list (by decide +kernel) (pa_cons (pe_ix (ix_tupK (K := K) rfl) (pv 19) pe_int (fun _ _ => rfl)) pa_nil)) (pa_cons (pe_callTy (call_list_ofK (K := K) rfl) (by rfl) T.m_list (by decide +kernel) (pa_cons (pe_ix (ix_tupK (K := K) rfl) (pv 19) pe_int (fun _ _ => rfl)) pa_nil)) pa_nil))))))
      (pss_cons (ps_set (i := 17) nd rfl (.inl rfl) (pe_lst (pa_cons (pe_callTy call_list_of (by rfl) T.m_list (by decide +kernel) (pa_cons (pv 5) pa_nil)) (pa_cons (pe_callTy call_list_of (by rfl) T.m_list (by decide +kernel) (pa_cons (pv 6) pa_nil)) pa_nil))))
      (pss_cons (ps_for PassesOwn.never rfl (pi_range1 rfl T.m_range (pa_cons pe_int pa_nil)) (pg_name (i := 18) nd rfl (.inl rfl))
        (pss_one (ps_if (pt_not (pt_val (pe_call G__law_same (hr.mono (by omega)) (by rfl) T.m__law_same T.F__law_same.kp T.b__law_same .nil pass0 (pa_cons (pe_call G_first_wrong (hr.mono (by omega)) (by rfl) T.m_first_wrong T.F_first_wrong.kp T.b_first_wrong .nil pass0 (pa_cons (pv 3) (pa_cons (pe_ix ix_list (pv 17) pe_int (fun _ _ => rfl)) (pa_cons (pe_ix ix_list (pv 17) pe_int (fun _ _ => rfl)) (pa_cons (pv 4) (pa_cons (pv 16) pa_nil)))))) (pa_cons (pv 15) pa_nil)))))
            (pss_one (ps_ret pe_bl))
            pss_nil)))
      (pss_one (ps_ret (pe_and (pe_cmpR (op_eqD hr.units) (pv 16) (pv 8) (nomark _)) (pe_one (pe_cmpR (op_eqD hr.units) (pv 17) (pe_lst (pa_cons (pv 5) (pa_cons (pv 6) pa_nil))) (nomark _)))))))))))))))))))))))), ?_⟩
    refine q_callN (by walk_at "ea") (spN_draws (m := 84) hS hlen (by decide)) ?_
    rintro _ p H1 ⟨rows, hR, rfl⟩ hp e1 h1
    have hl := hR.1
    have hs1 := sq_of (K := K) h1
    have ixr : ∀ {i : Nat}, i < 84 → atI (rows.map V.int) (i : Int) = some (.int (rows.getD i 0)) := fun {i} h => Su.at_rows (z := (i : Int)) (by omega) (by omega)
    have r0 := ixr (i := 0) (by decide)
    have r1 := ixr (i := 1) (by decide)
    have r2 := ixr (i := 2) (by decide)
    have r3 := ixr (i := 3) (by decide)
    have r4 := ixr (i := 4) (by decide)
    have r5 := ixr (i := 5) (by decide)
    have r6 := ixr (i := 6) (by decide)
    have r7 := ixr (i := 7) (by decide)
    generalize rows.getD 0 0 = z0 at r0
    generalize rows.getD 1 0 = z1 at r1
    generalize rows.getD 2 0 = z2 at r2
    generalize rows.getD 3 0 = z3 at r3
    generalize rows.getD 4 0 = z4 at r4
    generalize rows.getD 5 0 = z5 at r5
    generalize rows.getD 6 0 = z6 at r6
    generalize rows.getD 7 0 = z7 at r7
    clear ixr
    have ix : ∀ {H2 : Hp} {σ : L2.St} {j : Int} {v : V}, Ex H1 H2 → σ[1]? = some (some (.ref p)) → atI (rows.map V.int) j = some v → Ev (tOp (rIxL K) (tVar 1) (tC (.int j))) σ H2 v := fun e g hv => ev_op (ev_var g) ev_c (rv_ixL (ex_l e hs1) hv)
    refine q_asg (v := .int (2 + z0 % 8)) (ev_op ev_c (ev_op (ix (Ex.refl _) rfl r0) ev_c (Su.rv_mod (by decide))) rv_I0) fun H2 e2 => ?_
    obtain ⟨n, hn⟩ : ∃ n : Nat, 2 + z0 % 8 = (n : Int) := ⟨(2 + z0 % 8).toNat, by omega⟩
    have n1 : 2 ≤ n := by omega
    have n2 : n ≤ 9 := by omega
    rw [hn]
    clear hn r0
    have hsel : ∃ m : Int, (m = 7 ∨ m = 1000000) ∧ atI [V.int 7, .int 1000000] (z2 % 2) = some (.int m) := ⟨if z2 % 2 = 0 then 7 else 1000000, by split; exact .inl rfl; exact .inr rfl, at2 (by omega) (by omega)⟩
    obtain ⟨m, hm, hma⟩ := hsel
    have m0 := Int.emod_nonneg z1 (show m ≠ 0 by omega)
    have m1 := Int.emod_lt_of_pos z1 (show 0 < m by omega)
    refine q_asg (v := .int (1 + z1 % m)) (ev_op ev_c (ev_op (ix e2 rfl r1) (ev_ixN (K := K) (el_lst (ea_cons ev_c (ea_cons ev_c ea_nil)) (by show 2 ≤ 100000; decide)) (ev_op (ix e2 rfl r2) ev_c (Su.rv_mod (by decide))) hma) (Su.rv_mod (by omega))) rv_I0) fun H3 e3 => ?_
    have s1 : 1 ≤ 1 + z1 % m := by omega
    have s2 : 1 + z1 % m ≤ 1000000 := by omega
    generalize 1 + z1 % m = st at s1 s2 ⊢
    clear m0 m1 r1 hma r2 hm
    have e13 := e2.trans e3
    refine q_asg (ev_op (ev_op (ix e13 rfl r3) ev_c (Su.rv_mod (by decide))) ev_c (rv_eq rfl)) fun H3' e3' => ?_
    generalize decide (V.int (z3 % 2) = V.int 1) = bd
    have e13 := e13.trans e3'
    refine q_asgX (te_op (te_callX (ta_consX (el_go (el_sl (ev_var rfl) (eo_some (i := ((56 : Nat) : Int)) ev_c) eo_none (ex_l e13 hs1)) fun p0 H4 hp0 e4 h4 => ?_))))
    rw [cut_from, ← List.map_drop] at h4
    refine ta_all (vs := [.int (n : Int), .int st]) (ea_cons (ev_var rfl) (ea_cons (ev_var rfl) ea_nil)) fun H5 e5 => ?_
    refine ⟨p0, rows.drop 56, n, st, rfl, sq_of (e5 _ _ h4), by rw [List.length_drop]; omega, by omega, by omega, s1, s2, fun pl0 ws r0 H6 t0 q1 q2 hq1 hq2 hq12 e6 ht0 g1 g2 hD hrp => ?_⟩
    refine ev_c H6 (Ex.refl _) _ fun H7 e7 => (rv_ixT (st_of (e7 _ _ ht0)) rfl) H7 (Ex.refl _) _ fun H8 e8 => ?_
    have e18 := (((e13.trans e4).trans e5).trans e6).trans (e7.trans e8)
    have g1 := (e7.trans e8) _ _ g1
    have hpn : pl0.length = n := hD.l1
    clear hD hrp g2 ht0 hq12 hq2 hq1 h4 hp0
    refine q_cut (M := fun σ' H' => ∃ (q1 : Addr) (pl : List Int), σ' = [some (.ref a), some (.ref p), some (.int (n : Int)), some (.int st), some (.bl bd), some (.ref q1), none, none, none, none, none, none, none, none, none, none, none, none, none, none] ∧ Ex H1 H' ∧ H' q1 = some (.lst (pl.map V.int)) ∧ pl.length = n) ?_ ?_
    · refine s_when (et_test (ev_op (ev_op (ix e18 rfl r3) ev_c (Su.rv_mod (by decide))) ev_c rv_I0)) (fun _ H9 e9 => ?_) (fun _ H9 e9 => ⟨q1, pl0, rfl, e18.trans e9, e9 _ _ g1, hpn⟩)
      refine s_asgL (el_rep1 (k := (n : Int)) (el_lst (ea_cons (ev_op (ev_var rfl) (ev_var rfl) (Su.rv_mul (Su.CMul.r (by omega) (by omega)))) ea_nil) (by show 1 ≤ 100000; decide)) (ev_var rfl) (by omega) (by omega)) fun q3 H10 hq3 e10 h10 => ?_
      rw [Int.toNat_natCast, ← map_repl] at h10
      exact ⟨q3, _, rfl, (e18.trans e9).trans e10, h10, List.length_replicate⟩
    clear g1 hpn e18 e8 e7 e6 e5 e4 e13 e3' e3 e2
    rintro _ H2 ⟨q1, pl, rfl, e2, hpl, hpn⟩
    -- the queue
    obtain ⟨kk, hkk⟩ : ∃ kk : Nat, 56 + z7 % 2 = (kk : Int) := ⟨(56 + z7 % 2).toNat, by omega⟩
    refine q_asgX (te_callX (ta_consX (el_go (el_sl (ev_var rfl) (eo_some (i := (kk : Int)) (ev_is (ev_op ev_c (ev_op (ix e2 rfl r7) ev_c (Su.rv_mod (by decide))) rv_I0) (congrArg V.int hkk))) eo_none (ex_l e2 hs1)) fun p0 H4 hp0 e4 h4 => ?_)))
    rw [cut_from, ← List.map_drop] at h4
    refine ta_all (vs := [.int (n : Int)]) (ea_cons (ev_var rfl) ea_nil) fun H5 e5 => ?_
    refine ⟨p0, rows.drop kk, n, rfl, sq_of (e5 _ _ h4), by rw [List.length_drop]; omega, by omega, fun line H6 pq hpq e6 hlq hperm => ?_⟩
    obtain ⟨rr, rfl, hrr⟩ := perm_nat hperm
    have hln : (natI rr).Nodup := natI_nd (hrr.nodup_iff.mpr List.nodup_range)
    have hll : (natI rr).length = n := by rw [natI_len, hrr.length_eq, List.length_range]
    have hlm : ∀ x ∈ natI rr, 0 ≤ x ∧ x < (n : Int) := fun x hx => by
      obtain ⟨j, hj, rfl⟩ := List.mem_map.mp hx
      have := List.mem_range.mp (hrr.mem_iff.mp hj)
      omega
    generalize natI rr = line at hln hll hlm hlq
    have e26 := (e4.trans e5).trans e6
    have e16 := e2.trans e26
    have hpl6 := e26 _ _ hpl
    clear e26 hpl hp0 h4 hkk r7 hperm hrr
    -- the books
    refine q_asgX (te_book (K := K) (pl := pl) (ev_var rfl) (by rw [hpn]; exact ev_var rfl) (ev_var rfl) (ev_var rfl) hlq (ev_var rfl) hpl6 fun t0 a0 b0 c0 H7 ht0 ha0 hb0 hc0 e7 hB7 => ?_)
    refine q_asgL (xs := ([] : List RepD).map fun x => V.ref x.t) (el_lst ea_nil (by decide)) fun rp H8 hrp8 e8 h8 => ?_
    have hrpH : ∀ {c : Addr} {o : HO}, H7 c = some o → c ≠ rp := fun hc z => by rw [z, hrp8] at hc; cases hc
    have e18 := (e16.trans e7).trans e8
    refine q_asg (v := .int (z4 % 17)) (ev_op (ix e18 rfl r4) ev_c (Su.rv_mod (by decide))) fun H9 e9 => ?_
    have p0 := Int.emod_nonneg z5 (show (n : Int) ≠ 0 by omega)
    have p1 := Int.emod_lt_of_pos z5 (show (0 : Int) < (n : Int) by omega)
    obtain ⟨pc, hpc⟩ : ∃ pc : Nat, z5 % (n : Int) = (pc : Int) := ⟨(z5 % (n : Int)).toNat, by omega⟩
    refine q_asg (v := .int (pc : Int)) (ev_is (ev_op (ix (e18.trans e9) rfl r5) (ev_var rfl) (Su.rv_mod (by omega))) (congrArg V.int hpc)) fun H10 e10 => ?_
    have hpcn : pc < n := by omega
    generalize z4 % 17 = way
    have e79 := (e8.trans e9).trans e10
    have e110 := ((e16.trans e7).trans e79)
    have hrp6 : H6 rp = none := fresh_back e7 hrp8
    have hB10 := hB7.ex e79
    have h10 := (e9.trans e10) _ _ h8
    have hBk0 : BookOk n (led0 st pl line bd) := ⟨s1, s2, hpn, n1, n2, hlm, fun x hx => absurd hx List.not_mem_nil, by show line.length + 0 ≤ n; omega, hln, Int.le_refl _, by show (line.length : Int) + 0 + (1 - 1) = (n : Int); omega, Int.le_refl _⟩
    have hLd0 : LedOk (led0 st pl line bd) := ⟨s1, s2, by show pl.length ≤ 100; omega, fun x hx => by show 0 ≤ x ∧ x < (pl.length : Int); rw [hpn]; exact hlm x hx, fun x hx => absurd hx List.not_mem_nil, by show line.length + 0 ≤ pl.length; omega, by show (-1000 : Int) ≤ 1; decide, by show (1 : Int) ≤ 1000; decide⟩
    have e610 := e7.trans e79
    clear p0 p1 hpc r4 r5 e8 e9 e10 h8 e79
    show tSeq _ _ _ [some (.ref a), some (.ref p), some (.int (n : Int)), some (.int st), some (.bl bd), some (.ref q1), some (.ref pq), some (.ref t0), some (.ref rp), some (.int way), some (.int (pc : Int)), none, none, none, none, none, none, none, none, none] _
    refine q_forR1 (n := (n : Int)) (ea_cons (ev_var rfl) ea_nil) (by omega) (fun i σ' H' => ∃ (t a' b c : Addr) (L : LedM) (xs : List RepD) (y11 y12 y13 y14 : Option V), σ' = [some (.ref a), some (.ref p), some (.int (n : Int)), some (.int st), some (.bl bd), some (.ref q1), some (.ref pq), some (.ref t), some (.ref rp), some (.int way), some (.int (pc : Int)), y11, y12, y13, y14, none, none, none, none, none] ∧ Ex H6 H' ∧ BookAt H' t a' b c L ∧ a' ≠ rp ∧ b ≠ rp ∧ c ≠ rp ∧ BookOk n L ∧ L.opn = (i : Int) + 1 ∧ L.stake = st ∧ RepsAt H' rp xs ∧ xs.length = i ∧ (∀ x ∈ xs, (x.r.kind = ("box" : Str) ∨ x.r.kind = ("draw" : Str)) ∧ x.r.fal.length ≤ 100 ∧ x.r.hlp.length ≤ 100) ∧ (∀ x ∈ xs, ∀ c ∈ x.all, c ≠ rp)) ?_ ?_ ?_
    · intro H11 e11
      exact ⟨t0, a0, b0, c0, led0 st pl line bd, [], _, _, _, _, rfl, e610.trans e11, hB10.ex e11, hrpH hB7.ha, hrpH hB7.hb, hrpH hB7.hc, hBk0, rfl, rfl, ⟨e11 _ _ h10, fun x hx => absurd hx List.not_mem_nil, fun x hx => absurd hx List.not_mem_nil⟩, rfl, fun x hx => absurd hx List.not_mem_nil, fun x hx => absurd hx List.not_mem_nil⟩
    · clear hB10 h10 e610 e110 hBk0 hLd0 hB7 e7 ht0 ha0 hb0 hc0 e18 hrpH
      rintro i σ' Hi hi ⟨t, a', b, c, L, xs, y11, y12, y13, y14, rfl, ex, hB, na, nb, nc, hBk, hop, hsk, hRs, hxl, hxk, hxa⟩
      have e1i := e16.trans ex
      have hld := hBk.ld
      refine q_asgX (te_callX (ta_consX ((ev_var rfl) Hi (Ex.refl _) _ fun Ha ea => ta_consX (el_go (el_sl (ev_var rfl) (eo_some (i := ((8 + 4 * i : Nat) : Int)) (ev_is (ev_op ev_c (ev_op ev_c (ev_var rfl) (Su.rv_mul (Su.CMul.l (by decide) (by decide)))) rv_I0) (by push_cast; rfl))) eo_none (ex_l (e1i.trans ea) hs1)) fun p0 Hb hp0 eb hb => ta_nilX ?_))))
      rw [cut_from, ← List.map_drop] at hb
      have eib := ea.trans eb
      refine ⟨t, a', b, c, p0, L, n, rows.drop (8 + 4 * i), rfl, hB.ex eib, hBk, by omega, sq_of hb, by rw [List.length_drop]; omega, fun Hc r pf pg R ec hr hpf hpg hR hRok => ?_⟩
      have eic := eib.trans ec
      have hri := fresh_back eib hr
      have hpfi := fresh_back eib hpf
      have hpgi := fresh_back eib hpg
      have rpi : Hi rp = some (.lst (xs.map fun x => V.ref x.t)) := hRs.h0
      have newrp : ∀ {c : Addr}, Hi c = none → c ≠ rp := fun hc z => by rw [z, rpi] at hc; cases hc
      have hfl : R.fal.length ≤ 100 := by
        have := filt_diff hBk.ln hRok.fn hRok.fl
        have := hBk.n2
        omega
      have hhn := hRok.hn
      refine q_cut (M := fun σ' H' => ∃ (r' : Addr) (R' : RepM) (y13 y14 : Option V), σ' = [some (.ref a), some (.ref p), some (.int (n : Int)), some (.int st), some (.bl bd), some (.ref q1), some (.ref pq), some (.ref t), some (.ref rp), some (.int way), some (.int (pc : Int)), some (.int (i : Int)), some (.ref r'), y13, y14, none, none, none, none, none] ∧ Ex Hi H' ∧ Hi r' = none ∧ RepAt H' r' pf pg R' ∧ R'.kind = R.kind ∧ R'.fal = R.fal ∧ R'.hlp = R.hlp ∧ R'.who = R.who) ?_ ?_
      · have rx : ∀ {H2 : Hp} {σ : L2.St} {j : Int} {v : V}, Ex Hc H2 → σ[12]? = some (some (.ref r)) → atI [V.int R.turn, .str R.kind, .int R.who, .int R.coins, .int R.share, .ref pf, .ref pg] j = some v → Ev (tOp (rIxT K) (tVar 12) (tC (.int j))) σ H2 v := fun e g hv => ev_op (ev_var g) ev_c (rv_ixT (st_of (e _ _ hR.ht)) hv)
        have bx : ∀ {H2 : Hp} {σ : L2.St} {j : Int} {v : V}, Ex Hi H2 → σ[7]? = some (some (.ref t)) → atI [V.int L.stake, .int (L.pl.length : Int), .bl L.bid, .int (L.opn - 1), .ref a', .int L.due, .ref b, .ref c] j = some v → Ev (tOp (rIxT K) (tVar 7) (tC (.int j))) σ H2 v := fun e g hv => ev_op (ev_var g) ev_c (rv_ixT (st_of (e _ _ hB.ht)) hv)
        refine s_when (et_and (et_test (ev_op (ev_var rfl) ev_c rv_I0)) fun _ => et_and (et_test (ev_op (ev_var rfl) ev_c rv_I0)) fun _ => et_and (et_test (ev_op (ev_var rfl) (ev_var rfl) (rv_eq rfl))) fun _ => et_test (ev_op (rx (Ex.refl _) rfl rfl) ev_c (rv_eq rfl))) (fun _ Hd ed => ?_) (fun _ Hd ed => ⟨r, R, _, _, rfl, eic.trans ed, hri, hR.ex ed, rfl, rfl, rfl, rfl⟩)
        have eid := eic.trans ed
        refine q_asg (v := .int ((L.line.length : Int) + (L.drew.length : Int) - (R.fal.length : Int) - 1)) (ev_op (ev_op (ev_op (ev_is (ev_len (bx eid rfl rfl) (sq_of (eid _ _ hB.ha))) (by rw [List.length_map])) (ev_is (ev_len (bx eid rfl rfl) (sq_of (eid _ _ hB.hc))) (by rw [List.length_map])) rv_I0) (ev_is (ev_len (rx ed rfl rfl) (sq_of (ed _ _ hR.hf))) (by rw [List.length_map])) rv_I0) ev_c rv_I0) fun He ee => ?_
        have hot : -1000 ≤ (L.line.length : Int) + (L.drew.length : Int) - (R.fal.length : Int) - 1 ∧ (L.line.length : Int) + (L.drew.length : Int) - (R.fal.length : Int) - 1 ≤ 1000 := by omega
        generalize (L.line.length : Int) + (L.drew.length : Int) - (R.fal.length : Int) - 1 = ot at hot ⊢
        have hpos : 0 < 2 * st * (n : Int) + 2 := by
          have : 0 ≤ 2 * st * (n : Int) := Int.mul_nonneg (by omega) (by omega)
          omega
        refine q_asg (v := .int (z6 % (2 * st * (n : Int) + 2) - 1)) (ev_op (ev_op (ix ((e1i.trans eid).trans ee) rfl r6) (ev_op (ev_op (ev_op ev_c (ev_var rfl) (Su.rv_mul (Su.CMul.l (by decide) (by decide)))) (ev_var rfl) (Su.rv_mul (Su.CMul.r (by omega) (by omega)))) ev_c rv_I0) (Su.rv_mod hpos)) ev_c rv_I0) fun Hf ef => ?_
        generalize z6 % (2 * st * (n : Int) + 2) - 1 = sh
        have ecf := (ed.trans ee).trans ef
        have hRf := hR.ex ecf
        refine s_asgX2 (te_op (te_op (eu_go (xs := [V.int R.turn, .str R.kind, .int R.who]) (eu_slT (ev_var rfl) eo_none (eo_some (i := ((3 : Nat) : Int)) ev_c) (st_of hRf.ht) (by show ¬ ((0 : Nat) = 0 ∧ HT.sIx 7 7 (some ((3 : Nat) : Int)) = 7); rw [HT.sIx_nat]; omega)) fun pA HA hA eA gA => eu_go (eu_tup (ea_cons (ev_op (ev_op (ev_var rfl) (ev_var rfl) (Su.rv_mul (Su.CMul.r (by omega) (by omega)))) (ev_op (ev_var rfl) (ev_var rfl) (Su.rv_mul (Su.CMul.r (by omega) (by omega)))) rv_I0) (ea_cons (ev_var rfl) ea_nil)) (by show 2 ≤ 100000; decide)) fun pB HB hB' eB gB => ⟨pA, pB, _, _, rfl, rfl, st_of (eB _ _ gA), st_of gB, by simp, by show 3 + 2 ≤ sizeLine; decide, (fun z => by cases z), fun _ pAB hAB => ?_⟩)))
        have eAB := Ex.new (o := .tup ([V.int R.turn, .str R.kind, .int R.who] ++ [.int (st * (n : Int) - sh * ot), .int sh])) hAB
        have gAB : (upd HB pAB (.tup ([V.int R.turn, .str R.kind, .int R.who] ++ [.int (st * (n : Int) - sh * ot), .int sh]))) pAB = some (.tup ([V.int R.turn, .str R.kind, .int R.who] ++ [.int (st * (n : Int) - sh * ot), .int sh])) := upd_same
        generalize upd HB pAB (.tup ([V.int R.turn, .str R.kind, .int R.who] ++ [.int (st * (n : Int) - sh * ot), .int sh])) = HG at eAB gAB
        have efG := (eA.trans eB).trans eAB
        refine eu_go (xs := [V.ref pf, .ref pg]) (eu_slT (ev_var rfl) (eo_some (i := ((5 : Nat) : Int)) ev_c) eo_none (st_of (efG _ _ hRf.ht)) (by show ¬ (HT.sIx 7 0 (some ((5 : Nat) : Int)) = 0 ∧ HT.sIx 7 7 none = 7); rw [HT.sIx_nat]; intro z; exact absurd z.1 (by decide))) fun pC HC hC eC gC => ⟨pAB, pC, _, _, rfl, rfl, st_of (eC _ _ gAB), st_of gC, by simp, by show 5 + 2 ≤ sizeLine; decide, (fun z => by cases z), fun _ pN hN => ?_⟩
        have eAll := (ecf.trans efG).trans (eC.trans (Ex.new (o := .tup (([V.int R.turn, .str R.kind, .int R.who] ++ [.int (st * (n : Int) - sh * ot), .int sh]) ++ [.ref pf, .ref pg])) hN))
        exact ⟨pN, { R with coins := st * (n : Int) - sh * ot, share := sh }, _, _, rfl, eic.trans eAll, fresh_back (eic.trans ((ecf.trans efG).trans eC)) hN, ⟨by rw [upd_same]; rfl, eAll _ _ hR.hf, eAll _ _ hR.hg, hR.ks⟩, rfl, rfl, rfl, rfl⟩
      clear hR hri ec eic hr hpf hpg hb eib eb ea hp0
      rintro _ Hd ⟨r', R', y13', y14', rfl, eid, hr', hR', k1, k2, k3, k4⟩
      have hRk := hRok.same k1 k2 k3 k4
      have hRsd := hRs.ex eid
      have hBd := hB.ex eid
      refine q_app2 hRsd.h0 (ev_var rfl) (ev_var rfl) (by rw [List.length_map]; omega) fun He ee => ?_
      have eie := eid.trans ee
      have hRse := hRs.ex eie
      have hBe := (hB.ex eie).up (xs := xs.map (fun x => V.ref x.t) ++ [V.ref r']) (eie _ _ rpi) na nb nc
      have hRe := (hR'.ex ee).up (o := .lst (xs.map (fun x => V.ref x.t) ++ [V.ref r'])) (newrp hr') (newrp hpfi) (newrp hpgi)
      have exe : Ex H6 (upd He rp (.lst (xs.map (fun x => V.ref x.t) ++ [V.ref r']))) := ex_up (ex.trans eie) hrp6
      have hRs2 : RepsAt (upd He rp (.lst (xs.map (fun x => V.ref x.t) ++ [V.ref r']))) rp (xs ++ [⟨r', pf, pg, R'⟩]) := by
        refine ⟨by rw [upd_same, List.map_append]; rfl, fun x hx => ?_, fun x hx => ?_⟩
        · rcases List.mem_append.mp hx with hx | hx
          · have hxx := hxa x hx
            exact (hRse.hr x hx).up (hxx _ (by simp [RepD.all])) (hxx _ (by simp [RepD.all])) (hxx _ (by simp [RepD.all]))
          · rw [List.mem_singleton.mp hx]
            exact hRe
        · rcases List.mem_append.mp hx with hx | hx
          · exact hRs.hl x hx
          · rw [List.mem_singleton.mp hx]
            show R'.fal.length ≤ 1000 ∧ R'.hlp.length ≤ 1000
            rw [k2, k3]
            omega
      have rpu : (upd He rp (.lst (xs.map (fun x => V.ref x.t) ++ [V.ref r']))) rp = some (.lst (xs.map (fun x => V.ref x.t) ++ [V.ref r'])) := upd_same
      generalize upd He rp (.lst (xs.map (fun x => V.ref x.t) ++ [V.ref r'])) = Hu at hBe hRe exe hRs2 rpu
      have hbn := hBk.n2
      refine s_asgX2 (te_callX (ta_all (vs := [.ref t, .ref r']) (ea_cons (ev_var rfl) (ea_cons (ev_var rfl) ea_nil)) fun Hf ef => ?_))
      refine ⟨t, a', b, c, r', pf, pg, L, R', rfl, hBe.ex ef, hRe.ex ef, by rw [hBk.pn]; omega, by omega, by omega, by rw [k2]; omega, by rw [k3]; omega, fun z hz => by rw [hBk.pn]; exact hBk.dr z (hRk.hl z hz), fun Hg t2 a2 b2 c2 eg h1 h2 h3 h4 hB2 => ?_⟩
      have rpf := ef _ _ rpu
      have nn : ∀ {c : Addr}, Hf c = none → c ≠ rp := fun hc z => by rw [z, rpf] at hc; cases hc
      refine ⟨t2, a2, b2, c2, afterB L R', xs ++ [⟨r', pf, pg, R'⟩], _, _, _, _, rfl, (exe.trans ef).trans eg, hB2, nn h2, nn h3, nn h4, hBk.after hRk (by omega), by show L.opn + 1 = _; rw [hop]; push_cast; rfl, hsk, hRs2.ex (ef.trans eg), by rw [List.length_append, hxl]; rfl, fun x hx => ?_, fun x hx z hz => ?_⟩
      · rcases List.mem_append.mp hx with hx | hx
        · exact hxk x hx
        · rw [List.mem_singleton.mp hx]
          show (R'.kind = _ ∨ R'.kind = _) ∧ R'.fal.length ≤ 100 ∧ R'.hlp.length ≤ 100
          rw [k1, k2, k3]
          exact ⟨hRok.kd, hfl, hhn⟩
      · rcases List.mem_append.mp hx with hx | hx
        · exact hxa x hx z hz
        · rw [List.mem_singleton.mp hx] at hz
          unfold RepD.all at hz
          simp only [List.mem_cons, List.not_mem_nil, or_false] at hz
          rcases hz with rfl | rfl | rfl
          · exact newrp hr'
          · exact newrp hpfi
          · exact newrp hpgi
    · clear hB10 h10 e610 e110 hB7 e7 ht0 ha0 hb0 hc0 e18 hrpH hBk0
      rintro σ' Hi ⟨t, a', b, c, L, xs, y11, y12, y13, y14, rfl, ex, hB, na, nb, nc, hBk, hop, hsk, hRs, hxl, hxk, hxa⟩
      rw [Int.toNat_natCast] at hxl
      clear hB na nb nc hBk hop hsk
      -- one spoilt
      refine q_cut (M := fun σ' H' => ∃ xs' : List RepD, σ' = [some (.ref a), some (.ref p), some (.int (n : Int)), some (.int st), some (.bl bd), some (.ref q1), some (.ref pq), some (.ref t), some (.ref rp), some (.int way), some (.int (pc : Int)), y11, y12, y13, y14, none, none, none, none, none] ∧ Ex H6 H' ∧ RepsAt H' rp xs' ∧ xs'.length = n) ?_ ?_
      · refine s_when (et_test (ev_op (ev_var rfl) ev_c rv_I0)) (fun _ Ha ea => ?_) (fun _ Ha ea => ⟨xs, rfl, ex.trans ea, hRs.ex ea, hxl⟩)
        obtain ⟨x, hxg⟩ : ∃ x, xs[pc]? = some x := ⟨_, List.getElem?_eq_getElem (by omega)⟩
        have hxm := List.mem_of_getElem? hxg
        have hRsa := hRs.ex ea
        refine s_asgXg (te_callX (ta_all (vs := [.ref x.t, .int way, .int z6, .int (n : Int)]) (ea_cons (ev_op (ev_var rfl) (ev_var rfl) (rv_ixL (sq_of hRsa.h0) (atI_nat' (i := pc) rfl (by rw [List.getElem?_map, hxg]; rfl)))) (ea_cons (ev_var rfl) (ea_cons (ix ((e16.trans ex).trans ea) rfl r6) (ea_cons (ev_var rfl) ea_nil)))) fun Hb eb => ?_))
        have hxk1 := hxk x hxm
        refine ⟨x.t, x.pf, x.pg, x.r, way, z6, n, rfl, (hRsa.ex eb).hr x hxm, hxk1.1, n1, n2, hxk1.2.1, hxk1.2.2, fun Hc t' pf' pg' R' ec h1 h2 h3 hR' l1 l2 => ?_⟩
        have eic := (ea.trans eb).trans ec
        refine (ev_var rfl) Hc (Ex.refl _) _ fun Hd ed => (ev_var rfl) Hd (Ex.refl _) _ fun He ee => ⟨rp, _, (pc : Int), pc, rfl, rfl, (hRs.ex ((eic.trans ed).trans ee)).h0, ixN_nat (by rw [List.length_map]; omega), ?_⟩
        have eie := (eic.trans ed).trans ee
        have hRse := hRs.ex eie
        have rpb := (hRsa.ex eb).h0
        have nn : ∀ {c : Addr}, Hb c = none → c ≠ rp := fun hc z => by rw [z, rpb] at hc; cases hc
        refine ⟨xs.set pc ⟨t', pf', pg', R'⟩, rfl, ex_up (ex.trans eie) hrp6, ⟨by rw [upd_same, List.map_set], fun y hy => ?_, fun y hy => ?_⟩, by rw [List.length_set]; exact hxl⟩
        · rcases List.mem_or_eq_of_mem_set hy with hy | rfl
          · have hxx := hxa y hy
            exact (hRse.hr y hy).up (hxx _ (by simp [RepD.all])) (hxx _ (by simp [RepD.all])) (hxx _ (by simp [RepD.all]))
          · exact (hR'.ex (ed.trans ee)).up (nn h1) (nn h2) (nn h3)
        · rcases List.mem_or_eq_of_mem_set hy with hy | rfl
          · exact hRs.hl y hy
          · exact ⟨l1, l2⟩
      clear hRs hxl hxk hxa ex
      rintro _ Ha ⟨xs', rfl, ea, hRs, hxl⟩
      refine q_asgX (te_callX (ta_all (vs := [.ref rp, .int way, .int (pc : Int), .int (n : Int)]) (ea_cons (ev_var rfl) (ea_cons (ev_var rfl) (ea_cons (ev_var rfl) (ea_cons (ev_var rfl) ea_nil)))) fun Hb eb => ?_))
      refine ⟨rp, xs', way, pc, n, rfl, hRs.ex eb, by omega, by omega, fun Hc rq ys ec hY hyl => ?_⟩
      have eac := (ea.trans eb).trans ec
      refine q_asgX (te_callX (ta_consX (te_book (K := K) (pl := pl) (ev_var rfl) (by rw [hpn]; exact ev_var rfl) (ev_var rfl) (ev_var rfl) (eac _ _ hlq) (ev_var rfl) (eac _ _ hpl6) fun t2 a2 b2 c2 Hd ht2 ha2 hb2 hc2 ed hB2 => ?_)))
      refine ta_all (vs := [.ref rq]) (ea_cons (ev_var rfl) ea_nil) fun He ee => ?_
      refine ⟨t2, a2, b2, c2, rq, led0 st pl line bd, ys, rfl, hB2.ex ee, hLd0, hln, Int.le_refl _, hY.ex (ed.trans ee), fun Hf ef => ?_⟩
      have ecf := (ed.trans ee).trans ef
      have e6f := eac.trans ecf
      refine q_asgX (rl_copies (ev_var rfl) (hY.ex ecf) (by omega) (fun x => rfl) (fun x => rfl) fun ph zs Hg hph eg hZ hzr => ?_)
      have e6g := e6f.trans eg
      refine q_asgX (te_lst (ta_consX (el_go (el_list (ev_var rfl) (sq_of (e6g _ _ hpl6))) fun la Hh hla eh hha => ta_consX (el_go (el_list (ev_var rfl) (sq_of ((e6g.trans eh) _ _ hlq))) fun lb Hk hlb ek hkb => ta_nilX ⟨by show 2 ≤ sizeLine; decide, fun lp hlp => ?_⟩))))
      have eL := Ex.new (o := .lst [V.ref la, .ref lb]) hlp
      have hLp : (upd Hk lp (.lst [V.ref la, .ref lb])) lp = some (.lst [V.ref la, .ref lb]) := upd_same
      generalize upd Hk lp (.lst [V.ref la, .ref lb]) = Hl at eL hLp
      have egl := (eh.trans ek).trans eL
      have hZl := hZ.ex egl
      have hYl := (hY.ex ecf).ex (eg.trans egl)
      have hal := (ek.trans eL) _ _ hha
      have hbl := eL _ _ hkb
      have e6l := e6g.trans egl
      have fw : ∀ {H7 : Hp} {σ : L2.St}, Ex Hl H7 → σ[3]? = some (some (.int st)) → σ[17]? = some (some (.ref lp)) → σ[4]? = some (some (.bl bd)) → σ[16]? = some (some (.ref ph)) → Ev (tCall (spFirst K) [] E0 (tCons (tVar 3) (tCons (tOp (rIxL K) (tVar 17) (tC (.int 0))) (tCons (tOp (rIxL K) (tVar 17) (tC (.int 1))) (tCons (tVar 4) (tCons (tVar 16) tNil)))))) σ H7 (.int (firstL (led0 st pl line bd) (ys.map RepD.r) 0)) := fun {H7 σ} e7 g3 g17 g4 g16 => ev_call (ea_cons (ev_var g3) (ea_cons (ev_op (ev_var g17) ev_c (rv_ixL (sq_of (e7 _ _ hLp)) rfl)) (ea_cons (ev_op (ev_var g17) ev_c (rv_ixL (sq_of (e7 _ _ hLp)) rfl)) (ea_cons (ev_var g4) (ea_cons (ev_var g16) ea_nil))))) fun H8 e8 Q8 q8 _ => ⟨st, la, lb, ph, pl, line, bd, zs, rfl, (e7.trans e8) _ _ hal, (e7.trans e8) _ _ hbl, hLd0, hZl.ex (e7.trans e8), fun H9 e9 => by rw [hzr]; exact q8 H9 e9⟩
      refine q_forR1 (n := 2) (ea_cons ev_c ea_nil) (by omega) (fun i σ' H' => ∃ y18 : Option V, σ' = [some (.ref a), some (.ref p), some (.int (n : Int)), some (.int st), some (.bl bd), some (.ref q1), some (.ref pq), some (.ref t), some (.ref rq), some (.int way), some (.int (pc : Int)), y11, y12, y13, y14, some (.int (firstL (led0 st pl line bd) (ys.map RepD.r) 0)), some (.ref ph), some (.ref lp), y18, none] ∧ Ex Hl H') ?_ ?_ ?_
      · intro H7 e7
        exact ⟨_, rfl, e7⟩
      · rintro i σ' H7 hi ⟨y18, rfl, e7⟩
        exact s_when (b := false) (et_not (a := true) (et_sameD (.int _) (evd_int (fw e7 rfl rfl rfl rfl)) (evd_int (ev_var rfl)))) (fun h => by cases h) fun _ H8 e8 => ⟨_, rfl, e7.trans e8⟩
      · rintro σ' H7 ⟨y18, rfl, e7⟩
        refine s_ret (v := .bl true) (ev_andV (a := true) (b := true) (ev_op (ev_var rfl) (ev_var rfl) ?_) fun _ => ev_opL (ev_var rfl) (el_lst (ea_cons (ev_var rfl) (ea_cons (ev_var rfl) ea_nil)) (by show 2 ≤ 100000; decide)) fun p9 H9 hp9 e9 => ?_) fun H10 e10 => q H10
        · have hd1 := (hZl.ex e7).dp (K := K)
          have hd2 := (hYl.ex e7).dp (K := K)
          rw [hzr] at hd1
          exact rv_eqD hd1 hd2 (shaped_reps fun r hr => by
            obtain ⟨x, hx, rfl⟩ := List.mem_map.mp hr
            exact (hYl.hr x hx).ks)
        · have e79 := e7.trans e9
          have e69 := e6l.trans e79
          exact rv_eqD (d := .list [intD pl, intD line]) (.lst (sq_of (e79 _ _ hLp)) (.cons (dp_ints (sq_of (e79 _ _ hal))) (.cons (dp_ints (sq_of (e79 _ _ hbl))) .nil))) (.lst (sq_of hp9) (.cons (dp_ints (sq_of (e69 _ _ hpl6))) (.cons (dp_ints (sq_of (e69 _ _ hlq))) .nil))) (shaped_two pl line)
end

end Su
namespace Su
set_option maxHeartbeats 8000000 in
def top_mk {K : PySem.W.Frag} {h : Heap} {mg : Str → Option Value} (X : K.In h) (G : h.Ns mainGlobals mg)
    {gc_Ledger : Addr} (g_Ledger : PySem.W.nsIn K mainGlobals "Ledger" = some (some (.ref gc_Ledger)))
    {od0 an0 : Option Addr} {sl0 : Array (Option Value)} {oc0 kV0 dc0 pm0 cd0 ct0 : Value} {f0 : Addr}
    (a0 : PySem.W.nsIn K mainGlobals "is_covered" = some (some (.ref f0))) (l0 : K.lookup f0 = some ⟨oc0, od0, .func (PySem.W.fnOf "is_covered" "is_covered" (defArgs s_is_covered) (defBody s_is_covered) (defScope s_is_covered) .none kV0 dc0 pm0 an0 cd0 ct0), sl0⟩) (c0 : PySem.W.codeIn K cd0 "is_covered" = true) (k0 : PySem.W.keepIn K (.ref f0) = true)
    {od1 an1 : Option Addr} {sl1 : Array (Option Value)} {oc1 kV1 dc1 pm1 cd1 ct1 : Value} {f1 : Addr}
    (a1 : PySem.W.findIn K (.ref gc_Ledger) "__init__" = some (some (.ref f1))) (i1 : PySem.W.isFn K (.ref f1) = true) (l1 : K.lookup f1 = some ⟨oc1, od1, .func (PySem.W.fnOf "__init__" "Ledger.__init__" (defArgs s_Ledger___init__) (defBody s_Ledger___init__) (defScope s_Ledger___init__) .none kV1 dc1 pm1 an1 cd1 ct1), sl1⟩) (c1 : PySem.W.codeIn K cd1 "Ledger.__init__" = true) (k1 : PySem.W.keepIn K (.ref f1) = true)
    {od2 an2 : Option Addr} {sl2 : Array (Option Value)} {oc2 kV2 dc2 pm2 cd2 ct2 : Value} {f2 : Addr}
    (a2 : PySem.W.findIn K (.ref gc_Ledger) "follows" = some (some (.ref f2))) (i2 : PySem.W.isFn K (.ref f2) = true) (l2 : K.lookup f2 = some ⟨oc2, od2, .func (PySem.W.fnOf "follows" "Ledger.follows" (defArgs s_Ledger_follows) (defBody s_Ledger_follows) (defScope s_Ledger_follows) .none kV2 dc2 pm2 an2 cd2 ct2), sl2⟩) (c2 : PySem.W.codeIn K cd2 "Ledger.follows" = true) (k2 : PySem.W.keepIn K (.ref f2) = true)
    {od3 an3 : Option Addr} {sl3 : Array (Option Value)} {oc3 kV3 dc3 pm3 cd3 ct3 : Value} {f3 : Addr}
    (a3 : PySem.W.findIn K (.ref gc_Ledger) "pledge_can_pay" = some (some (.ref f3))) (i3 : PySem.W.isFn K (.ref f3) = true) (l3 : K.lookup f3 = some ⟨oc3, od3, .func (PySem.W.fnOf "pledge_can_pay" "Ledger.pledge_can_pay" (defArgs s_Ledger_pledge_can_pay) (defBody s_Ledger_pledge_can_pay) (defScope s_Ledger_pledge_can_pay) .none kV3 dc3 pm3 an3 cd3 ct3), sl3⟩) (c3 : PySem.W.codeIn K cd3 "Ledger.pledge_can_pay" = true) (k3 : PySem.W.keepIn K (.ref f3) = true)
    {od4 an4 : Option Addr} {sl4 : Array (Option Value)} {oc4 kV4 dc4 pm4 cd4 ct4 : Value} {f4 : Addr}
    (a4 : PySem.W.findIn K (.ref gc_Ledger) "payers" = some (some (.ref f4))) (i4 : PySem.W.isFn K (.ref f4) = true) (l4 : K.lookup f4 = some ⟨oc4, od4, .func (PySem.W.fnOf "payers" "Ledger.payers" (defArgs s_Ledger_payers) (defBody s_Ledger_payers) (defScope s_Ledger_payers) .none kV4 dc4 pm4 an4 cd4 ct4), sl4⟩) (c4 : PySem.W.codeIn K cd4 "Ledger.payers" = true) (k4 : PySem.W.keepIn K (.ref f4) = true)
    {od5 an5 : Option Addr} {sl5 : Array (Option Value)} {oc5 kV5 dc5 pm5 cd5 ct5 : Value} {f5 : Addr}
    (a5 : PySem.W.findIn K (.ref gc_Ledger) "can_draw" = some (some (.ref f5))) (i5 : PySem.W.isFn K (.ref f5) = true) (l5 : K.lookup f5 = some ⟨oc5, od5, .func (PySem.W.fnOf "can_draw" "Ledger.can_draw" (defArgs s_Ledger_can_draw) (defBody s_Ledger_can_draw) (defScope s_Ledger_can_draw) .none kV5 dc5 pm5 an5 cd5 ct5), sl5⟩) (c5 : PySem.W.codeIn K cd5 "Ledger.can_draw" = true) (k5 : PySem.W.keepIn K (.ref f5) = true)
    {od6 an6 : Option Addr} {sl6 : Array (Option Value)} {oc6 kV6 dc6 pm6 cd6 ct6 : Value} {f6 : Addr}
    (a6 : PySem.W.findIn K (.ref gc_Ledger) "draw_coins" = some (some (.ref f6))) (i6 : PySem.W.isFn K (.ref f6) = true) (l6 : K.lookup f6 = some ⟨oc6, od6, .func (PySem.W.fnOf "draw_coins" "Ledger.draw_coins" (defArgs s_Ledger_draw_coins) (defBody s_Ledger_draw_coins) (defScope s_Ledger_draw_coins) .none kV6 dc6 pm6 an6 cd6 ct6), sl6⟩) (c6 : PySem.W.codeIn K cd6 "Ledger.draw_coins" = true) (k6 : PySem.W.keepIn K (.ref f6) = true)
    {od7 an7 : Option Addr} {sl7 : Array (Option Value)} {oc7 kV7 dc7 pm7 cd7 ct7 : Value} {f7 : Addr}
    (a7 : PySem.W.findIn K (.ref gc_Ledger) "take_in" = some (some (.ref f7))) (i7 : PySem.W.isFn K (.ref f7) = true) (l7 : K.lookup f7 = some ⟨oc7, od7, .func (PySem.W.fnOf "take_in" "Ledger.take_in" (defArgs s_Ledger_take_in) (defBody s_Ledger_take_in) (defScope s_Ledger_take_in) .none kV7 dc7 pm7 an7 cd7 ct7), sl7⟩) (c7 : PySem.W.codeIn K cd7 "Ledger.take_in" = true) (k7 : PySem.W.keepIn K (.ref f7) = true)
    {od8 an8 : Option Addr} {sl8 : Array (Option Value)} {oc8 kV8 dc8 pm8 cd8 ct8 : Value} {f8 : Addr}
    (a8 : PySem.W.nsIn K mainGlobals "first_wrong" = some (some (.ref f8))) (l8 : K.lookup f8 = some ⟨oc8, od8, .func (PySem.W.fnOf "first_wrong" "first_wrong" (defArgs s_first_wrong) (defBody s_first_wrong) (defScope s_first_wrong) .none kV8 dc8 pm8 an8 cd8 ct8), sl8⟩) (c8 : PySem.W.codeIn K cd8 "first_wrong" = true) (k8 : PySem.W.keepIn K (.ref f8) = true)
    {od9 an9 : Option Addr} {sl9 : Array (Option Value)} {oc9 kV9 dc9 pm9 cd9 ct9 : Value} {f9 : Addr}
    (a9 : PySem.W.nsIn K mainGlobals "grows" = some (some (.ref f9))) (l9 : K.lookup f9 = some ⟨oc9, od9, .func (PySem.W.fnOf "grows" "grows" (defArgs s_grows) (defBody s_grows) (defScope s_grows) .none kV9 dc9 pm9 an9 cd9 ct9), sl9⟩) (c9 : PySem.W.codeIn K cd9 "grows" = true) (k9 : PySem.W.keepIn K (.ref f9) = true)
    {od10 an10 : Option Addr} {sl10 : Array (Option Value)} {oc10 kV10 dc10 pm10 cd10 ct10 : Value} {f10 : Addr}
    (a10 : PySem.W.nsIn K mainGlobals "_law_draws" = some (some (.ref f10))) (l10 : K.lookup f10 = some ⟨oc10, od10, .func (PySem.W.fnOf "_law_draws" "_law_draws" (defArgs s__law_draws) (defBody s__law_draws) (defScope s__law_draws) .none kV10 dc10 pm10 an10 cd10 ct10), sl10⟩) (c10 : PySem.W.codeIn K cd10 "_law_draws" = true) (k10 : PySem.W.keepIn K (.ref f10) = true)
    {od11 an11 : Option Addr} {sl11 : Array (Option Value)} {oc11 kV11 dc11 pm11 cd11 ct11 : Value} {f11 : Addr}
    (a11 : PySem.W.nsIn K mainGlobals "_law_same" = some (some (.ref f11))) (l11 : K.lookup f11 = some ⟨oc11, od11, .func (PySem.W.fnOf "_law_same" "_law_same" (defArgs s__law_same) (defBody s__law_same) (defScope s__law_same) .none kV11 dc11 pm11 an11 cd11 ct11), sl11⟩) (c11 : PySem.W.codeIn K cd11 "_law_same" = true) (k11 : PySem.W.keepIn K (.ref f11) = true)
    {od12 an12 : Option Addr} {sl12 : Array (Option Value)} {oc12 kV12 dc12 pm12 cd12 ct12 : Value} {f12 : Addr}
    (a12 : PySem.W.nsIn K mainGlobals "_law_perm" = some (some (.ref f12))) (l12 : K.lookup f12 = some ⟨oc12, od12, .func (PySem.W.fnOf "_law_perm" "_law_perm" (defArgs s__law_perm) (defBody s__law_perm) (defScope s__law_perm) .none kV12 dc12 pm12 an12 cd12 ct12), sl12⟩) (c12 : PySem.W.codeIn K cd12 "_law_perm" = true) (k12 : PySem.W.keepIn K (.ref f12) = true)
    {od13 an13 : Option Addr} {sl13 : Array (Option Value)} {oc13 kV13 dc13 pm13 cd13 ct13 : Value} {f13 : Addr}
    (a13 : PySem.W.nsIn K mainGlobals "_law_opening" = some (some (.ref f13))) (l13 : K.lookup f13 = some ⟨oc13, od13, .func (PySem.W.fnOf "_law_opening" "_law_opening" (defArgs s__law_opening) (defBody s__law_opening) (defScope s__law_opening) .none kV13 dc13 pm13 an13 cd13 ct13), sl13⟩) (c13 : PySem.W.codeIn K cd13 "_law_opening" = true) (k13 : PySem.W.keepIn K (.ref f13) = true)
    {od14 an14 : Option Addr} {sl14 : Array (Option Value)} {oc14 kV14 dc14 pm14 cd14 ct14 : Value} {f14 : Addr}
    (a14 : PySem.W.nsIn K mainGlobals "_law_grows" = some (some (.ref f14))) (l14 : K.lookup f14 = some ⟨oc14, od14, .func (PySem.W.fnOf "_law_grows" "_law_grows" (defArgs s__law_grows) (defBody s__law_grows) (defScope s__law_grows) .none kV14 dc14 pm14 an14 cd14 ct14), sl14⟩) (c14 : PySem.W.codeIn K cd14 "_law_grows" = true) (k14 : PySem.W.keepIn K (.ref f14) = true)
    {od15 an15 : Option Addr} {sl15 : Array (Option Value)} {oc15 kV15 dc15 pm15 cd15 ct15 : Value} {f15 : Addr}
    (a15 : PySem.W.nsIn K mainGlobals "_law_can" = some (some (.ref f15))) (l15 : K.lookup f15 = some ⟨oc15, od15, .func (PySem.W.fnOf "_law_can" "_law_can" (defArgs s__law_can) (defBody s__law_can) (defScope s__law_can) .none kV15 dc15 pm15 an15 cd15 ct15), sl15⟩) (c15 : PySem.W.codeIn K cd15 "_law_can" = true) (k15 : PySem.W.keepIn K (.ref f15) = true)
    {od16 an16 : Option Addr} {sl16 : Array (Option Value)} {oc16 kV16 dc16 pm16 cd16 ct16 : Value} {f16 : Addr}
    (a16 : PySem.W.nsIn K mainGlobals "_law_after" = some (some (.ref f16))) (l16 : K.lookup f16 = some ⟨oc16, od16, .func (PySem.W.fnOf "_law_after" "_law_after" (defArgs s__law_after) (defBody s__law_after) (defScope s__law_after) .none kV16 dc16 pm16 an16 cd16 ct16), sl16⟩) (c16 : PySem.W.codeIn K cd16 "_law_after" = true) (k16 : PySem.W.keepIn K (.ref f16) = true)
    {od17 an17 : Option Addr} {sl17 : Array (Option Value)} {oc17 kV17 dc17 pm17 cd17 ct17 : Value} {f17 : Addr}
    (a17 : PySem.W.nsIn K mainGlobals "_law_free" = some (some (.ref f17))) (l17 : K.lookup f17 = some ⟨oc17, od17, .func (PySem.W.fnOf "_law_free" "_law_free" (defArgs s__law_free) (defBody s__law_free) (defScope s__law_free) .none kV17 dc17 pm17 an17 cd17 ct17), sl17⟩) (c17 : PySem.W.codeIn K cd17 "_law_free" = true) (k17 : PySem.W.keepIn K (.ref f17) = true)
    {od18 an18 : Option Addr} {sl18 : Array (Option Value)} {oc18 kV18 dc18 pm18 cd18 ct18 : Value} {f18 : Addr}
    (a18 : PySem.W.nsIn K mainGlobals "_law_spoilt" = some (some (.ref f18))) (l18 : K.lookup f18 = some ⟨oc18, od18, .func (PySem.W.fnOf "_law_spoilt" "_law_spoilt" (defArgs s__law_spoilt) (defBody s__law_spoilt) (defScope s__law_spoilt) .none kV18 dc18 pm18 an18 cd18 ct18), sl18⟩) (c18 : PySem.W.codeIn K cd18 "_law_spoilt" = true) (k18 : PySem.W.keepIn K (.ref f18) = true)
    {od19 an19 : Option Addr} {sl19 : Array (Option Value)} {oc19 kV19 dc19 pm19 cd19 ct19 : Value} {f19 : Addr}
    (a19 : PySem.W.nsIn K mainGlobals "_law_bent" = some (some (.ref f19))) (l19 : K.lookup f19 = some ⟨oc19, od19, .func (PySem.W.fnOf "_law_bent" "_law_bent" (defArgs s__law_bent) (defBody s__law_bent) (defScope s__law_bent) .none kV19 dc19 pm19 an19 cd19 ct19), sl19⟩) (c19 : PySem.W.codeIn K cd19 "_law_bent" = true) (k19 : PySem.W.keepIn K (.ref f19) = true)
    {od20 an20 : Option Addr} {sl20 : Array (Option Value)} {oc20 kV20 dc20 pm20 cd20 ct20 : Value} {f20 : Addr}
    (a20 : PySem.W.nsIn K mainGlobals "_law_first" = some (some (.ref f20))) (l20 : K.lookup f20 = some ⟨oc20, od20, .func (PySem.W.fnOf "_law_first" "_law_first" (defArgs s__law_first) (defBody s__law_first) (defScope s__law_first) .none kV20 dc20 pm20 an20 cd20 ct20), sl20⟩) (c20 : PySem.W.codeIn K cd20 "_law_first" = true) (k20 : PySem.W.keepIn K (.ref f20) = true)
    {od21 an21 : Option Addr} {sl21 : Array (Option Value)} {oc21 kV21 dc21 pm21 cd21 ct21 : Value} {f21 : Addr}
    (a21 : PySem.W.nsIn K mainGlobals "law" = some (some (.ref f21))) (l21 : K.lookup f21 = some ⟨oc21, od21, .func (PySem.W.fnOf "law" "law" (defArgs s_law) (defBody s_law) (defScope s_law) .none kV21 dc21 pm21 an21 cd21 ct21), sl21⟩) (c21 : PySem.W.codeIn K cd21 "law" = true) (k21 : PySem.W.keepIn K (.ref f21) = true)
    (pg_Ledger : PySem.W.plainGet K gc_Ledger Str.empty = true)
    (hd_Ledger : PySem.W.hasDictIn K gc_Ledger = true)
    (po_Ledger : PySem.W.plainOver K gc_Ledger = true)
    (sa_Ledger : PySem.W.findIn K (.ref gc_Ledger) "__setattr__" = some (some (.builtin "object.__setattr__")))
    (mi_Ledger : PySem.W.makesIn K gc_Ledger = true)
    (kc_Ledger : PySem.W.keepIn K (.ref gc_Ledger) = true)
    (na_Ledger_stake : PySem.W.findIn K (.ref gc_Ledger) "stake" = some none)
    (na_Ledger_pledges_left : PySem.W.findIn K (.ref gc_Ledger) "pledges_left" = some none)
    (na_Ledger_line : PySem.W.findIn K (.ref gc_Ledger) "line" = some none)
    (na_Ledger_bidding : PySem.W.findIn K (.ref gc_Ledger) "bidding" = some none)
    (na_Ledger_drawers : PySem.W.findIn K (.ref gc_Ledger) "drawers" = some none)
    (na_Ledger_open_round : PySem.W.findIn K (.ref gc_Ledger) "open_round" = some none)
    (na_Ledger_rests_due : PySem.W.findIn K (.ref gc_Ledger) "rests_due" = some none)
    (z0 : PySem.W.nsIn K mainGlobals "abs" = some none)
    (z1 : PySem.W.nsIn K mainGlobals "all" = some none)
    (z2 : PySem.W.nsIn K mainGlobals "bool" = some none)
    (z3 : PySem.W.nsIn K mainGlobals "enumerate" = some none)
    (z4 : PySem.W.nsIn K mainGlobals "int" = some none)
    (z5 : PySem.W.nsIn K mainGlobals "isinstance" = some none)
    (z6 : PySem.W.nsIn K mainGlobals "len" = some none)
    (z7 : PySem.W.nsIn K mainGlobals "list" = some none)
    (z8 : PySem.W.nsIn K mainGlobals "max" = some none)
    (z9 : PySem.W.nsIn K mainGlobals "range" = some none)
    (z10 : PySem.W.nsIn K mainGlobals "sorted" = some none)
    (z11 : PySem.W.nsIn K mainGlobals "str" = some none)
    (z12 : PySem.W.nsIn K mainGlobals "tuple" = some none)
    (z13 : PySem.W.nsIn K mainGlobals "zip" = some none) : Top K mg where
      d_is_covered := ⟨f0, _, fun_mk (st := s_is_covered) l0 c0 k0, (fun_mk (st := s_is_covered) l0 c0 k0).binds (ps := ["stake", "seats", "pledge", "turn"]) (fun _ _ _ _ _ _ us hl => match us, hl with | [_, _, _, _], _ => rfl)⟩
      m_is_covered := PySem.W.mg_of X G a0
      d_Ledger___init__ := ⟨f1, _, fun_mk (st := s_Ledger___init__) l1 c1 k1, (fun_mk (st := s_Ledger___init__) l1 c1 k1).binds (ps := ["self", "stake", "pledges", "queue", "bidding"]) (fun _ _ _ _ _ _ us hl => match us, hl with | [_, _, _, _, _], _ => rfl)⟩
      d_Ledger_follows := ⟨⟨f2, _, fun_mk (st := s_Ledger_follows) l2 c2 k2, (fun_mk (st := s_Ledger_follows) l2 c2 k2).binds (ps := ["self", "report"]) (fun _ _ _ _ _ _ us hl => match us, hl with | [_, _], _ => rfl)⟩, ⟨a2, i2, k2⟩⟩
      d_Ledger_pledge_can_pay := ⟨⟨f3, _, fun_mk (st := s_Ledger_pledge_can_pay) l3 c3 k3, (fun_mk (st := s_Ledger_pledge_can_pay) l3 c3 k3).binds (ps := ["self", "at"]) (fun _ _ _ _ _ _ us hl => match us, hl with | [_, _], _ => rfl)⟩, ⟨a3, i3, k3⟩⟩
      d_Ledger_payers := ⟨⟨f4, _, fun_mk (st := s_Ledger_payers) l4 c4 k4, (fun_mk (st := s_Ledger_payers) l4 c4 k4).binds (ps := ["self", "fallen"]) (fun _ _ _ _ _ _ us hl => match us, hl with | [_, _], _ => rfl)⟩, ⟨a4, i4, k4⟩⟩
      d_Ledger_can_draw := ⟨⟨f5, _, fun_mk (st := s_Ledger_can_draw) l5 c5 k5, (fun_mk (st := s_Ledger_can_draw) l5 c5 k5).binds (ps := ["self", "drawer", "share"]) (fun _ _ _ _ _ _ us hl => match us, hl with | [_, _, _], _ => rfl)⟩, ⟨a5, i5, k5⟩⟩
      d_Ledger_draw_coins := ⟨⟨f6, _, fun_mk (st := s_Ledger_draw_coins) l6 c6 k6, (fun_mk (st := s_Ledger_draw_coins) l6 c6 k6).binds (ps := ["self", "share"]) (fun _ _ _ _ _ _ us hl => match us, hl with | [_, _], _ => rfl)⟩, ⟨a6, i6, k6⟩⟩
      d_Ledger_take_in := ⟨⟨f7, _, fun_mk (st := s_Ledger_take_in) l7 c7 k7, (fun_mk (st := s_Ledger_take_in) l7 c7 k7).binds (ps := ["self", "report"]) (fun _ _ _ _ _ _ us hl => match us, hl with | [_, _], _ => rfl)⟩, ⟨a7, i7, k7⟩⟩
      d_first_wrong := ⟨f8, _, fun_mk (st := s_first_wrong) l8 c8 k8, (fun_mk (st := s_first_wrong) l8 c8 k8).binds (ps := ["stake", "pledges", "queue", "bidding", "reports"]) (fun _ _ _ _ _ _ us hl => match us, hl with | [_, _, _, _, _], _ => rfl)⟩
      m_first_wrong := PySem.W.mg_of X G a8
      d_grows := ⟨f9, _, fun_mk (st := s_grows) l9 c9 k9, (fun_mk (st := s_grows) l9 c9 k9).binds (ps := ["row"]) (fun _ _ _ _ _ _ us hl => match us, hl with | [_], _ => rfl)⟩
      m_grows := PySem.W.mg_of X G a9
      d__law_draws := ⟨f10, _, fun_mk (st := s__law_draws) l10 c10 k10, (fun_mk (st := s__law_draws) l10 c10 k10).binds (ps := ["_law_script", "_law_many"]) (fun _ _ _ _ _ _ us hl => match us, hl with | [_, _], _ => rfl)⟩
      m__law_draws := PySem.W.mg_of X G a10
      d__law_same := ⟨f11, _, fun_mk (st := s__law_same) l11 c11 k11, (fun_mk (st := s__law_same) l11 c11 k11).binds (ps := ["_law_told", "_law_due"]) (fun _ _ _ _ _ _ us hl => match us, hl with | [_, _], _ => rfl)⟩
      m__law_same := PySem.W.mg_of X G a11
      d__law_perm := ⟨f12, _, fun_mk (st := s__law_perm) l12 c12 k12, (fun_mk (st := s__law_perm) l12 c12 k12).binds (ps := ["_law_some", "_law_size"]) (fun _ _ _ _ _ _ us hl => match us, hl with | [_, _], _ => rfl)⟩
      m__law_perm := PySem.W.mg_of X G a12
      d__law_opening := ⟨f13, _, fun_mk (st := s__law_opening) l13 c13 k13, (fun_mk (st := s__law_opening) l13 c13 k13).binds (ps := ["_law_some", "_law_size", "_law_stake"]) (fun _ _ _ _ _ _ us hl => match us, hl with | [_, _, _], _ => rfl)⟩
      m__law_opening := PySem.W.mg_of X G a13
      d__law_grows := ⟨f14, _, fun_mk (st := s__law_grows) l14 c14 k14, (fun_mk (st := s__law_grows) l14 c14 k14).binds (ps := ["_law_row", "_law_allowed"]) (fun _ _ _ _ _ _ us hl => match us, hl with | [_, _], _ => rfl)⟩
      m__law_grows := PySem.W.mg_of X G a14
      d__law_can := ⟨f15, _, fun_mk (st := s__law_can) l15 c15 k15, (fun_mk (st := s__law_can) l15 c15 k15).binds (ps := ["_law_book", "_law_report"]) (fun _ _ _ _ _ _ us hl => match us, hl with | [_, _], _ => rfl)⟩
      m__law_can := PySem.W.mg_of X G a15
      d__law_after := ⟨f16, _, fun_mk (st := s__law_after) l16 c16 k16, (fun_mk (st := s__law_after) l16 c16 k16).binds (ps := ["_law_book", "_law_report"]) (fun _ _ _ _ _ _ us hl => match us, hl with | [_, _], _ => rfl)⟩
      m__law_after := PySem.W.mg_of X G a16
      d__law_free := ⟨f17, _, fun_mk (st := s__law_free) l17 c17 k17, (fun_mk (st := s__law_free) l17 c17 k17).binds (ps := ["_law_book", "_law_some"]) (fun _ _ _ _ _ _ us hl => match us, hl with | [_, _], _ => rfl)⟩
      m__law_free := PySem.W.mg_of X G a17
      d__law_spoilt := ⟨f18, _, fun_mk (st := s__law_spoilt) l18 c18 k18, (fun_mk (st := s__law_spoilt) l18 c18 k18).binds (ps := ["_law_report", "_law_way", "_law_raw", "_law_size"]) (fun _ _ _ _ _ _ us hl => match us, hl with | [_, _, _, _], _ => rfl)⟩
      m__law_spoilt := PySem.W.mg_of X G a18
      d__law_bent := ⟨f19, _, fun_mk (st := s__law_bent) l19 c19 k19, (fun_mk (st := s__law_bent) l19 c19 k19).binds (ps := ["_law_reports", "_law_way", "_law_place", "_law_size"]) (fun _ _ _ _ _ _ us hl => match us, hl with | [_, _, _, _], _ => rfl)⟩
      m__law_bent := PySem.W.mg_of X G a19
      d__law_first := ⟨f20, _, fun_mk (st := s__law_first) l20 c20 k20, (fun_mk (st := s__law_first) l20 c20 k20).binds (ps := ["_law_book", "_law_reports"]) (fun _ _ _ _ _ _ us hl => match us, hl with | [_, _], _ => rfl)⟩
      m__law_first := PySem.W.mg_of X G a20
      d_law := ⟨f21, _, fun_mk (st := s_law) l21 c21 k21, (fun_mk (st := s_law) l21 c21 k21).binds (ps := ["_law_script"]) (fun _ _ _ _ _ _ us hl => match us, hl with | [_], _ => rfl)⟩
      m_law := PySem.W.mg_of X G a21
      f_Ledger := gc_Ledger
      m_Ledger := PySem.W.mg_of X G g_Ledger
      cl_Ledger := ⟨pg_Ledger, hd_Ledger, po_Ledger, sa_Ledger⟩
      mk_Ledger := ⟨mi_Ledger, a1, i1, kc_Ledger⟩
      na_Ledger := (List.forall_mem_cons.mpr ⟨na_Ledger_stake, (List.forall_mem_cons.mpr ⟨na_Ledger_pledges_left, (List.forall_mem_cons.mpr ⟨na_Ledger_line, (List.forall_mem_cons.mpr ⟨na_Ledger_bidding, (List.forall_mem_cons.mpr ⟨na_Ledger_drawers, (List.forall_mem_cons.mpr ⟨na_Ledger_open_round, (List.forall_mem_cons.mpr ⟨na_Ledger_rests_due, (fun _ h => nomatch h)⟩)⟩)⟩)⟩)⟩)⟩)⟩)
      m_abs := PySem.W.mg_none_of X G z0
      m_all := PySem.W.mg_none_of X G z1
      m_bool := PySem.W.mg_none_of X G z2
      m_enumerate := PySem.W.mg_none_of X G z3
      m_int := PySem.W.mg_none_of X G z4
      m_isinstance := PySem.W.mg_none_of X G z5
      m_len := PySem.W.mg_none_of X G z6
      m_list := PySem.W.mg_none_of X G z7
      m_max := PySem.W.mg_none_of X G z8
      m_range := PySem.W.mg_none_of X G z9
      m_sorted := PySem.W.mg_none_of X G z10
      m_str := PySem.W.mg_none_of X G z11
      m_tuple := PySem.W.mg_none_of X G z12
      m_zip := PySem.W.mg_none_of X G z13
theorem all_mk {l : PySem.W.OpenLaw} {w : World} {K : PySem.W.Frag} {h : Heap} {mg : Str → Option Value} {fa : Addr} (X : K.In h) (G : h.Ns mainGlobals mg) (hfa : mg "law" = some (.ref fa))
    {gc_Ledger : Addr} (g_Ledger : PySem.W.nsIn K mainGlobals "Ledger" = some (some (.ref gc_Ledger)))
    {od0 an0 : Option Addr} {sl0 : Array (Option Value)} {oc0 kV0 dc0 pm0 cd0 ct0 : Value} {f0 : Addr}
    (a0 : PySem.W.nsIn K mainGlobals "is_covered" = some (some (.ref f0))) (l0 : K.lookup f0 = some ⟨oc0, od0, .func (PySem.W.fnOf "is_covered" "is_covered" (defArgs s_is_covered) (defBody s_is_covered) (defScope s_is_covered) .none kV0 dc0 pm0 an0 cd0 ct0), sl0⟩) (c0 : PySem.W.codeIn K cd0 "is_covered" = true) (k0 : PySem.W.keepIn K (.ref f0) = true)
    {od1 an1 : Option Addr} {sl1 : Array (Option Value)} {oc1 kV1 dc1 pm1 cd1 ct1 : Value} {f1 : Addr}
    (a1 : PySem.W.findIn K (.ref gc_Ledger) "__init__" = some (some (.ref f1))) (i1 : PySem.W.isFn K (.ref f1) = true) (l1 : K.lookup f1 = some ⟨oc1, od1, .func (PySem.W.fnOf "__init__" "Ledger.__init__" (defArgs s_Ledger___init__) (defBody s_Ledger___init__) (defScope s_Ledger___init__) .none kV1 dc1 pm1 an1 cd1 ct1), sl1⟩) (c1 : PySem.W.codeIn K cd1 "Ledger.__init__" = true) (k1 : PySem.W.keepIn K (.ref f1) = true)
    {od2 an2 : Option Addr} {sl2 : Array (Option Value)} {oc2 kV2 dc2 pm2 cd2 ct2 : Value} {f2 : Addr}
    (a2 : PySem.W.findIn K (.ref gc_Ledger) "follows" = some (some (.ref f2))) (i2 : PySem.W.isFn K (.ref f2) = true) (l2 : K.lookup f2 = some ⟨oc2, od2, .func (PySem.W.fnOf "follows" "Ledger.follows" (defArgs s_Ledger_follows) (defBody s_Ledger_follows) (defScope s_Ledger_follows) .none kV2 dc2 pm2 an2 cd2 ct2), sl2⟩) (c2 : PySem.W.codeIn K cd2 "Ledger.follows" = true) (k2 : PySem.W.keepIn K (.ref f2) = true)
    {od3 an3 : Option Addr} {sl3 : Array (Option Value)} {oc3 kV3 dc3 pm3 cd3 ct3 : Value} {f3 : Addr}
    (a3 : PySem.W.findIn K (.ref gc_Ledger) "pledge_can_pay" = some (some (.ref f3))) (i3 : PySem.W.isFn K (.ref f3) = true) (l3 : K.lookup f3 = some ⟨oc3, od3, .func (PySem.W.fnOf "pledge_can_pay" "Ledger.pledge_can_pay" (defArgs s_Ledger_pledge_can_pay) (defBody s_Ledger_pledge_can_pay) (defScope s_Ledger_pledge_can_pay) .none kV3 dc3 pm3 an3 cd3 ct3), sl3⟩) (c3 : PySem.W.codeIn K cd3 "Ledger.pledge_can_pay" = true) (k3 : PySem.W.keepIn K (.ref f3) = true)
    {od4 an4 : Option Addr} {sl4 : Array (Option Value)} {oc4 kV4 dc4 pm4 cd4 ct4 : Value} {f4 : Addr}
    (a4 : PySem.W.findIn K (.ref gc_Ledger) "payers" = some (some (.ref f4))) (i4 : PySem.W.isFn K (.ref f4) = true) (l4 : K.lookup f4 = some ⟨oc4, od4, .func (PySem.W.fnOf "payers" "Ledger.payers" (defArgs s_Ledger_payers) (defBody s_Ledger_payers) (defScope s_Ledger_payers) .none kV4 dc4 pm4 an4 cd4 ct4), sl4⟩) (c4 : PySem.W.codeIn K cd4 "Ledger.payers" = true) (k4 : PySem.W.keepIn K (.ref f4) = true)
    {od5 an5 : Option Addr} {sl5 : Array (Option Value)} {oc5 kV5 dc5 pm5 cd5 ct5 : Value} {f5 : Addr}
    (a5 : PySem.W.findIn K (.ref gc_Ledger) "can_draw" = some (some (.ref f5))) (i5 : PySem.W.isFn K (.ref f5) = true) (l5 : K.lookup f5 = some ⟨oc5, od5, .func (PySem.W.fnOf "can_draw" "Ledger.can_draw" (defArgs s_Ledger_can_draw) (defBody s_Ledger_can_draw) (defScope s_Ledger_can_draw) .none kV5 dc5 pm5 an5 cd5 ct5), sl5⟩) (c5 : PySem.W.codeIn K cd5 "Ledger.can_draw" = true) (k5 : PySem.W.keepIn K (.ref f5) = true)
    {od6 an6 : Option Addr} {sl6 : Array (Option Value)} {oc6 kV6 dc6 pm6 cd6 ct6 : Value} {f6 : Addr}
    (a6 : PySem.W.findIn K (.ref gc_Ledger) "draw_coins" = some (some (.ref f6))) (i6 : PySem.W.isFn K (.ref f6) = true) (l6 : K.lookup f6 = some ⟨oc6, od6, .func (PySem.W.fnOf "draw_coins" "Ledger.draw_coins" (defArgs s_Ledger_draw_coins) (defBody s_Ledger_draw_coins) (defScope s_Ledger_draw_coins) .none kV6 dc6 pm6 an6 cd6 ct6), sl6⟩) (c6 : PySem.W.codeIn K cd6 "Ledger.draw_coins" = true) (k6 : PySem.W.keepIn K (.ref f6) = true)
    {od7 an7 : Option Addr} {sl7 : Array (Option Value)} {oc7 kV7 dc7 pm7 cd7 ct7 : Value} {f7 : Addr}
    (a7 : PySem.W.findIn K (.ref gc_Ledger) "take_in" = some (some (.ref f7))) (i7 : PySem.W.isFn K (.ref f7) = true) (l7 : K.lookup f7 = some ⟨oc7, od7, .func (PySem.W.fnOf "take_in" "Ledger.take_in" (defArgs s_Ledger_take_in) (defBody s_Ledger_take_in) (defScope s_Ledger_take_in) .none kV7 dc7 pm7 an7 cd7 ct7), sl7⟩) (c7 : PySem.W.codeIn K cd7 "Ledger.take_in" = true) (k7 : PySem.W.keepIn K (.ref f7) = true)
    {od8 an8 : Option Addr} {sl8 : Array (Option Value)} {oc8 kV8 dc8 pm8 cd8 ct8 : Value} {f8 : Addr}
    (a8 : PySem.W.nsIn K mainGlobals "first_wrong" = some (some (.ref f8))) (l8 : K.lookup f8 = some ⟨oc8, od8, .func (PySem.W.fnOf "first_wrong" "first_wrong" (defArgs s_first_wrong) (defBody s_first_wrong) (defScope s_first_wrong) .none kV8 dc8 pm8 an8 cd8 ct8), sl8⟩) (c8 : PySem.W.codeIn K cd8 "first_wrong" = true) (k8 : PySem.W.keepIn K (.ref f8) = true)
    {od9 an9 : Option Addr} {sl9 : Array (Option Value)} {oc9 kV9 dc9 pm9 cd9 ct9 : Value} {f9 : Addr}
    (a9 : PySem.W.nsIn K mainGlobals "grows" = some (some (.ref f9))) (l9 : K.lookup f9 = some ⟨oc9, od9, .func (PySem.W.fnOf "grows" "grows" (defArgs s_grows) (defBody s_grows) (defScope s_grows) .none kV9 dc9 pm9 an9 cd9 ct9), sl9⟩) (c9 : PySem.W.codeIn K cd9 "grows" = true) (k9 : PySem.W.keepIn K (.ref f9) = true)
    {od10 an10 : Option Addr} {sl10 : Array (Option Value)} {oc10 kV10 dc10 pm10 cd10 ct10 : Value} {f10 : Addr}
    (a10 : PySem.W.nsIn K mainGlobals "_law_draws" = some (some (.ref f10))) (l10 : K.lookup f10 = some ⟨oc10, od10, .func (PySem.W.fnOf "_law_draws" "_law_draws" (defArgs s__law_draws) (defBody s__law_draws) (defScope s__law_draws) .none kV10 dc10 pm10 an10 cd10 ct10), sl10⟩) (c10 : PySem.W.codeIn K cd10 "_law_draws" = true) (k10 : PySem.W.keepIn K (.ref f10) = true)
    {od11 an11 : Option Addr} {sl11 : Array (Option Value)} {oc11 kV11 dc11 pm11 cd11 ct11 : Value} {f11 : Addr}
    (a11 : PySem.W.nsIn K mainGlobals "_law_same" = some (some (.ref f11))) (l11 : K.lookup f11 = some ⟨oc11, od11, .func (PySem.W.fnOf "_law_same" "_law_same" (defArgs s__law_same) (defBody s__law_same) (defScope s__law_same) .none kV11 dc11 pm11 an11 cd11 ct11), sl11⟩) (c11 : PySem.W.codeIn K cd11 "_law_same" = true) (k11 : PySem.W.keepIn K (.ref f11) = true)
    {od12 an12 : Option Addr} {sl12 : Array (Option Value)} {oc12 kV12 dc12 pm12 cd12 ct12 : Value} {f12 : Addr}
    (a12 : PySem.W.nsIn K mainGlobals "_law_perm" = some (some (.ref f12))) (l12 : K.lookup f12 = some ⟨oc12, od12, .func (PySem.W.fnOf "_law_perm" "_law_perm" (defArgs s__law_perm) (defBody s__law_perm) (defScope s__law_perm) .none kV12 dc12 pm12 an12 cd12 ct12), sl12⟩) (c12 : PySem.W.codeIn K cd12 "_law_perm" = true) (k12 : PySem.W.keepIn K (.ref f12) = true)
    {od13 an13 : Option Addr} {sl13 : Array (Option Value)} {oc13 kV13 dc13 pm13 cd13 ct13 : Value} {f13 : Addr}
    (a13 : PySem.W.nsIn K mainGlobals "_law_opening" = some (some (.ref f13))) (l13 : K.lookup f13 = some ⟨oc13, od13, .func (PySem.W.fnOf "_law_opening" "_law_opening" (defArgs s__law_opening) (defBody s__law_opening) (defScope s__law_opening) .none kV13 dc13 pm13 an13 cd13 ct13), sl13⟩) (c13 : PySem.W.codeIn K cd13 "_law_opening" = true) (k13 : PySem.W.keepIn K (.ref f13) = true)
    {od14 an14 : Option Addr} {sl14 : Array (Option Value)} {oc14 kV14 dc14 pm14 cd14 ct14 : Value} {f14 : Addr}
    (a14 : PySem.W.nsIn K mainGlobals "_law_grows" = some (some (.ref f14))) (l14 : K.lookup f14 = some ⟨oc14, od14, .func (PySem.W.fnOf "_law_grows" "_law_grows" (defArgs s__law_grows) (defBody s__law_grows) (defScope s__law_grows) .none kV14 dc14 pm14 an14 cd14 ct14), sl14⟩) (c14 : PySem.W.codeIn K cd14 "_law_grows" = true) (k14 : PySem.W.keepIn K (.ref f14) = true)
    {od15 an15 : Option Addr} {sl15 : Array (Option Value)} {oc15 kV15 dc15 pm15 cd15 ct15 : Value} {f15 : Addr}
    (a15 : PySem.W.nsIn K mainGlobals "_law_can" = some (some (.ref f15))) (l15 : K.lookup f15 = some ⟨oc15, od15, .func (PySem.W.fnOf "_law_can" "_law_can" (defArgs s__law_can) (defBody s__law_can) (defScope s__law_can) .none kV15 dc15 pm15 an15 cd15 ct15), sl15⟩) (c15 : PySem.W.codeIn K cd15 "_law_can" = true) (k15 : PySem.W.keepIn K (.ref f15) = true)
    {od16 an16 : Option Addr} {sl16 : Array (Option Value)} {oc16 kV16 dc16 pm16 cd16 ct16 : Value} {f16 : Addr}
    (a16 : PySem.W.nsIn K mainGlobals "_law_after" = some (some (.ref f16))) (l16 : K.lookup f16 = some ⟨oc16, od16, .func (PySem.W.fnOf "_law_after" "_law_after" (defArgs s__law_after) (defBody s__law_after) (defScope s__law_after) .none kV16 dc16 pm16 an16 cd16 ct16), sl16⟩) (c16 : PySem.W.codeIn K cd16 "_law_after" = true) (k16 : PySem.W.keepIn K (.ref f16) = true)
    {od17 an17 : Option Addr} {sl17 : Array (Option Value)} {oc17 kV17 dc17 pm17 cd17 ct17 : Value} {f17 : Addr}
    (a17 : PySem.W.nsIn K mainGlobals "_law_free" = some (some (.ref f17))) (l17 : K.lookup f17 = some ⟨oc17, od17, .func (PySem.W.fnOf "_law_free" "_law_free" (defArgs s__law_free) (defBody s__law_free) (defScope s__law_free) .none kV17 dc17 pm17 an17 cd17 ct17), sl17⟩) (c17 : PySem.W.codeIn K cd17 "_law_free" = true) (k17 : PySem.W.keepIn K (.ref f17) = true)
    {od18 an18 : Option Addr} {sl18 : Array (Option Value)} {oc18 kV18 dc18 pm18 cd18 ct18 : Value} {f18 : Addr}
    (a18 : PySem.W.nsIn K mainGlobals "_law_spoilt" = some (some (.ref f18))) (l18 : K.lookup f18 = some ⟨oc18, od18, .func (PySem.W.fnOf "_law_spoilt" "_law_spoilt" (defArgs s__law_spoilt) (defBody s__law_spoilt) (defScope s__law_spoilt) .none kV18 dc18 pm18 an18 cd18 ct18), sl18⟩) (c18 : PySem.W.codeIn K cd18 "_law_spoilt" = true) (k18 : PySem.W.keepIn K (.ref f18) = true)
    {od19 an19 : Option Addr} {sl19 : Array (Option Value)} {oc19 kV19 dc19 pm19 cd19 ct19 : Value} {f19 : Addr}
    (a19 : PySem.W.nsIn K mainGlobals "_law_bent" = some (some (.ref f19))) (l19 : K.lookup f19 = some ⟨oc19, od19, .func (PySem.W.fnOf "_law_bent" "_law_bent" (defArgs s__law_bent) (defBody s__law_bent) (defScope s__law_bent) .none kV19 dc19 pm19 an19 cd19 ct19), sl19⟩) (c19 : PySem.W.codeIn K cd19 "_law_bent" = true) (k19 : PySem.W.keepIn K (.ref f19) = true)
    {od20 an20 : Option Addr} {sl20 : Array (Option Value)} {oc20 kV20 dc20 pm20 cd20 ct20 : Value} {f20 : Addr}
    (a20 : PySem.W.nsIn K mainGlobals "_law_first" = some (some (.ref f20))) (l20 : K.lookup f20 = some ⟨oc20, od20, .func (PySem.W.fnOf "_law_first" "_law_first" (defArgs s__law_first) (defBody s__law_first) (defScope s__law_first) .none kV20 dc20 pm20 an20 cd20 ct20), sl20⟩) (c20 : PySem.W.codeIn K cd20 "_law_first" = true) (k20 : PySem.W.keepIn K (.ref f20) = true)
    {od21 an21 : Option Addr} {sl21 : Array (Option Value)} {oc21 kV21 dc21 pm21 cd21 ct21 : Value} {f21 : Addr}
    (a21 : PySem.W.nsIn K mainGlobals "law" = some (some (.ref f21))) (l21 : K.lookup f21 = some ⟨oc21, od21, .func (PySem.W.fnOf "law" "law" (defArgs s_law) (defBody s_law) (defScope s_law) .none kV21 dc21 pm21 an21 cd21 ct21), sl21⟩) (c21 : PySem.W.codeIn K cd21 "law" = true) (k21 : PySem.W.keepIn K (.ref f21) = true)
    (pg_Ledger : PySem.W.plainGet K gc_Ledger Str.empty = true)
    (hd_Ledger : PySem.W.hasDictIn K gc_Ledger = true)
    (po_Ledger : PySem.W.plainOver K gc_Ledger = true)
    (sa_Ledger : PySem.W.findIn K (.ref gc_Ledger) "__setattr__" = some (some (.builtin "object.__setattr__")))
    (mi_Ledger : PySem.W.makesIn K gc_Ledger = true)
    (kc_Ledger : PySem.W.keepIn K (.ref gc_Ledger) = true)
    (na_Ledger_stake : PySem.W.findIn K (.ref gc_Ledger) "stake" = some none)
    (na_Ledger_pledges_left : PySem.W.findIn K (.ref gc_Ledger) "pledges_left" = some none)
    (na_Ledger_line : PySem.W.findIn K (.ref gc_Ledger) "line" = some none)
    (na_Ledger_bidding : PySem.W.findIn K (.ref gc_Ledger) "bidding" = some none)
    (na_Ledger_drawers : PySem.W.findIn K (.ref gc_Ledger) "drawers" = some none)
    (na_Ledger_open_round : PySem.W.findIn K (.ref gc_Ledger) "open_round" = some none)
    (na_Ledger_rests_due : PySem.W.findIn K (.ref gc_Ledger) "rests_due" = some none)
    (z0 : PySem.W.nsIn K mainGlobals "abs" = some none)
    (z1 : PySem.W.nsIn K mainGlobals "all" = some none)
    (z2 : PySem.W.nsIn K mainGlobals "bool" = some none)
    (z3 : PySem.W.nsIn K mainGlobals "enumerate" = some none)
    (z4 : PySem.W.nsIn K mainGlobals "int" = some none)
    (z5 : PySem.W.nsIn K mainGlobals "isinstance" = some none)
    (z6 : PySem.W.nsIn K mainGlobals "len" = some none)
    (z7 : PySem.W.nsIn K mainGlobals "list" = some none)
    (z8 : PySem.W.nsIn K mainGlobals "max" = some none)
    (z9 : PySem.W.nsIn K mainGlobals "range" = some none)
    (z10 : PySem.W.nsIn K mainGlobals "sorted" = some none)
    (z11 : PySem.W.nsIn K mainGlobals "str" = some none)
    (z12 : PySem.W.nsIn K mainGlobals "tuple" = some none)
    (z13 : PySem.W.nsIn K mainGlobals "zip" = some none) :
    ∃ fd : FuncData, (∀ (s : Shared) (v : Value), BindsTo s fd ⟨[v], []⟩ [("_law_script", v)]) ∧ ∀ base : Heap, K.In base → base.Ns mainGlobals mg → FnOk l.prog w K mg base CX0 6 fa fd ["_law_script"] (spLaw K) := by
  have e := hfa.symm.trans (PySem.W.mg_of X G a21)
  cases e
  exact ⟨PySem.W.fnOf "law" "law" (defArgs s_law) (defBody s_law) (defScope s_law) .none kV21 dc21 pm21 an21 cd21 ct21, fun s v => .of_eq rfl, fun base _ _ => ok_law (fun_mk (st := s_law) l21 c21 k21) (top_mk X G g_Ledger a0 l0 c0 k0 a1 i1 l1 c1 k1 a2 i2 l2 c2 k2 a3 i3 l3 c3 k3 a4 i4 l4 c4 k4 a5 i5 l5 c5 k5 a6 i6 l6 c6 k6 a7 i7 l7 c7 k7 a8 l8 c8 k8 a9 l9 c9 k9 a10 l10 c10 k10 a11 l11 c11 k11 a12 l12 c12 k12 a13 l13 c13 k13 a14 l14 c14 k14 a15 l15 c15 k15 a16 l16 c16 k16 a17 l17 c17 k17 a18 l18 c18 k18 a19 l19 c19 k19 a20 l20 c20 k20 a21 l21 c21 k21 pg_Ledger hd_Ledger po_Ledger sa_Ledger mi_Ledger kc_Ledger na_Ledger_stake na_Ledger_pledges_left na_Ledger_line na_Ledger_bidding na_Ledger_drawers na_Ledger_open_round na_Ledger_rests_due z0 z1 z2 z3 z4 z5 z6 z7 z8 z9 z10 z11 z12 z13)⟩
end Su
open PySem PySem.W PyProof.Rows
set_option maxHeartbeats 0 in
theorem PySem.Challenge.cw_susu_k36_reports_judged_holds : PySem.Challenge.rw_susu_k36_reports_judged.Holds := by
  w_on; o_law; k_head; (case hw => w_witness2)
  k_fill
  refine L2.walk_of (l := PySem.Challenge.rw_susu_k36_reports_judged) (n := 63) (k := 6) (x := "_law_script") (CX := fun _ => L2.CX0) (sp := fun w => Su.spLaw _) rfl (by decide) rfl ⟨rfl, by decide, by decide⟩ (fun w h Y => PySem.W.kIn_of Y) ?F (fun _ _ a ns hl _ hS => ⟨a, ns, rfl, hS, hl, fun _ => rfl⟩) (fun _ _ _ _ _ h => h)
  case F =>
    intro w mg fa h KX G hmg
    refine' Su.all_mk KX G hmg ?g_Ledger ?a0 ?l0 ?c0 ?k0 ?a1 ?i1 ?l1 ?c1 ?k1 ?a2 ?i2 ?l2 ?c2 ?k2 ?a3 ?i3 ?l3 ?c3 ?k3 ?a4 ?i4 ?l4 ?c4 ?k4 ?a5 ?i5 ?l5 ?c5 ?k5 ?a6 ?i6 ?l6 ?c6 ?k6 ?a7 ?i7 ?l7 ?c7 ?k7 ?a8 ?l8 ?c8 ?k8 ?a9 ?l9 ?c9 ?k9 ?a10 ?l10 ?c10 ?k10 ?a11 ?l11 ?c11 ?k11 ?a12 ?l12 ?c12 ?k12 ?a13 ?l13 ?c13 ?k13 ?a14 ?l14 ?c14 ?k14 ?a15 ?l15 ?c15 ?k15 ?a16 ?l16 ?c16 ?k16 ?a17 ?l17 ?c17 ?k17 ?a18 ?l18 ?c18 ?k18 ?a19 ?l19 ?c19 ?k19 ?a20 ?l20 ?c20 ?k20 ?a21 ?l21 ?c21 ?k21 ?pg_Ledger ?hd_Ledger ?po_Ledger ?sa_Ledger ?mi_Ledger ?kc_Ledger ?na_Ledger_stake ?na_Ledger_pledges_left ?na_Ledger_line ?na_Ledger_bidding ?na_Ledger_drawers ?na_Ledger_open_round ?na_Ledger_rests_due ?z0 ?z1 ?z2 ?z3 ?z4 ?z5 ?z6 ?z7 ?z8 ?z9 ?z10 ?z11 ?z12 ?z13
    (case g_Ledger => k_is); (case a0 => k_is); (case l0 => k_is); (case c0 => k_is); (case k0 => k_is); (case a1 => k_is); (case i1 => k_is); (case l1 => k_is); (case c1 => k_is); (case k1 => k_is); (case a2 => k_is); (case i2 => k_is); (case l2 => k_is); (case c2 => k_is); (case k2 => k_is); (case a3 => k_is); (case i3 => k_is); (case l3 => k_is); (case c3 => k_is); (case k3 => k_is); (case a4 => k_is); (case i4 => k_is); (case l4 => k_is); (case c4 => k_is); (case k4 => k_is); (case a5 => k_is); (case i5 => k_is); (case l5 => k_is); (case c5 => k_is); (case k5 => k_is); (case a6 => k_is); (case i6 => k_is); (case l6 => k_is); (case c6 => k_is); (case k6 => k_is); (case a7 => k_is); (case i7 => k_is); (case l7 => k_is); (case c7 => k_is); (case k7 => k_is); (case a8 => k_is); (case l8 => k_is); (case c8 => k_is); (case k8 => k_is); (case a9 => k_is); (case l9 => k_is); (case c9 => k_is); (case k9 => k_is); (case a10 => k_is); (case l10 => k_is); (case c10 => k_is); (case k10 => k_is); (case a11 => k_is); (case l11 => k_is); (case c11 => k_is); (case k11 => k_is); (case a12 => k_is); (case l12 => k_is); (case c12 => k_is); (case k12 => k_is); (case a13 => k_is); (case l13 => k_is); (case c13 => k_is); (case k13 => k_is); (case a14 => k_is); (case l14 => k_is); (case c14 => k_is); (case k14 => k_is); (case a15 => k_is); (case l15 => k_is); (case c15 => k_is); (case k15 => k_is); (case a16 => k_is); (case l16 => k_is); (case c16 => k_is); (case k16 => k_is); (case a17 => k_is); (case l17 => k_is); (case c17 => k_is); (case k17 => k_is); (case a18 => k_is); (case l18 => k_is); (case c18 => k_is); (case k18 => k_is); (case a19 => k_is); (case l19 => k_is); (case c19 => k_is); (case k19 => k_is); (case a20 => k_is); (case l20 => k_is); (case c20 => k_is); (case k20 => k_is); (case a21 => k_is); (case l21 => k_is); (case c21 => k_is); (case k21 => k_is); (case pg_Ledger => k_is); (case hd_Ledger => k_is); (case po_Ledger => k_is); (case sa_Ledger => k_is); (case mi_Ledger => k_is); (case kc_Ledger => k_is); (case na_Ledger_stake => k_is); (case na_Ledger_pledges_left => k_is); (case na_Ledger_line => k_is); (case na_Ledger_bidding => k_is); (case na_Ledger_drawers => k_is); (case na_Ledger_open_round => k_is); (case na_Ledger_rests_due => k_is); (case z0 => k_is); (case z1 => k_is); (case z2 => k_is); (case z3 => k_is); (case z4 => k_is); (case z5 => k_is); (case z6 => k_is); (case z7 => k_is); (case z8 => k_is); (case z9 => k_is); (case z10 => k_is); (case z11 => k_is); (case z12 => k_is); (case z13 => k_is)

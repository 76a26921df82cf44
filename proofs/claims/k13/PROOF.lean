import PyProof.Rows.All
import Wide.All
import OpenK.AllK
import Wide.FinOn
import KE.KNestM
import KE.KLam
import KE.DataMinKey
import HandS.Nested
import HandS.EndTab
import HandS.Words
import HandS.ForMost
import HandS.WordsExc
import HandS.ExcOwn
import HandS.Exc
import HandS.Evl
import HandS.IsInst
import HandS.Wide
import HandS.Zip
import HandS.More
import KE.GoesEnumKw
import KE.GoesMore
import HandS.SortKw
import KE.KEqDeep
import HandS.Conv
import HandS.ExcIs
import HandS.Strs
import HandS.SetFor
import HandS.Set
import HandS.Iter
import HandS.Dict
import HandS.Comp
import HandS.Deep
import HandS.WideBits
import PySem.Challenge.RW_susu_k13_whole_all_orders
set_option Elab.async false
set_option linter.all false
set_option maxRecDepth 100000

namespace Su
open PySem PySem.Spec PyProof.Rows L2 Evl
/-! ### small rules over HandS.Evl -/
theorem CMul.l {i j : Int} (h1 : -(2 ^ 64) < i) (h2 : i < 2 ^ 64) : CMul i j := .inl ⟨h1, h2⟩
theorem CMul.r {i j : Int} (h1 : -(2 ^ 64) < j) (h2 : j < 2 ^ 64) : CMul i j := .inr ⟨h1, h2⟩
theorem rv_mod {H : Hp} {i j : Int} (h : 0 < j) : RV (rI (fun _ j => 0 < j) fun i j => .int (i % j)) (.int i) (.int j) H (.int (i % j)) := rv_I h
theorem rv_div {H : Hp} {i j : Int} (h : 0 < j) (h2 : j < 1073741824) : RV (rI CDiv fun i j => .int (i / j)) (.int i) (.int j) H (.int (i / j)) := rv_I ⟨h, h2⟩
theorem rv_mul {H : Hp} {i j : Int} (h : CMul i j) : RV (rI CMul fun i j => .int (i * j)) (.int i) (.int j) H (.int (i * j)) := rv_I h
theorem rv_pow {H : Hp} {i j : Int} (h : CPow i j) : RV (rI CPow fun i j => .int (i ^ j.toNat)) (.int i) (.int j) H (.int (i ^ j.toNat)) := rv_I h
theorem rv_p18 {H : Hp} : RV (rI CPow fun i j => .int (i ^ j.toNat)) (.int 10) (.int 18) H (.int (10 ^ 18)) := rv_I (C := CPow) (g := fun i j => .int (i ^ j.toNat)) ⟨by decide, by decide, by decide⟩
theorem rv_p12 {H : Hp} : RV (rI CPow fun i j => .int (i ^ j.toNat)) (.int 10) (.int 12) H (.int (10 ^ 12)) := rv_I (C := CPow) (g := fun i j => .int (i ^ j.toNat)) ⟨by decide, by decide, by decide⟩
theorem rv_p20 {H : Hp} : RV (rI CPow fun i j => .int (i ^ j.toNat)) (.int 10) (.int 20) H (.int (10 ^ 20)) := rv_I (C := CPow) (g := fun i j => .int (i ^ j.toNat)) ⟨by decide, by decide, by decide⟩
theorem rv_divW {H : Hp} {i j : Int} (h : CDivW i j) : RV (rI CDivW fun i j => .int (i / j)) (.int i) (.int j) H (.int (i / j)) := rv_I h
theorem rv_mulW {H : Hp} {i j : Int} (h : CMulW i j) : RV (rI CMulW fun i j => .int (i * j)) (.int i) (.int j) H (.int (i * j)) := rv_I h
theorem rc_abs {H : Hp} {i : Int} : RC (fun xs H Q => ∃ i, xs = [V.int i] ∧ Q (.int (if i < 0 then -i else i)) H) [.int i] H (.int (if i < 0 then -i else i)) := fun H1 _ _ q => ⟨i, rfl, q H1 (Ex.refl H1)⟩
theorem rc_max {H : Hp} {i j : Int} : RC (fun xs H Q => ∃ i j, xs = [V.int i, .int j] ∧ Q (.int (if j > i then j else i)) H) [.int i, .int j] H (.int (if j > i then j else i)) := fun H1 _ _ q => ⟨i, j, rfl, q H1 (Ex.refl H1)⟩
theorem rc_min {H : Hp} {i j : Int} : RC (fun xs H Q => ∃ i j, xs = [V.int i, .int j] ∧ Q (.int (if j < i then j else i)) H) [.int i, .int j] H (.int (if j < i then j else i)) := fun H1 _ _ q => ⟨i, j, rfl, q H1 (Ex.refl H1)⟩
theorem rc_len {K : PySem.W.Frag} {H : Hp} {p : Addr} {ys : List V} (h : SqL K H p ys ∨ SqT K H p ys) : RC (fun xs H Q => ∃ p ys, xs = [V.ref p] ∧ (SqL K H p ys ∨ SqT K H p ys) ∧ Q (.int ys.length) H) [.ref p] H (.int ys.length) :=
  fun H1 e _ q => ⟨p, ys, rfl, h.elim (fun h => .inl (ex_l e h)) (fun h => .inr (ex_t e h)), q H1 (Ex.refl H1)⟩
theorem rc_isi_int {K : PySem.W.Frag} {H : Hp} {i : Int} {n : String} {b : Bool} (h : kitB "int" n = some b) : RC (rIsi K) [.int i, .ty n] H (.bl b) :=
  fun H1 _ _ q => ⟨.int i, .ty n, .type "int", .type n, b, rfl, .ty n, .base (.int i), kit_ty h, q H1 (Ex.refl H1)⟩
theorem ex_g {H H' : Hp} {a : Addr} {o : HO} (e : Ex H H') (h : H a = some o) : H' a = some o := e a o h
theorem at_rows {rows : List Int} {z : Int} (h0 : 0 ≤ z) (h : z < rows.length) : atI (rows.map V.int) z = some (.int (rows.getD z.toNat 0)) := by
  have hz : z = ((z.toNat : Nat) : Int) := by omega
  have hl : z.toNat < rows.length := by omega
  refine at_of hz ?_
  rw [List.getElem?_map, List.getElem?_eq_getElem hl, List.getD_eq_getElem?_getD, List.getElem?_eq_getElem hl]
  rfl
theorem at4 {a b c d z : Int} (h0 : 0 ≤ z) (h : z < 4) : atI [V.int a, .int b, .int c, .int d] z = some (.int (if z = 0 then a else if z = 1 then b else if z = 2 then c else d)) := by
  have h4 : z = 0 ∨ z = 1 ∨ z = 2 ∨ z = 3 := by omega
  rcases h4 with rfl | rfl | rfl | rfl <;> rfl
theorem wm {i j : Int} (h1 : i.natAbs < 2 ^ 240) (h2 : j.natAbs < 2 ^ 240) : CMulW i j := wide_mul h1 h2 (by decide) (by decide) (by decide)
theorem wd {i j : Int} (h : 0 < j) (h2 : j.natAbs < 2 ^ 240) : CDivW i j := wide_div h h2 (by decide) (by decide)
theorem n400 {i : Int} {n : Int} (h1 : -n ≤ i) (h2 : i ≤ n) (h : n.toNat < 2 ^ 240) : i.natAbs < 2 ^ 240 := by omega
theorem n400' {i : Int} (h1 : -(10 ^ 70) ≤ i) (h2 : i ≤ 10 ^ 70) : i.natAbs < 2 ^ 240 := n400 h1 h2 (by decide)
theorem decT {p : Prop} [Decidable p] (h : p) {b : Bool} (e : decide p = b) : b = true := by rw [← e]; exact decide_eq_true h
abbrev vErr : List Value := [.type "ValueError", .type "Exception", .type "BaseException", .type "object"]
theorem ex_up {H : Hp} {p : Addr} {o' : HO} {H0 : Hp} (e : Ex H0 H) (hp : H0 p = none) : Ex H0 (upd H p o') := Ex.mut e hp
theorem seq_ne {K : PySem.W.Frag} {H H' : Hp} {a : Addr} {xs : List V} (e : Ex H H') (h : SqL K H a xs) : SqL K H' a xs := ex_l e h
/-- a def's call that hands back a new list of which something is known -/
def SpN (sp : Sp) (vs : List V) (H : Hp) (P : List V → Prop) : Prop := ∀ H1, Ex H H1 → ∀ Q : VK, (∀ xs p H2, P xs → H1 p = none → Ex H1 H2 → H2 p = some (.lst xs) → Q (.ref p) H2) → ∀ E : XK, sp vs H1 Q E
theorem q_callN {sp : Sp} {dvs vs : List V} {E : XK} {ta : TA} {σ : L2.St} {H : Hp} {i : Nat} {D : Ends} {tz : TS} {P : List V → Prop} (h : EvA ta σ H vs) (hs : SpN sp (vs ++ dvs) H P)
    (k : ∀ xs p H1, P xs → H p = none → Ex H H1 → H1 p = some (.lst xs) → tz D (σ.set i (some (.ref p))) H1) : tSeq (tAsg (tCall sp dvs E ta) (gName i)) tz D σ H :=
  h H (Ex.refl H) _ fun H1 e1 => hs H1 e1 _ (fun xs p H2 hP hp e2 h2 => k xs p H2 hP (fresh_back e1 hp) (e1.trans e2) h2) E
theorem s_callN {sp : Sp} {dvs vs : List V} {E : XK} {ta : TA} {σ : L2.St} {H : Hp} {i : Nat} {D : Ends} {P : List V → Prop} (h : EvA ta σ H vs) (hs : SpN sp (vs ++ dvs) H P)
    (k : ∀ xs p H1, P xs → H p = none → Ex H H1 → H1 p = some (.lst xs) → D.nx (σ.set i (some (.ref p))) H1) : tAsg (tCall sp dvs E ta) (gName i) D σ H :=
  h H (Ex.refl H) _ fun H1 e1 => hs H1 e1 _ (fun xs p H2 hP hp e2 h2 => k xs p H2 hP (fresh_back e1 hp) (e1.trans e2) h2) E
/-- .. whose first argument is a new list -/
theorem s_callN1 {sp : Sp} {dvs vs xs0 : List V} {E : XK} {te : TE} {tr : TA} {σ : L2.St} {H : Hp} {i : Nat} {D : Ends} {P : List V → Prop} (h1 : EvL te σ H xs0) (h2 : EvA tr σ H vs) (hs : ∀ p0 H1, Ex H H1 → H1 p0 = some (.lst xs0) → SpN sp (.ref p0 :: vs ++ dvs) H1 P)
    (k : ∀ xs p H1, P xs → H p = none → Ex H H1 → H1 p = some (.lst xs) → D.nx (σ.set i (some (.ref p))) H1) : tAsg (tCall sp dvs E (tCons te tr)) (gName i) D σ H :=
  h1 H (Ex.refl H) _ fun p0 H1 _ e1 hp0 => h2 H1 e1 _ fun H2 e2 => hs p0 H2 (e1.trans e2) (e2 _ _ hp0) H2 (Ex.refl H2) _ (fun xs p H3 hP hp e3 h3 => k xs p H3 hP (fresh_back (e1.trans e2) hp) ((e1.trans e2).trans e3) h3) E
theorem ev_callL {sp : Sp} {dvs vs xs0 : List V} {E : XK} {te : TE} {tr : TA} {σ : L2.St} {H : Hp} {z : V} (h1 : EvL te σ H xs0) (h2 : EvA tr σ H vs) (hs : ∀ p0 H1, Ex H H1 → H1 p0 = some (.lst xs0) → SpV sp (.ref p0 :: vs ++ dvs) H1 z) : Ev (tCall sp dvs E (tCons te tr)) σ H z := fun H0 e0 Q q =>
  h1 H0 e0 _ fun p0 H1 _ e1 hp0 => h2 H1 (e0.trans e1) _ fun H2 e2 => hs p0 H2 ((e0.trans e1).trans e2) (e2 _ _ hp0) H2 (Ex.refl H2) _ (fun H3 e3 => q H3 ((e1.trans e2).trans e3)) E
theorem cut_from (xs : List V) (k : Nat) : cutV xs (some (k : Int)) none = xs.drop k := by
  unfold cutV
  rw [HT.sIx_nat, HT.sIx_none]
  by_cases h : k ≤ xs.length
  · rw [Nat.min_eq_left h, List.take_of_length_le (by rw [List.length_drop]; omega)]
  · rw [Nat.min_eq_right (by omega), Nat.sub_self, List.take_zero, List.drop_of_length_le (by omega)]
theorem s_asgSub {l : Addr} {xs : List V} {z : Int} {j : Nat} {te ta tb : TE} {σ : L2.St} {H : Hp} {v : V} {D : Ends} (hl : H l = some (.lst xs)) (h : Ev te σ H v) (ho : Ev ta σ H (.ref l)) (hi : Ev tb σ H (.int z)) (hz : z = (j : Int)) (hj : j < xs.length)
    (k : ∀ H1, Ex H H1 → D.nx σ (upd H1 l (.lst (xs.set j v)))) : tAsg te (gSub ta tb rSetL) D σ H := s_setL hl h ho (hz ▸ hi) hj k
end Su
open PySem PySem.Spec PyProof.Rows L2 Evl Su
/-! ### small tactics: "ev" an expression, "et" a test, "ea" arguments, "rv" an operator, "rc" a built-in, "hc" a bound -/
local macro_rules | `(tactic| walk_at "hc") => `(tactic| first | assumption | omega | (exact Su.CMul.l (by omega) (by omega)) | (exact Su.CMul.r (by omega) (by omega)) | (exact Su.wm (Su.n400' (by omega) (by omega)) (Su.n400' (by omega) (by omega))) | (exact Su.wd (by omega) (Su.n400' (by omega) (by omega))) | decide)
local macro_rules | `(tactic| walk_at "rv") => `(tactic| first
  | (with_reducible exact rv_I0)
  | (with_reducible exact rv_eq rfl)
  | (with_reducible exact rv_ne rfl)
  | (with_reducible refine Su.rv_mod ?_; walk_at "hc")
  | (with_reducible refine Su.rv_div ?_ ?_ <;> walk_at "hc")
  | (with_reducible refine Su.rv_mul ?_; walk_at "hc")
  | exact Su.rv_p18
  | exact Su.rv_p12
  | exact Su.rv_p20
  | (with_reducible refine Su.rv_divW ?_; walk_at "hc")
  | (with_reducible refine Su.rv_mulW ?_; walk_at "hc")
  | (apply rv_ixL; (first | assumption | (exact sq_of (by assumption))); (first | (apply Su.at_rows <;> walk_at "hc") | rfl | assumption)))
local macro_rules | `(tactic| walk_at "rc") => `(tactic| first
  | exact Su.rc_abs
  | exact Su.rc_max
  | exact Su.rc_min
  | exact Su.rc_isi_int (b := true) (by decide +kernel)
  | exact Su.rc_isi_int (b := false) (by decide +kernel))
local macro_rules | `(tactic| walk_at "ea") => `(tactic| first
  | exact ea_nil
  | (apply ea_cons; (walk_at "ev"); (walk_at "ea")))
local macro_rules | `(tactic| walk_at "ev") => `(tactic| first
  | exact ev_c
  | exact ev_var rfl
  | (apply ev_op; (walk_at "ev"); (walk_at "ev"); (walk_at "rv"))
  | (apply ev_un; (walk_at "ev"); (exact ru_neg))
  | (apply ev_andV; (walk_at "ev"); (intro _; walk_at "ev"))
  | (apply ev_orV; (walk_at "ev"); (intro _; walk_at "ev"))
  | (apply ev_notV; (walk_at "ev"))
  | (apply ev_len; (walk_at "ev"); first | assumption | (exact sq_of (by assumption)))
  | (apply ev_cb; (walk_at "ea"); (walk_at "rc")))
local macro_rules | `(tactic| walk_at "et") => `(tactic| first
  | (apply et_and; (walk_at "et"); (intro _; walk_at "et"))
  | (apply et_or; (walk_at "et"); (intro _; walk_at "et"))
  | (apply et_not; (walk_at "et"))
  | (apply et_test; (walk_at "ev"))
  | (apply et_B; (walk_at "ev")))

open PySem PySem.Spec PyProof.Rows L2 Evl Su
namespace Su
def topS (i : Nat) : Stmt := PySem.Challenge.pw_susu_k13_whole_all_orders.main.body.getD i (.Pass ⟨0, 0, 0, 0⟩)
abbrev s_within : Stmt := topS 5
abbrev N_within : List Str := ["windows", "a", "b", "at", "first", "last"]
theorem sc_within : FnScope N_within ["windows", "a", "b"] (defScope s_within) := ⟨rfl, rfl, rfl, by decide +kernel, rfl, by decide +kernel, by decide +kernel⟩
abbrev s_order_or_bar : Stmt := topS 6
abbrev N_order_or_bar : List Str := ["windows", "row", "a", "b"]
theorem sc_order_or_bar : FnScope N_order_or_bar ["windows"] (defScope s_order_or_bar) := ⟨rfl, rfl, rfl, by decide +kernel, rfl, by decide +kernel, by decide +kernel⟩
abbrev s_told_order : Stmt := topS 7
abbrev N_told_order : List Str := ["windows", "free", "row", "turn", "ready", "chosen", "at"]
theorem sc_told_order : FnScope N_told_order ["windows"] (defScope s_told_order) := ⟨rfl, rfl, rfl, by decide +kernel, rfl, by decide +kernel, by decide +kernel⟩
abbrev s_fullest_span : Stmt := topS 8
abbrev N_fullest_span : List Str := ["windows", "turns", "spans", "a", "b"]
theorem sc_fullest_span : FnScope N_fullest_span ["windows"] (defScope s_fullest_span) := ⟨rfl, rfl, rfl, by decide +kernel, rfl, by decide +kernel, by decide +kernel⟩
abbrev s_surplus : Stmt := topS 9
abbrev N_surplus : List Str := ["windows", "a", "b"]
theorem sc_surplus : FnScope N_surplus ["windows", "a", "b"] (defScope s_surplus) := ⟨rfl, rfl, rfl, by decide +kernel, rfl, by decide +kernel, by decide +kernel⟩
abbrev s_rounds_between : Stmt := topS 10
abbrev N_rounds_between : List Str := ["a", "b"]
theorem sc_rounds_between : FnScope N_rounds_between ["a", "b"] (defScope s_rounds_between) := ⟨rfl, rfl, rfl, by decide +kernel, rfl, by decide +kernel, by decide +kernel⟩
abbrev s_is_order : Stmt := topS 11
abbrev N_is_order : List Str := ["windows", "row", "turn", "at"]
theorem sc_is_order : FnScope N_is_order ["windows", "row"] (defScope s_is_order) := ⟨rfl, rfl, rfl, by decide +kernel, rfl, by decide +kernel, by decide +kernel⟩
abbrev s_count_orders : Stmt := topS 14
abbrev N_count_orders : List Str := ["windows"]
theorem sc_count_orders : FnScope N_count_orders ["windows"] (defScope s_count_orders) := ⟨rfl, rfl, rfl, by decide +kernel, rfl, by decide +kernel, by decide +kernel⟩
abbrev s_order_by_number : Stmt := topS 15
abbrev N_order_by_number : List Str := ["windows", "number", "ways", "row", "held", "left", "chosen", "at"]
theorem sc_order_by_number : FnScope N_order_by_number ["windows", "number"] (defScope s_order_by_number) := ⟨rfl, rfl, rfl, by decide +kernel, rfl, by decide +kernel, by decide +kernel⟩
abbrev s_number_of_order : Stmt := topS 16
abbrev N_number_of_order : List Str := ["windows", "row", "ways", "number", "held", "at"]
theorem sc_number_of_order : FnScope N_number_of_order ["windows", "row"] (defScope s_number_of_order) := ⟨rfl, rfl, rfl, by decide +kernel, rfl, by decide +kernel, by decide +kernel⟩
abbrev s_refuse_many : Stmt := topS 17
abbrev N_refuse_many : List Str := ["windows"]
theorem sc_refuse_many : FnScope N_refuse_many ["windows"] (defScope s_refuse_many) := ⟨rfl, rfl, rfl, by decide +kernel, rfl, by decide +kernel, by decide +kernel⟩
abbrev s_with_window : Stmt := topS 18
abbrev N_with_window : List Str := ["held", "at"]
theorem sc_with_window : FnScope N_with_window ["held", "at"] (defScope s_with_window) := ⟨rfl, rfl, rfl, by decide +kernel, rfl, by decide +kernel, by decide +kernel⟩
abbrev s_next_windows : Stmt := topS 19
abbrev N_next_windows : List Str := ["windows", "held", "free", "turn", "at"]
theorem sc_next_windows : FnScope N_next_windows ["windows", "held"] (defScope s_next_windows) := ⟨rfl, rfl, rfl, by decide +kernel, rfl, by decide +kernel, by decide +kernel⟩
abbrev s_ways_on : Stmt := topS 20
abbrev N_ways_on : List Str := ["windows", "full", "ways", "held", "at"]
theorem sc_ways_on : FnScope N_ways_on ["windows"] (defScope s_ways_on) := ⟨rfl, rfl, rfl, by decide +kernel, rfl, by decide +kernel, by decide +kernel⟩
abbrev s_lesser_ways : Stmt := topS 21
abbrev N_lesser_ways : List Str := ["windows", "ways", "held", "at", "k"]
theorem sc_lesser_ways : FnScope N_lesser_ways ["windows", "ways", "held", "at"] (defScope s_lesser_ways) := ⟨rfl, rfl, rfl, by decide +kernel, rfl, by decide +kernel, by decide +kernel⟩
abbrev s__law_draws : Stmt := topS 23
abbrev N__law_draws : List Str := ["_law_script", "_law_many", "_law_rows", "_law_mix", "_law_cell", "_law_rest"]
theorem sc__law_draws : FnScope N__law_draws ["_law_script", "_law_many"] (defScope s__law_draws) := ⟨rfl, rfl, rfl, by decide +kernel, rfl, by decide +kernel, by decide +kernel⟩
abbrev s__law_same : Stmt := topS 24
abbrev N__law_same : List Str := ["_law_told", "_law_due", "_law_one", "_law_other"]
theorem sc__law_same : FnScope N__law_same ["_law_told", "_law_due"] (defScope s__law_same) := ⟨rfl, rfl, rfl, by decide +kernel, rfl, by decide +kernel, by decide +kernel⟩
abbrev s__law_whole : Stmt := topS 25
abbrev N__law_whole : List Str := ["_law_told"]
theorem sc__law_whole : FnScope N__law_whole ["_law_told"] (defScope s__law_whole) := ⟨rfl, rfl, rfl, by decide +kernel, rfl, by decide +kernel, by decide +kernel⟩
abbrev s__law_wide : Stmt := topS 26
abbrev N__law_wide : List Str := ["_law_some", "_law_size", "_law_rows", "_law_at", "_law_first", "_law_last"]
theorem sc__law_wide : FnScope N__law_wide ["_law_some", "_law_size"] (defScope s__law_wide) := ⟨rfl, rfl, rfl, by decide +kernel, rfl, by decide +kernel, by decide +kernel⟩
abbrev s__law_all : Stmt := topS 27
abbrev N__law_all : List Str := ["_law_windows", "_law_rows", "_law_turn", "_law_later", "_law_row", "_law_at"]
theorem sc__law_all : FnScope N__law_all ["_law_windows"] (defScope s__law_all) := ⟨rfl, rfl, rfl, by decide +kernel, rfl, by decide +kernel, by decide +kernel⟩
abbrev s_law : Stmt := topS 28
abbrev N_law : List Str := ["_law_script", "_law_some", "_law_size", "_law_windows", "_law_due", "_law_many", "_law_paper", "_law_word", "_law_number", "_law_row"]
theorem sc_law : FnScope N_law ["_law_script"] (defScope s_law) := ⟨rfl, rfl, rfl, by decide +kernel, rfl, by decide +kernel, by decide +kernel⟩
/-- a def whose code object is known by its address -/
structure FunC (K : PySem.W.Frag) (x qual : Str) (st : Stmt) (f : Addr) (fd : FuncData) (c : Addr) : Prop where
  ex : ∃ (oc : Value) (od : Option Addr) (kV doc pm : Value) (an : Option Addr) (ct : Value) (osl : Array (Option Value)),
    fd = PySem.W.fnOf x qual (defArgs st) (defBody st) (defScope st) .none kV doc pm an (.ref c) ct ∧ K.lookup f = some ⟨oc, od, .func fd, osl⟩ ∧ PySem.W.codeIn K (.ref c) qual = true
section
variable {P : Program} {w : World} {K : PySem.W.Frag} {mg : Str → Option Value} {base : Heap}
theorem FunC.ok {x qual : Str} {st : Stmt} {f c : Addr} {fd : FuncData} {N ps : List Str} {k : Nat} {sp : Sp} (F : FunC K x qual st f fd c) (S : FnScope N ps (defScope st)) (len : ∀ vs H Q E, sp vs H Q E → vs.length = ps.length)
    (hbody : ∀ (A : Around) (outer : List Env) (s : Shared) (H : Hp) (vs : List V) (Q : VK) (E : XK), Room k (A.deeper (envOfC qual (defScope st) s.heap.objs.size f (.ref c))) → sp vs H Q E →
      ∃ t, PSs (cxOf CX0 P w K mg base N qual (defScope st) f (.ref c) A outer s H E).nox (defBody st) t ∧ t { nx := fun _ H' => Q .non H', rt := Q } (start N vs) H) : FnOk P w K mg base CX0 (k + 1) f fd ps sp := by
  obtain ⟨oc, od, kV, doc, pm, an, ct, osl, rfl, lk, hcd⟩ := F.ex
  refine fn_of lk hcd S len fun A outer s H vs Q E hr hsp => ?_
  obtain ⟨t, h, q⟩ := hbody A outer s H vs Q E hr hsp
  exact ⟨t, h.nox, q⟩
theorem func_mk {x qual : Str} {st : Stmt} {f c : Addr} {oc : Value} {od an : Option Addr} {osl : Array (Option Value)} {kV doc pm cdv ct : Value} (l : K.lookup f = some ⟨oc, od, .func (PySem.W.fnOf x qual (defArgs st) (defBody st) (defScope st) .none kV doc pm an cdv ct), osl⟩)
    (h : PySem.W.codeIn K cdv qual = true) (e : cdv = .ref c) : FunC K x qual st f (PySem.W.fnOf x qual (defArgs st) (defBody st) (defScope st) .none kV doc pm an cdv ct) c := by
  subst e
  exact ⟨oc, od, kV, doc, pm, an, ct, osl, rfl, l, h⟩
end
structure Top (K : PySem.W.Frag) (mg : Str → Option Value) where
  f_within : Addr
  fd_within : FuncData
  F_within : Fun K "within" "within" s_within f_within fd_within
  b_within : Binds K fd_within ["windows", "a", "b"] []
  m_within : mg "within" = some (.ref f_within)
  f_order_or_bar : Addr
  fd_order_or_bar : FuncData
  F_order_or_bar : Fun K "order_or_bar" "order_or_bar" s_order_or_bar f_order_or_bar fd_order_or_bar
  b_order_or_bar : Binds K fd_order_or_bar ["windows"] []
  m_order_or_bar : mg "order_or_bar" = some (.ref f_order_or_bar)
  f_told_order : Addr
  fd_told_order : FuncData
  F_told_order : Fun K "told_order" "told_order" s_told_order f_told_order fd_told_order
  b_told_order : Binds K fd_told_order ["windows"] []
  m_told_order : mg "told_order" = some (.ref f_told_order)
  f_fullest_span : Addr
  fd_fullest_span : FuncData
  F_fullest_span : Fun K "fullest_span" "fullest_span" s_fullest_span f_fullest_span fd_fullest_span
  b_fullest_span : Binds K fd_fullest_span ["windows"] []
  m_fullest_span : mg "fullest_span" = some (.ref f_fullest_span)
  f_surplus : Addr
  fd_surplus : FuncData
  F_surplus : Fun K "surplus" "surplus" s_surplus f_surplus fd_surplus
  b_surplus : Binds K fd_surplus ["windows", "a", "b"] []
  m_surplus : mg "surplus" = some (.ref f_surplus)
  f_rounds_between : Addr
  fd_rounds_between : FuncData
  F_rounds_between : Fun K "rounds_between" "rounds_between" s_rounds_between f_rounds_between fd_rounds_between
  b_rounds_between : Binds K fd_rounds_between ["a", "b"] []
  m_rounds_between : mg "rounds_between" = some (.ref f_rounds_between)
  f_is_order : Addr
  fd_is_order : FuncData
  F_is_order : Fun K "is_order" "is_order" s_is_order f_is_order fd_is_order
  b_is_order : Binds K fd_is_order ["windows", "row"] []
  m_is_order : mg "is_order" = some (.ref f_is_order)
  f_count_orders : Addr
  fd_count_orders : FuncData
  F_count_orders : Fun K "count_orders" "count_orders" s_count_orders f_count_orders fd_count_orders
  b_count_orders : Binds K fd_count_orders ["windows"] []
  m_count_orders : mg "count_orders" = some (.ref f_count_orders)
  f_order_by_number : Addr
  fd_order_by_number : FuncData
  F_order_by_number : Fun K "order_by_number" "order_by_number" s_order_by_number f_order_by_number fd_order_by_number
  b_order_by_number : Binds K fd_order_by_number ["windows", "number"] []
  m_order_by_number : mg "order_by_number" = some (.ref f_order_by_number)
  f_number_of_order : Addr
  fd_number_of_order : FuncData
  F_number_of_order : Fun K "number_of_order" "number_of_order" s_number_of_order f_number_of_order fd_number_of_order
  b_number_of_order : Binds K fd_number_of_order ["windows", "row"] []
  m_number_of_order : mg "number_of_order" = some (.ref f_number_of_order)
  f_refuse_many : Addr
  fd_refuse_many : FuncData
  F_refuse_many : Fun K "refuse_many" "refuse_many" s_refuse_many f_refuse_many fd_refuse_many
  b_refuse_many : Binds K fd_refuse_many ["windows"] []
  m_refuse_many : mg "refuse_many" = some (.ref f_refuse_many)
  f_with_window : Addr
  fd_with_window : FuncData
  F_with_window : Fun K "with_window" "with_window" s_with_window f_with_window fd_with_window
  b_with_window : Binds K fd_with_window ["held", "at"] []
  m_with_window : mg "with_window" = some (.ref f_with_window)
  f_next_windows : Addr
  fd_next_windows : FuncData
  F_next_windows : Fun K "next_windows" "next_windows" s_next_windows f_next_windows fd_next_windows
  b_next_windows : Binds K fd_next_windows ["windows", "held"] []
  m_next_windows : mg "next_windows" = some (.ref f_next_windows)
  f_ways_on : Addr
  fd_ways_on : FuncData
  F_ways_on : Fun K "ways_on" "ways_on" s_ways_on f_ways_on fd_ways_on
  b_ways_on : Binds K fd_ways_on ["windows"] []
  m_ways_on : mg "ways_on" = some (.ref f_ways_on)
  f_lesser_ways : Addr
  fd_lesser_ways : FuncData
  F_lesser_ways : Fun K "lesser_ways" "lesser_ways" s_lesser_ways f_lesser_ways fd_lesser_ways
  b_lesser_ways : Binds K fd_lesser_ways ["windows", "ways", "held", "at"] []
  m_lesser_ways : mg "lesser_ways" = some (.ref f_lesser_ways)
  f__law_draws : Addr
  fd__law_draws : FuncData
  F__law_draws : Fun K "_law_draws" "_law_draws" s__law_draws f__law_draws fd__law_draws
  b__law_draws : Binds K fd__law_draws ["_law_script", "_law_many"] []
  m__law_draws : mg "_law_draws" = some (.ref f__law_draws)
  f__law_same : Addr
  fd__law_same : FuncData
  F__law_same : Fun K "_law_same" "_law_same" s__law_same f__law_same fd__law_same
  b__law_same : Binds K fd__law_same ["_law_told", "_law_due"] []
  m__law_same : mg "_law_same" = some (.ref f__law_same)
  f__law_whole : Addr
  fd__law_whole : FuncData
  F__law_whole : Fun K "_law_whole" "_law_whole" s__law_whole f__law_whole fd__law_whole
  b__law_whole : Binds K fd__law_whole ["_law_told"] []
  m__law_whole : mg "_law_whole" = some (.ref f__law_whole)
  f__law_wide : Addr
  fd__law_wide : FuncData
  F__law_wide : Fun K "_law_wide" "_law_wide" s__law_wide f__law_wide fd__law_wide
  b__law_wide : Binds K fd__law_wide ["_law_some", "_law_size"] []
  m__law_wide : mg "_law_wide" = some (.ref f__law_wide)
  f__law_all : Addr
  fd__law_all : FuncData
  F__law_all : Fun K "_law_all" "_law_all" s__law_all f__law_all fd__law_all
  b__law_all : Binds K fd__law_all ["_law_windows"] []
  m__law_all : mg "_law_all" = some (.ref f__law_all)
  f_law : Addr
  fd_law : FuncData
  F_law : Fun K "law" "law" s_law f_law fd_law
  b_law : Binds K fd_law ["_law_script"] []
  m_law : mg "law" = some (.ref f_law)
  m_abs : mg "abs" = none
  m_all : mg "all" = none
  m_bool : mg "bool" = none
  m_enumerate : mg "enumerate" = none
  m_int : mg "int" = none
  m_isinstance : mg "isinstance" = none
  m_len : mg "len" = none
  m_list : mg "list" = none
  m_max : mg "max" = none
  m_min : mg "min" = none
  m_range : mg "range" = none
  m_sorted : mg "sorted" = none
  m_str : mg "str" = none
  m_sum : mg "sum" = none
  m_tuple : mg "tuple" = none
  m_zip : mg "zip" = none
  f_SusuError : Addr
  m_SusuError : mg "SusuError" = some (.ref f_SusuError)
  f_BadNumber : Addr
  m_BadNumber : mg "BadNumber" = some (.ref f_BadNumber)
  f_TooMany : Addr
  m_TooMany : mg "TooMany" = some (.ref f_TooMany)
  x_BadNumber : PySem.W.excIn K f_BadNumber vErr "ValueError.__new__" = true
  kp_BadNumber : PySem.W.keepIn K (.ref f_BadNumber) = true
  e_BadNumber : ExcC K f_BadNumber
  x_TooMany : PySem.W.excIn K f_TooMany vErr "ValueError.__new__" = true
  kp_TooMany : PySem.W.keepIn K (.ref f_TooMany) = true
  e_TooMany : ExcC K f_TooMany
  sb_BadNumber : PySem.W.subIn K (.ref f_BadNumber) (.type "BaseException") = some true
  ty_BadNumber : PySem.W.typeIn K (.ref f_BadNumber) = some (.type "type")
  sb_TooMany : PySem.W.subIn K (.ref f_TooMany) (.type "BaseException") = some true
  ty_TooMany : PySem.W.typeIn K (.ref f_TooMany) = some (.type "type")
  c_told_order : Addr
  P_told_order : Addr
  C_told_order : FunC K "told_order" "told_order" s_told_order f_told_order fd_told_order c_told_order
  c_fullest_span : Addr
  P_fullest_span : Addr
  C_fullest_span : FunC K "fullest_span" "fullest_span" s_fullest_span f_fullest_span fd_fullest_span c_fullest_span
  ne_told_order_fullest_span : P_told_order ≠ P_fullest_span
  t_MOST_WINDOWS : Tok
  m_MOST_WINDOWS : mg "MOST_WINDOWS" = some (.int 8 t_MOST_WINDOWS)
section
variable {K : PySem.W.Frag} {mg : Str → Option Value}
def Top.tabs (T : Top K mg) : List (Addr × Str) := [(T.P_told_order, ("told_order" : Str) ++ (".<locals>." : Str) ++ ("<lambda>" : Str)), (T.P_fullest_span, ("fullest_span" : Str) ++ (".<locals>." : Str) ++ ("<lambda>" : Str))]
theorem Top.hm_told_order (T : Top K mg) : (T.P_told_order, ("told_order" : Str) ++ (".<locals>." : Str) ++ ("<lambda>" : Str)) ∈ T.tabs := by unfold Top.tabs; simp
theorem Top.hu_told_order (T : Top K mg) : ∀ p ∈ T.tabs, p.1 = T.P_told_order → p.2 = ("told_order" : Str) ++ (".<locals>." : Str) ++ ("<lambda>" : Str) := by
  intro p hp e
  unfold Top.tabs at hp
  rcases List.mem_cons.mp hp with rfl | hp
  · exact rfl
  rcases List.mem_cons.mp hp with rfl | hp
  · exact absurd e (fun z => T.ne_told_order_fullest_span z.symm)
  exact absurd hp List.not_mem_nil
theorem Top.hm_fullest_span (T : Top K mg) : (T.P_fullest_span, ("fullest_span" : Str) ++ (".<locals>." : Str) ++ ("<lambda>" : Str)) ∈ T.tabs := by unfold Top.tabs; simp
theorem Top.hu_fullest_span (T : Top K mg) : ∀ p ∈ T.tabs, p.1 = T.P_fullest_span → p.2 = ("fullest_span" : Str) ++ (".<locals>." : Str) ++ ("<lambda>" : Str) := by
  intro p hp e
  unfold Top.tabs at hp
  rcases List.mem_cons.mp hp with rfl | hp
  · exact absurd e T.ne_told_order_fullest_span
  rcases List.mem_cons.mp hp with rfl | hp
  · exact rfl
  exact absurd hp List.not_mem_nil
end
end Su
namespace Su
/-! ### rules whose written part is named, for blocks -/
section
variable {X : Cx} {K : PySem.W.Frag}
theorem ix_listK (h : X.K = K := by rfl) : IxR X (rIxL K) := h ▸ ix_list
theorem ix_tupK (h : X.K = K := by rfl) : IxR X (rIxT K) := h ▸ ix_tup
theorem call_len_seqK (h : X.K = K := by rfl) : CallR X (.builtin "len") (fun xs H Q => ∃ p ys, xs = [.ref p] ∧ (SqL K H p ys ∨ SqT K H p ys) ∧ Q (.int ys.length) H) := h ▸ call_len_seq
theorem op_in_seqK (h : X.K = K := by rfl) : OpR X (compareOp .In) (rIn K false) := h ▸ op_in_seq
theorem op_notIn_seqK (h : X.K = K := by rfl) : OpR X (compareOp .NotIn) (rIn K true) := h ▸ op_notIn_seq
theorem call_list_ofK (h : X.K = K := by rfl) : CallR X (.type "list") (fun xs H Q => ∃ p ys, xs = [.ref p] ∧ (SqL K H p ys ∨ SqT K H p ys) ∧ ∀ l, H l = none → Q (.ref l) (upd H l (.lst ys))) := h ▸ call_list_of
theorem call_isiK' (h : X.K = K := by rfl) : CallR X (.builtin "isinstance") (rIsi K) := h ▸ call_isi
end

end Su
namespace Su
theorem chain_le' {σ : L2.St} {H : Hp} {ta tb tc : TE} {a b c : Int} (h1 : Ev ta σ H (.int a)) (h2 : Ev tb σ H (.int b)) (h3 : Ev tc σ H (.int c)) :
    Ev (tChain (rI0 fun i j => .bl (decide (i ≤ j))) (rI0 fun i j => .bl (decide (i ≤ j))) ta tb tc) σ H (.bl (decide (a ≤ b) && decide (b ≤ c))) := fun H1 e Q q =>
  h1 H1 e _ fun H2 e2 => h2 H2 (e.trans e2) _ fun H3 e3 => ⟨a, b, rfl, rfl, decide (a ≤ b), rfl, by
    cases hd : decide (a ≤ b) with
    | true =>
      show tc σ H3 _
      exact h3 H3 ((e.trans e2).trans e3) _ fun H4 e4 => ⟨b, c, rfl, rfl, by rw [hd] at q; exact q H4 ((e2.trans e3).trans e4)⟩
    | false =>
      rw [hd] at q
      exact q H3 (e2.trans e3)⟩
theorem chain_le {σ : L2.St} {H : Hp} {ta tb tc : TE} {a b c : Int} (h1 : Ev ta σ H (.int a)) (h2 : Ev tb σ H (.int b)) (h3 : Ev tc σ H (.int c)) :
    EvT (tTest (tChain (rI0 fun i j => .bl (decide (i ≤ j))) (rI0 fun i j => .bl (decide (i ≤ j))) ta tb tc)) σ H (decide (a ≤ b) && decide (b ≤ c)) := fun H1 e Q q =>
  h1 H1 e _ fun H2 e2 => h2 H2 (e.trans e2) _ fun H3 e3 => ⟨a, b, rfl, rfl, decide (a ≤ b), rfl, by
    cases hd : decide (a ≤ b) with
    | true =>
      show tc σ H3 _
      exact h3 H3 ((e.trans e2).trans e3) _ fun H4 e4 => ⟨b, c, rfl, rfl, decide (b ≤ c), rfl, by rw [hd] at q; exact q H4 ((e2.trans e3).trans e4)⟩
    | false =>
      rw [hd] at q
      exact ⟨false, rfl, q H3 (e2.trans e3)⟩⟩
theorem et_chain {f g : Int → Int → Bool} {σ : L2.St} {H : Hp} {ta tb tc : TE} {a b c : Int} (h1 : Ev ta σ H (.int a)) (h2 : Ev tb σ H (.int b)) (h3 : Ev tc σ H (.int c)) :
    EvT (tTest (tChain (rI0 fun i j => .bl (f i j)) (rI0 fun i j => .bl (g i j)) ta tb tc)) σ H (f a b && g b c) := fun H1 e Q q =>
  h1 H1 e _ fun H2 e2 => h2 H2 (e.trans e2) _ fun H3 e3 => ⟨a, b, rfl, rfl, f a b, rfl, by
    cases hd : f a b with
    | true =>
      show tc σ H3 _
      exact h3 H3 ((e.trans e2).trans e3) _ fun H4 e4 => ⟨b, c, rfl, rfl, g b c, rfl, by rw [hd] at q; exact q H4 ((e2.trans e3).trans e4)⟩
    | false =>
      rw [hd] at q
      exact ⟨false, rfl, q H3 (e2.trans e3)⟩⟩

end Su
namespace Su
/-! ### the drawn numbers -/
def Rows (m : Nat) (rows : List Int) : Prop := m ≤ rows.length ∧ rows.length ≤ m + 63 ∧ ∀ x ∈ rows, -(10 ^ 18) < x ∧ x < 10 ^ 18
theorem Rows.add {rows : List Int} {x : Int} (h : ∀ x ∈ rows, -(10 ^ 18) < x ∧ x < 10 ^ 18) (h1 : -(10 ^ 18) < x) (h2 : x < 10 ^ 18) : ∀ y ∈ rows ++ [x], -(10 ^ 18) < y ∧ y < 10 ^ 18 := fun y hy => by
  rcases List.mem_append.mp hy with h' | h'
  · exact h y h'
  · obtain rfl := List.mem_singleton.mp h'
    exact ⟨h1, h2⟩
theorem Rows.get {m : Nat} {rows : List Int} (h : Rows m rows) (i : Nat) : -(10 ^ 18) < rows.getD i 0 ∧ rows.getD i 0 < 10 ^ 18 := by
  by_cases hi : i < rows.length
  · rw [List.getD_eq_getElem?_getD, List.getElem?_eq_getElem hi]
    exact h.2.2 _ (List.getElem_mem hi)
  · rw [List.getD_eq_getElem?_getD, List.getElem?_eq_none (by omega)]
    decide
section
variable {P : Program} {w : World} {K : PySem.W.Frag} {mg : Str → Option Value} {base : Heap}
def spDraws (K : PySem.W.Frag) : Sp := fun vs H Q _ => ∃ (a : Addr) (ns : List Int) (m : Nat), vs = [.ref a, .int (m : Int)] ∧ SqL K H a (ns.map V.int) ∧ ns.length ≤ 63 ∧ m ≤ 1000 ∧
  ∀ rows H' p, H p = none → Ex H H' → H' p = some (.lst (rows.map V.int)) → Rows m rows → Q (.ref p) H'
theorem spN_draws {K : PySem.W.Frag} {a : Addr} {ns : List Int} {m : Nat} {H : Hp} (hS : SqL K H a (ns.map V.int)) (hl : ns.length ≤ 63) (hm : m ≤ 1000) : SpN (spDraws K) [.ref a, .int (m : Int)] H (fun xs => ∃ rows : List Int, Rows m rows ∧ xs = rows.map V.int) :=
  fun H1 e Q q E => ⟨a, ns, m, rfl, ex_l e hS, hl, hm, fun rows H' p hp e' h' hr => q _ p H' ⟨rows, hr, rfl⟩ hp e' h'⟩
def DrI (H0 : Hp) (a p : Addr) (m i : Nat) (σ : L2.St) (H : Hp) : Prop := ∃ (rows : List Int) (mix : Int) (y4 y5 : Option V), σ = [some (.ref a), some (.int (m : Int)), some (.ref p), some (.int mix), y4, y5] ∧ Ex H0 H ∧ H p = some (.lst (rows.map V.int)) ∧
  rows.length ≤ m + i ∧ 0 ≤ mix ∧ mix < 2147483647 ∧ ∀ x ∈ rows, -(10 ^ 18) < x ∧ x < 10 ^ 18
theorem ok__law_draws {f : Addr} {fd : FuncData} {k : Nat} (F : Fun K "_law_draws" "_law_draws" s__law_draws f fd) (T : Top K mg) : FnOk P w K mg base CX0 (k + 1) f fd ["_law_script", "_law_many"] (spDraws K) := by
  have nd := sc__law_draws.nd
  refine F.ok sc__law_draws (fun vs H Q E h => ?_) (fun cdv A outer s H vs Q E hr h => ?_)
  · obtain ⟨a, ns, m, rfl, _⟩ := h
    rfl
  · obtain ⟨a, ns, m, rfl, hS, hlen, hm, q⟩ := h
    refine ⟨_, (pss_cons (ps_set (i := 2) nd rfl (.inl rfl) (pe_lst pa_nil))
      (pss_cons (ps_set (i := 3) nd rfl (.inl rfl) pe_int)
      (pss_cons (ps_for PassesOwn.never rfl (pi_list (pv 0)) (pg_name (i := 4) nd rfl (.inl rfl))
        (pss_cons (ps_set (i := 3) nd rfl (.inl rfl) (pe_op op_mod (pe_op op_add (pe_op op_mul (pv 3) pe_int) (pv 4)) pe_int))
          (pss_cons (ps_set (i := 5) nd rfl (.inl rfl) (pe_callB call_abs (by rfl) T.m_abs (by decide +kernel) (pa_cons (pv 4) pa_nil)))
          (pss_cons (ps_if (pt_cmpR op_lt (pv 5) (pe_op op_pow pe_int pe_int) (nomark _))
            (pss_cons (ps_expr (pe_bm PySem.F.plainAttrs_list PySem.F.slot_list_append PySem.F.type_list_append mt_append (pv 2) (pa_cons (pv 4) pa_nil)))
              (pss_one (ps_set (i := 5) nd rfl (.inl rfl) pe_int)))
            pss_nil)
          (pss_one (ps_while PassesOwn.never (PW.pt (pw_and (pt_cmpR op_gt (pv 5) pe_int (nomark _)) (pw_and1 (pt_cmpR op_lt (pe_callB call_len_seq (by rfl) T.m_len PySem.boot_len (pa_cons (pv 2) pa_nil)) (pv 1) (nomark _)))))
            (pss_cons (ps_expr (pe_bm PySem.F.plainAttrs_list PySem.F.slot_list_append PySem.F.type_list_append mt_append (pv 2) (pa_cons (pe_op op_mod (pv 5) pe_int) pa_nil)))
              (pss_one (ps_set (i := 5) nd rfl (.inl rfl) (pe_op op_fdiv (pv 5) pe_int))))))))))
      (pss_cons (ps_while PassesOwn.never (pt_cmpR op_lt (pe_callB call_len_seq (by rfl) T.m_len PySem.boot_len (pa_cons (pv 2) pa_nil)) (pv 1) (nomark _))
        (pss_cons (ps_set (i := 3) nd rfl (.inl rfl) (pe_op op_mod (pe_op op_add (pe_op op_mul (pv 3) pe_int) pe_int) pe_int))
          (pss_one (ps_expr (pe_bm PySem.F.plainAttrs_list PySem.F.slot_list_append PySem.F.type_list_append mt_append (pv 2) (pa_cons (pe_op op_mod (pe_op op_mul (pv 3) (pv 3)) pe_int) pa_nil))))))
      (pss_one (ps_ret (pv 2))))))), ?_⟩
    -- rows = []; mix = 1
    refine q_asgL (el_lst ea_nil (by decide)) fun p H1 hp e1 h1 => ?_
    have hS1 := ex_l e1 hS
    refine q_asg (by walk_at "ev") fun H2 e2 => ?_
    refine q_forL (by walk_at "ev") (ex_l e2 hS1) (DrI H a p m) ?_ ?_ ?_ ?_
    · intro H3 e3
      exact ⟨[], 1, none, none, rfl, (e1.trans e2).trans e3, e3 p _ (e2 p _ h1), Nat.zero_le _, by omega, by omega, fun x hx => by cases hx⟩
    · rintro i σ' H' _ ⟨rows, mix, y4, y5, rfl, ex, _⟩
      exact ex_l ex hS
    · rintro i x σ' H' hx ⟨rows, mix, y4, y5, rfl, ex, hr', hrl, m0, m1, hb⟩
      obtain ⟨c, rfl⟩ : ∃ c : Int, x = .int c := by
        rw [List.getElem?_map] at hx
        cases hc : ns[i]? with
        | none => rw [hc] at hx; cases hx
        | some c => rw [hc] at hx; exact ⟨c, (Option.some.inj hx).symm⟩
      have hi : i < 63 := by
        have := (List.getElem?_eq_some_iff.mp hx).1
        rw [List.length_map] at this
        omega
      refine q_asg (by walk_at "ev") fun H3 e3 => ?_
      have m0' := Int.emod_nonneg (mix * 31 + c) (show (2147483647 : Int) ≠ 0 by decide)
      have m1' := Int.emod_lt_of_pos (mix * 31 + c) (show (0 : Int) < 2147483647 by decide)
      generalize (mix * 31 + c) % 2147483647 = mix' at m0' m1' ⊢
      refine q_asg (by walk_at "ev") fun H4 e4 => ?_
      have hr4 := ex_g e4 (ex_g e3 hr')
      have ex4 := (ex.trans e3).trans e4
      have r0 : 0 ≤ (if c < 0 then -c else c) := by split <;> omega
      have rc : (if c < 0 then -c else c) < 10 ^ 18 → -(10 ^ 18) < c ∧ c < 10 ^ 18 := by split <;> omega
      generalize (if c < 0 then -c else c) = rest at r0 rc ⊢
      -- what stands behind the if: the while
      have hwh : ∀ (rows' : List Int) (rest' : Int) (y4' : Option V) (H5 : Hp), Ex H H5 → H5 p = some (.lst (rows'.map V.int)) → rows'.length ≤ m + (i + 1) → 0 ≤ rest' → (0 < rest' → rows'.length ≤ m + i) → (∀ x ∈ rows', -(10 ^ 18) < x ∧ x < 10 ^ 18) →
          ∀ (tc : TT) (tb : TS) (D : Ends), True → True := fun _ _ _ _ _ _ _ _ _ _ _ _ _ _ => trivial
      clear hwh
      refine q_when (by walk_at "et") (fun hb' H5 e5 => ?_) (fun hb' H5 e5 => ?_)
      · have hlt : rest < 10 ^ 18 := of_decide_eq_true hb'
        obtain ⟨c1, c2⟩ := rc hlt
        refine q_app (ex_g e5 hr4) (by walk_at "ev") (by walk_at "ev") (by rw [List.length_map]; omega) fun H6 e6 => ?_
        refine s_asg (by walk_at "ev") fun H7 e7 => ?_
        have hp7 : H7 p = some (.lst ((rows ++ [c]).map V.int)) := e7 p _ (by rw [upd_same, List.map_append]; rfl)
        have ex7 : Ex H H7 := (ex_up ((ex4.trans e5).trans e6) hp).trans e7
        refine s_while (fun n σ2 H2 => n = 0 ∧ σ2 = [some (.ref a), some (.int (m : Int)), some (.ref p), some (.int mix'), some (.int c), some (.int 0)] ∧ Ex H H2 ∧ H2 p = some (.lst ((rows ++ [c]).map V.int))) 0 ⟨rfl, rfl, ex7, hp7⟩ ?_
        rintro n σ2 H2 ⟨rfl, rfl, ex2, hp2⟩
        refine ⟨_, by walk_at "et", fun hb2 => ?_, fun hb2 H8 e8 => ?_⟩
        · simp at hb2
        · exact ⟨rows ++ [c], mix', _, _, rfl, ex2.trans e8, e8 p _ hp2, by rw [List.length_append]; show rows.length + 1 ≤ _; omega, m0', m1', Rows.add hb c1 c2⟩
      · refine s_while (fun n σ2 H2 => ∃ (rows' : List Int) (rest' : Int), σ2 = [some (.ref a), some (.int (m : Int)), some (.ref p), some (.int mix'), some (.int c), some (.int rest')] ∧ n = rest'.toNat ∧ Ex H H2 ∧ H2 p = some (.lst (rows'.map V.int)) ∧ rows'.length ≤ m + i ∧ 0 ≤ rest' ∧ ∀ x ∈ rows', -(10 ^ 18) < x ∧ x < 10 ^ 18) rest.toNat
          ⟨rows, rest, rfl, rfl, ex4.trans e5, ex_g e5 hr4, hrl, r0, hb⟩ ?_
        rintro n σ2 H2 ⟨rows', rest', rfl, rfl, ex2, hp2, hrl', r0', hb'⟩
        refine ⟨_, by walk_at "et", fun hb2 H8 e8 => ?_, fun hb2 H8 e8 => ?_⟩
        · have hb3 := Bool.and_eq_true_iff.mp hb2
          have hpos : 0 < rest' := of_decide_eq_true hb3.1
          have hlm : ((rows'.map V.int).length : Int) < m := of_decide_eq_true hb3.2
          rw [List.length_map] at hlm
          refine ⟨fun σ3 H3 => ∃ n', n' < rest'.toNat ∧ ∃ (rows' : List Int) (rest' : Int), σ3 = [some (.ref a), some (.int (m : Int)), some (.ref p), some (.int mix'), some (.int c), some (.int rest')] ∧ n' = rest'.toNat ∧ Ex H H3 ∧ H3 p = some (.lst (rows'.map V.int)) ∧ rows'.length ≤ m + i ∧ 0 ≤ rest' ∧ ∀ x ∈ rows', -(10 ^ 18) < x ∧ x < 10 ^ 18, fun _ _ h => h, ?_⟩
          refine q_app (ex_g e8 hp2) (by walk_at "ev") (by walk_at "ev") (by rw [List.length_map]; omega) fun H9 e9 => ?_
          refine s_asg (by walk_at "ev") fun H10 e10 => ?_
          have d0 := Int.emod_nonneg rest' (show (1000003 : Int) ≠ 0 by decide)
          have d1 := Int.emod_lt_of_pos rest' (show (0 : Int) < 1000003 by decide)
          refine ⟨(rest' / 1000003).toNat, by omega, rows' ++ [rest' % 1000003], rest' / 1000003, rfl, rfl, (ex_up ((ex2.trans e8).trans e9) hp).trans e10, e10 p _ (by rw [upd_same, List.map_append]; rfl), ?_, by omega, Rows.add hb' (by omega) (by omega)⟩
          rw [List.length_append]
          show rows'.length + 1 ≤ _
          omega
        · exact ⟨rows', mix', _, _, rfl, ex2.trans e8, e8 p _ hp2, by omega, m0', m1', hb'⟩
    · rintro σ' H' ⟨rows, mix, y4, y5, rfl, ex, hr', hrl, m0, m1, hb⟩
      rw [List.length_map] at hrl
      refine q_while (fun n σ2 H2 => ∃ (rows : List Int) (mix : Int), σ2 = [some (.ref a), some (.int (m : Int)), some (.ref p), some (.int mix), y4, y5] ∧ n = m - rows.length ∧ Ex H H2 ∧ H2 p = some (.lst (rows.map V.int)) ∧ rows.length ≤ m + 63 ∧ 0 ≤ mix ∧ mix < 2147483647 ∧ ∀ x ∈ rows, -(10 ^ 18) < x ∧ x < 10 ^ 18)
        (m - rows.length) ⟨rows, mix, rfl, rfl, ex, hr', by omega, m0, m1, hb⟩ ?_
      rintro n σ2 H2 ⟨rows, mix, rfl, rfl, ex, hr', hrl, m0, m1, hb⟩
      refine ⟨_, by walk_at "et", fun hb2 H8 e8 => ?_, fun hb2 H8 e8 => ?_⟩
      · have hlm : ((rows.map V.int).length : Int) < m := of_decide_eq_true hb2
        rw [List.length_map] at hlm
        refine ⟨fun σ3 H3 => ∃ n', n' < m - rows.length ∧ ∃ (rows : List Int) (mix : Int), σ3 = [some (.ref a), some (.int (m : Int)), some (.ref p), some (.int mix), y4, y5] ∧ n' = m - rows.length ∧ Ex H H3 ∧ H3 p = some (.lst (rows.map V.int)) ∧ rows.length ≤ m + 63 ∧ 0 ≤ mix ∧ mix < 2147483647 ∧ ∀ x ∈ rows, -(10 ^ 18) < x ∧ x < 10 ^ 18, fun _ _ h => h, ?_⟩
        refine q_asg (by walk_at "ev") fun H9 e9 => ?_
        have m0' := Int.emod_nonneg (mix * 48271 + 11) (show (2147483647 : Int) ≠ 0 by decide)
        have m1' := Int.emod_lt_of_pos (mix * 48271 + 11) (show (0 : Int) < 2147483647 by decide)
        generalize (mix * 48271 + 11) % 2147483647 = mix' at m0' m1' ⊢
        refine s_app (ex_g e9 (ex_g e8 hr')) (by walk_at "ev") (by walk_at "ev") (by rw [List.length_map]; omega) fun H10 e10 => ?_
        have d0 := Int.emod_nonneg (mix' * mix') (show (999983 : Int) ≠ 0 by decide)
        have d1 := Int.emod_lt_of_pos (mix' * mix') (show (0 : Int) < 999983 by decide)
        refine ⟨m - (rows.length + 1), by omega, rows ++ [mix' * mix' % 999983], mix', rfl, by rw [List.length_append]; rfl, ex_up (((ex.trans e8).trans e9).trans e10) hp, by rw [upd_same, List.map_append]; rfl, ?_, m0', m1', Rows.add hb (by omega) (by omega)⟩
        rw [List.length_append]
        show rows.length + 1 ≤ _
        omega
      · refine s_ret (by walk_at "ev") fun H9 e9 => ?_
        have hlm : ¬ ((rows.map V.int).length : Int) < m := of_decide_eq_false hb2
        rw [List.length_map] at hlm
        exact q rows H9 p hp ((ex.trans e8).trans e9) (e9 p _ (e8 p _ hr')) ⟨by omega, hrl, hb⟩
end

end Su
namespace Su
/-! ### comprehensions over enumerate and zip -/
def dropAt (H : Hp) (D : Addr) : Hp := fun b => if b = D then none else H b
theorem drop_ex {H : Hp} {D : Addr} : Ex (dropAt H D) H := fun a o e => by
  unfold dropAt at e
  split at e
  · cases e
  · exact e
theorem drop_self {H : Hp} {D : Addr} : dropAt H D D = none := by unfold dropAt; rw [if_pos rfl]
theorem drop_of {H : Hp} {D T : Addr} {o : HO} (e : H T = some o) (n : T ≠ D) : dropAt H D T = some o := by unfold dropAt; rw [if_neg n]; exact e
theorem ex_drop {H H1 : Hp} {D : Addr} (e : Ex H1 H) (n : H1 D = none) : Ex H1 (dropAt H D) := fun a o h => drop_of (e a o h) fun z => by rw [z, n] at h; cases h
theorem cw_turn2 {H H' Hb : Hp} {t : TT} {te : TE} {f : Nat → Bool} {v : Nat → V} {Dl : Addr} {i : Nat} {σ2 : L2.St} (p : Cw H f v Dl i H') (hi : i < 50000) (hb : Ex Hb H') (ht : EvT t σ2 Hb (f i)) (he : f i = true → Ev te σ2 Hb (v i)) :
    t σ2 H' fun b H3 => if b = true then te σ2 H3 fun y H4 => ∃ acc, H4 Dl = some (.lst acc) ∧ acc.length < sizeLine ∧ Cw H f v Dl (i + 1) (upd H4 Dl (.lst (acc ++ [y]))) else Cw H f v Dl (i + 1) H3 := by
  obtain ⟨p1, p2, p3⟩ := p
  refine ht H' hb _ fun H3 e3 => ?_
  cases hf : f i with
  | true =>
    show te σ2 H3 fun y H4 => ∃ acc, H4 Dl = some (.lst acc) ∧ acc.length < sizeLine ∧ Cw H f v Dl (i + 1) (upd H4 Dl (.lst (acc ++ [y])))
    refine he hf H3 (hb.trans e3) _ fun H4 e4 => ⟨given i f v, e4 Dl _ (e3 Dl _ p3), sz_lt (by have := given_len i f v; omega), p1, Ex.mut ((p2.trans e3).trans e4) p1, ?_⟩
    rw [given_yes hf]
    exact upd_same
  | false =>
    show Cw H f v Dl (i + 1) H3
    refine ⟨p1, p2.trans e3, ?_⟩
    rw [given_no hf]
    exact e3 Dl _ p3
theorem cw_ex {H H1 H2 : Hp} {f : Nat → Bool} {v : Nat → V} {Dl : Addr} {i : Nat} (p : Cw H f v Dl i H1) (e : Ex H1 H2) : Cw H f v Dl i H2 := ⟨p.1, p.2.1.trans e, e Dl _ p.2.2⟩
/-- what a target does with a value: from the slots s to s2 -/
def Tgt (g : TG) (x : V) (σ σ2 : L2.St) (H : Hp) : Prop := ∀ H2, Ex H H2 → ∀ Q : L2.St → Hp → Prop, Q σ2 H2 → g x σ H2 Q
theorem tg_name {i : Nat} {x : V} {σ : L2.St} {H : Hp} : Tgt (gName i) x σ (σ.set i (some x)) H := fun _ _ _ q => q
theorem tg_two {K : PySem.W.Frag} {g1 g2 : TG} {T : Addr} {x y : V} {σ σ1 σ2 : L2.St} {H : Hp} (h : SqT K H T [x, y]) (h1 : Tgt g1 x σ σ1 H) (h2 : Tgt g2 y σ1 σ2 H) : Tgt (gTup K 2 (gCons g1 (gCons g2 gNil))) (.ref T) σ σ2 H := fun H2 e Q q =>
  ⟨T, [x, y], rfl, ex_t e h, rfl, x, [y], rfl, h1 H2 e _ ⟨y, [], rfl, h2 H2 e _ ⟨rfl, q⟩⟩⟩
theorem tg_three {K : PySem.W.Frag} {g1 g2 g3 : TG} {T : Addr} {x y z : V} {σ σ1 σ2 σ3 : L2.St} {H : Hp} (h : SqT K H T [x, y, z]) (h1 : Tgt g1 x σ σ1 H) (h2 : Tgt g2 y σ1 σ2 H) (h3 : Tgt g3 z σ2 σ3 H) : Tgt (gTup K 3 (gCons g1 (gCons g2 (gCons g3 gNil)))) (.ref T) σ σ3 H := fun H2 e Q q =>
  ⟨T, [x, y, z], rfl, ex_t e h, rfl, x, [y, z], rfl, h1 H2 e _ ⟨y, [z], rfl, h2 H2 e _ ⟨z, [], rfl, h3 H2 e _ ⟨rfl, q⟩⟩⟩⟩
section
variable {K : PySem.W.Frag} {σ : L2.St} {H : Hp} {t : TT} {te : TE} {g : TG} {vs : List Nat} {a b : Addr} {xs ys : List V} {ta : TA}
theorem et_yes {σ : L2.St} {H : Hp} : EvT tYes σ H true := fun H1 _ _ q => q H1 (Ex.refl H1)
theorem el_lcLg {tl : TE} (f : Nat → Bool) (v : Nat → V) (h : Ev tl σ H (.ref a)) (hx : SqL K H a xs) (hz : xs.length ≤ 40000)
    (hs : ∀ (i : Nat) (x : V) Hb, Ex H Hb → xs[i]? = some x → ∃ σ2, Tgt g x (wipe σ vs) σ2 Hb ∧ wipe σ2 vs = wipe σ vs ∧ EvT t σ2 Hb (f i) ∧ (f i = true → Ev te σ2 Hb (v i))) :
    EvL (tLc (iList K tl) g t te vs) σ H (given xs.length f v) := fun H0 e Q q => h H0 e _ fun H1 e1 => ⟨a, rfl, ⟨xs, ex_l (e.trans e1) hx⟩, fun Dl hD =>
  lc_list (xs := xs) (Cw H1 f v Dl) ⟨hD, Ex.new hD, upd_same⟩ (fun i H' _ p => ex_l ((e.trans e1).trans p.2.1) hx) (fun i x H' hi p => by
    obtain ⟨σ2, h1, h2, h3, h4⟩ := hs i x H1 (e.trans e1) hi
    exact h1 H' p.2.1 _ ⟨h2, cw_turn2 p (by have := (List.getElem?_eq_some_iff.mp hi).1; omega) p.2.1 h3 h4⟩)
    (fun H' p => q Dl H' (fresh_back e1 p.1) (e1.trans p.2.1) p.2.2)⟩
theorem el_lcE (f : Nat → Bool) (v : Nat → V) (h : EvA ta σ H [.ref a]) (hx : SqL K H a xs) (hz : xs.length ≤ 40000)
    (hs : ∀ (i : Nat) (x : V) T Hb, Ex H Hb → xs[i]? = some x → Hb T = some (.tup [.int (i : Nat), x]) → ∃ σ2, Tgt g (.ref T) (wipe σ vs) σ2 Hb ∧ wipe σ2 vs = wipe σ vs ∧ EvT t σ2 Hb (f i) ∧ (f i = true → Ev te σ2 Hb (v i))) :
    EvL (tLc (iEnum K ta) g t te vs) σ H (given xs.length f v) := fun H0 e Q q => h H0 e _ fun H1 e1 => ⟨a, xs, rfl, ex_l (e.trans e1) hx, fun Dl hD => by
  refine ⟨fun i m H' => m = xs.length - i ∧ i ≤ xs.length ∧ Cw H1 f v Dl i H', ⟨xs.length, by simp, Nat.zero_le _, hD, Ex.new hD, upd_same⟩, ?_⟩
  rintro i m H' ⟨rfl, hi, p⟩
  have hX := ex_l ((e.trans e1).trans p.2.1) hx
  by_cases hlt : i < xs.length
  · refine .inr ⟨⟨xs, xs[i], hX, List.getElem?_eq_getElem hlt⟩, Cw H1 f v Dl (i + 1), fun H2 p' => ⟨xs.length - (i + 1), by omega, rfl, hlt, p'⟩, fun y H2 hy => ?_⟩
    obtain ⟨T, x, rfl, nT, rfl, hxx⟩ := hy
    have gi := hxx xs hX
    have eT : Ex H' (upd H' T (.tup [.int (i : Nat), x])) := Ex.new nT
    have hTD : T ≠ Dl := fun z => by rw [z, p.2.2] at nT; cases nT
    have p2 := cw_ex p eT
    obtain ⟨σ2, h1, h2, h3, h4⟩ := hs i x T (dropAt (upd H' T (.tup [.int (i : Nat), x])) Dl) (ex_drop (((e.trans e1).trans p.2.1).trans eT) (fresh_back (e.trans e1) p.1)) gi (drop_of upd_same hTD)
    exact h1 _ drop_ex _ ⟨h2, cw_turn2 p2 (by omega) drop_ex h3 h4⟩
  · have ei : i = xs.length := by omega
    subst ei
    exact .inl ⟨⟨xs, hX, Nat.le_refl _⟩, q Dl H' (fresh_back e1 p.1) (e1.trans p.2.1) p.2.2⟩⟩
theorem el_lcZ (f : Nat → Bool) (v : Nat → V) (h : EvA ta σ H [.ref a, .ref b]) (hx : SqL K H a xs) (hy : SqL K H b ys) (hl : xs.length = ys.length) (hz : xs.length ≤ 40000)
    (hs : ∀ (i : Nat) (x y : V) T Hb, Ex H Hb → xs[i]? = some x → ys[i]? = some y → Hb T = some (.tup [x, y]) → ∃ σ2, Tgt g (.ref T) (wipe σ vs) σ2 Hb ∧ wipe σ2 vs = wipe σ vs ∧ EvT t σ2 Hb (f i) ∧ (f i = true → Ev te σ2 Hb (v i))) :
    EvL (tLc (RZ.iZipA K ta) g t te vs) σ H (given xs.length f v) := fun H0 e Q q => h H0 e _ fun H1 e1 => ⟨a, b, xs, ys, rfl, .inl ⟨ex_l (e.trans e1) hx, ex_l (e.trans e1) hy, fun Dl hD => by
  refine ⟨fun i m H' => m = xs.length - i ∧ i ≤ xs.length ∧ Cw H1 f v Dl i H', ⟨xs.length, by simp, Nat.zero_le _, hD, Ex.new hD, upd_same⟩, ?_⟩
  rintro i m H' ⟨rfl, hi, p⟩
  have hX := ex_l ((e.trans e1).trans p.2.1) hx
  have hY := ex_l ((e.trans e1).trans p.2.1) hy
  by_cases hlt : i < xs.length
  · have hlt2 : i < ys.length := by omega
    refine .inr ⟨⟨xs, ys, xs[i], ys[i], hX, hY, List.getElem?_eq_getElem hlt, List.getElem?_eq_getElem hlt2⟩, Cw H1 f v Dl (i + 1), fun H2 p' => ⟨xs.length - (i + 1), by omega, rfl, hlt, p'⟩, fun z H2 hzz => ?_⟩
    obtain ⟨T, x, y, rfl, nT, rfl, hxx, hyy⟩ := hzz
    have eT : Ex H' (upd H' T (.tup [x, y])) := Ex.new nT
    have hTD : T ≠ Dl := fun z => by rw [z, p.2.2] at nT; cases nT
    have p2 := cw_ex p eT
    obtain ⟨σ2, h1, h2, h3, h4⟩ := hs i x y T (dropAt (upd H' T (.tup [x, y])) Dl) (ex_drop (((e.trans e1).trans p.2.1).trans eT) (fresh_back (e.trans e1) p.1)) (hxx xs hX) (hyy ys hY) (drop_of upd_same hTD)
    exact h1 _ drop_ex _ ⟨h2, cw_turn2 p2 (by omega) drop_ex h3 h4⟩
  · have ei : i = xs.length := by omega
    subst ei
    exact .inl ⟨⟨xs, ys, hX, hY, .inl (Nat.le_refl _)⟩, q Dl H' (fresh_back e1 p.1) (e1.trans p.2.1) p.2.2⟩⟩⟩
theorem el_lcZT (f : Nat → Bool) (v : Nat → V) (h : EvA ta σ H [.ref a, .ref b]) (hx : SqT K H a xs) (hy : SqT K H b ys) (hl : xs.length = ys.length) (hz : xs.length ≤ 40000)
    (hs : ∀ (i : Nat) (x y : V) T Hb, Ex H Hb → xs[i]? = some x → ys[i]? = some y → Hb T = some (.tup [x, y]) → ∃ σ2, Tgt g (.ref T) (wipe σ vs) σ2 Hb ∧ wipe σ2 vs = wipe σ vs ∧ EvT t σ2 Hb (f i) ∧ (f i = true → Ev te σ2 Hb (v i))) :
    EvL (tLc (RZ.iZipA K ta) g t te vs) σ H (given xs.length f v) := fun H0 e Q q => h H0 e _ fun H1 e1 => ⟨a, b, xs, ys, rfl, .inr ⟨ex_t (e.trans e1) hx, ex_t (e.trans e1) hy, fun Dl hD => by
  refine ⟨fun i m H' => m = xs.length - i ∧ i ≤ xs.length ∧ Cw H1 f v Dl i H', ⟨xs.length, by simp, Nat.zero_le _, hD, Ex.new hD, upd_same⟩, ?_⟩
  rintro i m H' ⟨rfl, hi, p⟩
  have hX := ex_t ((e.trans e1).trans p.2.1) hx
  have hY := ex_t ((e.trans e1).trans p.2.1) hy
  by_cases hlt : i < xs.length
  · have hlt2 : i < ys.length := by omega
    refine .inr ⟨⟨xs, ys, xs[i], ys[i], hX, hY, List.getElem?_eq_getElem hlt, List.getElem?_eq_getElem hlt2⟩, Cw H1 f v Dl (i + 1), fun H2 p' => ⟨xs.length - (i + 1), by omega, rfl, hlt, p'⟩, fun z H2 hzz => ?_⟩
    obtain ⟨T, x, y, rfl, nT, rfl, hxx, hyy⟩ := hzz
    have eT : Ex H' (upd H' T (.tup [x, y])) := Ex.new nT
    have hTD : T ≠ Dl := fun z => by rw [z, p.2.2] at nT; cases nT
    have p2 := cw_ex p eT
    obtain ⟨σ2, h1, h2, h3, h4⟩ := hs i x y T (dropAt (upd H' T (.tup [x, y])) Dl) (ex_drop (((e.trans e1).trans p.2.1).trans eT) (fresh_back (e.trans e1) p.1)) (hxx xs hX) (hyy ys hY) (drop_of upd_same hTD)
    exact h1 _ drop_ex _ ⟨h2, cw_turn2 p2 (by omega) drop_ex h3 h4⟩
  · have ei : i = xs.length := by omega
    subst ei
    exact .inl ⟨⟨xs, ys, hX, hY, .inl (Nat.le_refl _)⟩, q Dl H' (fresh_back e1 p.1) (e1.trans p.2.1) p.2.2⟩⟩⟩
end

end Su
namespace Su
/-! ### data as a whole: _law_same of two alike -/
mutual
theorem dp_ex {K : PySem.W.Frag} {H H' : Hp} (e : Ex H H') : ∀ {x : V} {d : PyData}, Dp K H x d → Dp K H' x d
  | _, _, .non => .non
  | _, _, .bl b => .bl b
  | _, _, .int i => .int i
  | _, _, .str x => .str x
  | _, _, .lst h1 h2 => .lst (ex_l e h1) (dpa_ex e h2)
  | _, _, .tup h1 h2 => .tup (ex_t e h1) (dpa_ex e h2)
theorem dpa_ex {K : PySem.W.Frag} {H H' : Hp} (e : Ex H H') : ∀ {xs : List V} {ds : List PyData}, DpAll K H xs ds → DpAll K H' xs ds
  | _, _, .nil => .nil
  | _, _, .cons h1 h2 => .cons (dp_ex e h1) (dpa_ex e h2)
end
theorem dpa_len {K : PySem.W.Frag} {H : Hp} : ∀ {xs : List V} {ds : List PyData}, DpAll K H xs ds → xs.length = ds.length
  | _, _, .nil => rfl
  | _, _, .cons _ h2 => by rw [List.length_cons, List.length_cons, dpa_len h2]
theorem dpa_get {K : PySem.W.Frag} {H : Hp} : ∀ {xs : List V} {ds : List PyData} {i : Nat} {x : V}, DpAll K H xs ds → xs[i]? = some x → ∃ d, ds[i]? = some d ∧ Dp K H x d
  | _, _, _, _, .nil, e => by simp at e
  | _, _, 0, _, .cons h _, e => by simp at e; subst e; exact ⟨_, rfl, h⟩
  | _, _, i + 1, x, .cons _ h2, e => by
    obtain ⟨d, h1, h3⟩ := dpa_get (i := i) (x := x) h2 (by simpa using e)
    exact ⟨d, by simpa using h1, h3⟩
theorem dpa_of {K : PySem.W.Frag} {H : Hp} {α : Type} (f : α → V) (g : α → PyData) : ∀ l : List α, (∀ a ∈ l, Dp K H (f a) (g a)) → DpAll K H (l.map f) (l.map g)
  | [], _ => .nil
  | a :: r, h => .cons (h a List.mem_cons_self) (dpa_of f g r fun b hb => h b (List.mem_cons_of_mem _ hb))
def tyN : PyData → String
  | .none => "NoneType" | .bool _ => "bool" | .int _ => "int" | .str _ => "str" | .list _ => "list" | .tuple _ => "tuple" | .dict _ => "dict"
theorem ty_dp {K : PySem.W.Frag} {H : Hp} {x : V} {d : PyData} (h : Dp K H x d) : TyX K H x (.type (tyN d)) := by
  cases h with
  | non => exact .base .non
  | bl b => exact .base (.bl b)
  | int i => exact .base (.int i)
  | str s => exact .base (.str s)
  | lst h1 _ =>
    rcases h1 with (h1 | ⟨o, h1⟩) | ⟨o, its, n, h1, h2, _⟩
    · exact .base (.lst h1)
    · exact .base (.frz h1)
    · exact .kList h1 h2
  | tup h1 _ =>
    rcases h1 with (h1 | ⟨o, h1⟩) | ⟨o, its, n, h1, h2, _⟩
    · exact .base (.tup h1)
    · exact .fTuple h1
    · exact .kTuple h1 h2
theorem rc_isi_dp {K : PySem.W.Frag} {H : Hp} {x : V} {d : PyData} {n : String} {b : Bool} (h : Dp K H x d) (hk : kitB (tyN d) n = some b) : RC (rIsi K) [x, .ty n] H (.bl b) :=
  fun H1 e _ q => ⟨x, .ty n, .type (tyN d), .type n, b, rfl, .ty n, ty_dp (dp_ex e h), kit_ty hk, q H1 (Ex.refl H1)⟩
theorem kit_tab {t m : String} (ht : t = "NoneType" ∨ t = "bool" ∨ t = "int" ∨ t = "str" ∨ t = "list" ∨ t = "tuple") (hm : m = "bool" ∨ m = "int" ∨ m = "list" ∨ m = "tuple" ∨ m = "str") : ∃ b, kitB t m = some b := by
  rcases ht with rfl | rfl | rfl | rfl | rfl | rfl <;> rcases hm with rfl | rfl | rfl | rfl | rfl <;> first | exact ⟨true, by decide +kernel⟩ | exact ⟨false, by decide +kernel⟩
/-- data of ints, texts, None, bools, lists and tuples, n deep -/
inductive PlD : Nat → PyData → Prop
  | non {n : Nat} : PlD n .none
  | bool {n : Nat} (b : Bool) : PlD n (.bool b)
  | int {n : Nat} (i : Int) : PlD n (.int i)
  | str {n : Nat} (x : Str) : PlD n (.str x)
  | list {n : Nat} {xs : List PyData} : xs.length ≤ 1000 → (∀ x ∈ xs, PlD n x) → PlD (n + 1) (.list xs)
  | tuple {n : Nat} {xs : List PyData} : xs.length ≤ 1000 → (∀ x ∈ xs, PlD n x) → PlD (n + 1) (.tuple xs)
theorem PlD.ty {n : Nat} {d : PyData} (h : PlD n d) : tyN d = "NoneType" ∨ tyN d = "bool" ∨ tyN d = "int" ∨ tyN d = "str" ∨ tyN d = "list" ∨ tyN d = "tuple" := by
  cases h <;> simp [tyN]
theorem given_all {n : Nat} {v : V} : given n (fun _ => true) (fun _ => v) = List.replicate n v := by
  induction n with
  | zero => rfl
  | succ n ih => rw [given_yes rfl, ih, List.replicate_succ']
theorem all_rep (n : Nat) : (List.replicate n true).all id = true := by
  induction n with
  | zero => rfl
  | succ n ih => rw [List.replicate_succ, List.all_cons, ih]; rfl
section
variable {P : Program} {w : World} {K : PySem.W.Frag} {mg : Str → Option Value} {base : Heap}
theorem ev_isi {σ : L2.St} {H : Hp} {ta tb : TE} {x : V} {d : PyData} {n : String} {b : Bool} (ha : Ev ta σ H x) (hb : Ev tb σ H (.ty n)) (h : Dp K H x d) (hk : kitB (tyN d) n = some b) : Ev (tCB (rIsi K) (tCons ta (tCons tb tNil))) σ H (.bl b) := ev_cb (ea_cons ha (ea_cons hb ea_nil)) (rc_isi_dp h hk)
theorem ev_allT {σ : L2.St} {H : Hp} {te : TE} {n : Nat} (h : EvL te σ H (List.replicate n (V.bl true))) : Ev (tCB (rAll K) (tCons te tNil)) σ H (.bl true) := fun H1 e Q q =>
  h H1 e _ fun p H2 _ e2 h2 => ⟨p, List.replicate n true, rfl, sq_of (by rw [List.map_replicate]; exact h2), by rw [all_rep]; exact q H2 e2⟩
theorem rv_sc {H : Hp} {x : V} (h : scal x x = true) : RV rEq x x H (.bl true) := fun H1 e Q q => ⟨h, by rw [decide_eq_true rfl]; exact q H1 (Ex.refl H1)⟩
theorem rv_neb {H : Hp} {b : Bool} : RV rNe (.bl b) (.bl b) H (.bl false) := fun H1 e Q q => ⟨by cases b <;> rfl, by rw [decide_eq_true rfl]; exact q H1 (Ex.refl H1)⟩
end

end Su
namespace Su
section
variable {P : Program} {w : World} {K : PySem.W.Frag} {mg : Str → Option Value} {base : Heap}
def spSame (K : PySem.W.Frag) (n : Nat) : Sp := fun vs H Q _ => ∃ (x y : V) (d : PyData), vs = [x, y] ∧ PlD n d ∧ Dp K H x d ∧ Dp K H y d ∧ ∀ H', Ex H H' → Q (.bl true) H'
def spPrev (K : PySem.W.Frag) : Nat → Sp
  | 0 => fun _ _ _ _ => False
  | n + 1 => spSame K n
theorem spV_same {n : Nat} {x y : V} {d : PyData} {H : Hp} (hp : PlD n d) (h1 : Dp K H x d) (h2 : Dp K H y d) : SpV (spSame K n) [x, y] H (.bl true) := fun H1 e Q q _ => ⟨x, y, d, rfl, hp, dp_ex e h1, dp_ex e h2, q⟩
end
section
variable {P : Program} {w : World} {K : PySem.W.Frag} {mg : Str → Option Value} {base : Heap}
theorem ok__law_same (T : Top K mg) : ∀ n : Nat, FnOk P w K mg base CX0 (n + 1) T.f__law_same T.fd__law_same ["_law_told", "_law_due"] (spSame K n) := fun n => by
  have G__law_same : FnOk P w K mg base CX0 n T.f__law_same T.fd__law_same ["_law_told", "_law_due"] (spPrev K n) := by
    cases n with
    | zero => exact ⟨fun _ _ _ _ h => h.elim, fun _ _ _ _ _ _ _ _ _ _ _ _ _ h => h.elim⟩
    | succ n => exact ok__law_same T n
  have nd := sc__law_same.nd
  refine T.F__law_same.ok sc__law_same (fun vs H Q E h => ?_) (fun cdv A outer s H vs Q E hr h => ?_)
  · obtain ⟨x, y, d, rfl, _⟩ := h
    rfl
  · obtain ⟨x, y, d, rfl, hp, hx, hy, q⟩ := h
    refine ⟨_, (pss_cons (ps_if (PW.pt (pw_or (pt_cmpR op_ne (pe_callB call_isi (by rfl) T.m_isinstance (by decide +kernel) (pa_cons (pv 0) (pa_cons (pe_bltn (v := .ty "bool") (by rfl) T.m_bool (by decide +kernel) rfl) pa_nil))) (pe_callB call_isi (by rfl) T.m_isinstance (by decide +kernel) (pa_cons (pv 1) (pa_cons (pe_bltn (v := .ty "bool") (by rfl) T.m_bool (by decide +kernel) rfl) pa_nil))) (nomark _)) (pw_or1 (pt_cmpR op_ne (pe_callB call_isi (by rfl) T.m_isinstance (by decide +kernel) (pa_cons (pv 0) (pa_cons (pe_bltn (v := .ty "int") (by rfl) T.m_int (by decide +kernel) rfl) pa_nil))) (pe_callB call_isi (by rfl) T.m_isinstance (by decide +kernel) (pa_cons (pv 1) (pa_cons (pe_bltn (v := .ty "int") (by rfl) T.m_int (by decide +kernel) rfl) pa_nil))) (nomark _)))))
        (pss_one (ps_ret pe_bl))
        pss_nil)
      (pss_cons (ps_if (PW.pt (pw_or (pt_cmpR op_ne (pe_callB call_isi (by rfl) T.m_isinstance (by decide +kernel) (pa_cons (pv 0) (pa_cons (pe_bltn (v := .ty "list") (by rfl) T.m_list (by decide +kernel) rfl) pa_nil))) (pe_callB call_isi (by rfl) T.m_isinstance (by decide +kernel) (pa_cons (pv 1) (pa_cons (pe_bltn (v := .ty "list") (by rfl) T.m_list (by decide +kernel) rfl) pa_nil))) (nomark _)) (pw_or1 (pt_cmpR op_ne (pe_callB call_isi (by rfl) T.m_isinstance (by decide +kernel) (pa_cons (pv 0) (pa_cons (pe_bltn (v := .ty "tuple") (by rfl) T.m_tuple (by decide +kernel) rfl) pa_nil))) (pe_callB call_isi (by rfl) T.m_isinstance (by decide +kernel) (pa_cons (pv 1) (pa_cons (pe_bltn (v := .ty "tuple") (by rfl) T.m_tuple (by decide +kernel) rfl) pa_nil))) (nomark _)))))
        (pss_one (ps_ret pe_bl))
        pss_nil)
      (pss_cons (ps_if (PW.pt (pw_and (pt_not (pt_val (pe_callB call_isi (by rfl) T.m_isinstance (by decide +kernel) (pa_cons (pv 1) (pa_cons (pe_bltn (v := .ty "list") (by rfl) T.m_list (by decide +kernel) rfl) pa_nil))))) (pw_and1 (pt_not (pt_val (pe_callB call_isi (by rfl) T.m_isinstance (by decide +kernel) (pa_cons (pv 1) (pa_cons (pe_bltn (v := .ty "tuple") (by rfl) T.m_tuple (by decide +kernel) rfl) pa_nil))))))))
        (pss_one (ps_ret (pe_and (pe_cmpR op_eq (pe_callB call_isi (by rfl) T.m_isinstance (by decide +kernel) (pa_cons (pv 0) (pa_cons (pe_bltn (v := .ty "str") (by rfl) T.m_str (by decide +kernel) rfl) pa_nil))) (pe_callB call_isi (by rfl) T.m_isinstance (by decide +kernel) (pa_cons (pv 1) (pa_cons (pe_bltn (v := .ty "str") (by rfl) T.m_str (by decide +kernel) rfl) pa_nil))) (nomark _)) (pe_one (pe_cmpR op_eq (pv 0) (pv 1) (nomark _))))))
        pss_nil)
      (pss_one (ps_ret (pe_and (pe_cmpR op_eq (pe_callB call_len_seq (by rfl) T.m_len PySem.boot_len (pa_cons (pv 0) pa_nil)) (pe_callB call_len_seq (by rfl) T.m_len PySem.boot_len (pa_cons (pv 1) pa_nil)) (nomark _)) (pe_one (pe_callB (cr_all rfl) (by rfl) T.m_all (by decide +kernel) (pa_cons (pe_lc (own := [("_law_one", 2), ("_law_other", 3)]) (g := gTup K 2 (gCons (gName 2) (gCons (gName 3) gNil))) (tt := tYes) rfl nd (RZ.pi_zipA (by rfl) T.m_zip (pa_cons (pv 0) (pa_cons (pv 1) pa_nil))) (blkOk_by (own := [("_law_one", 2), ("_law_other", 3)]) (N := Su.N__law_same) (sc := defScope s__law_same) (by decide +kernel)) (fun _ _ _ _ _ => (pg_tup rfl (pgs_cons (pg_name (i := 2) nd rfl (.inl rfl)) (pgs_cons (pg_name (i := 3) nd rfl (.inl rfl)) pgs_nil)))) (fun _ _ _ _ _ => pts_nil) (fun _ _ _ _ _ => (pe_call G__law_same hr (by rfl) T.m__law_same T.F__law_same.kp T.b__law_same .nil pass0 (pa_cons (pv 2) (pa_cons (pv 3) pa_nil))))) pa_nil))))))))), ?_⟩
    have kb := fun (m : String) hm => kit_tab (m := m) hp.ty hm
    obtain ⟨b1, k1⟩ := kb "bool" (by simp)
    obtain ⟨b2, k2⟩ := kb "int" (by simp)
    obtain ⟨b3, k3⟩ := kb "list" (by simp)
    obtain ⟨b4, k4⟩ := kb "tuple" (by simp)
    obtain ⟨b5, k5⟩ := kb "str" (by simp)
    refine q_when (b := false) ?_ (fun h => by cases h) fun _ H1 e1 => ?_
    · exact et_or (a := false) (b := false) (et_test (ev_op (ev_isi (ev_var rfl) ev_c hx k1) (ev_isi (ev_var rfl) ev_c hy k1) rv_neb)) fun _ => et_test (ev_op (ev_isi (ev_var rfl) ev_c hx k2) (ev_isi (ev_var rfl) ev_c hy k2) rv_neb)
    have hx := dp_ex e1 hx
    have hy := dp_ex e1 hy
    refine q_when (b := false) ?_ (fun h => by cases h) fun _ H2 e2 => ?_
    · exact et_or (a := false) (b := false) (et_test (ev_op (ev_isi (ev_var rfl) ev_c hx k3) (ev_isi (ev_var rfl) ev_c hy k3) rv_neb)) fun _ => et_test (ev_op (ev_isi (ev_var rfl) ev_c hx k4) (ev_isi (ev_var rfl) ev_c hy k4) rv_neb)
    have hx := dp_ex e2 hx
    have hy := dp_ex e2 hy
    refine q_when (et_and (et_not (et_B (ev_isi (ev_var rfl) ev_c hy k3))) fun _ => et_not (et_B (ev_isi (ev_var rfl) ev_c hy k4))) (fun hb H3 e3 => ?_) (fun hb H3 e3 => ?_)
    · -- no list, no tuple
      have hx := dp_ex e3 hx
      have hy := dp_ex e3 hy
      have hsc : scal x x = true ∧ x = y := by
        cases hp with
        | non => cases hx; cases hy; exact ⟨rfl, rfl⟩
        | bool b => cases hx; cases hy; exact ⟨rfl, rfl⟩
        | int i => cases hx; cases hy; exact ⟨rfl, rfl⟩
        | str s => cases hx; cases hy; exact ⟨rfl, rfl⟩
        | list _ _ =>
          have z : b3 = true := Option.some.inj (k3.symm.trans (show kitB "list" "list" = some true by decide +kernel))
          rw [z] at hb
          exact absurd hb (by cases b4 <;> decide)
        | tuple _ _ =>
          have z : b4 = true := Option.some.inj (k4.symm.trans (show kitB "tuple" "tuple" = some true by decide +kernel))
          rw [z, Bool.not_true, Bool.and_false] at hb
          exact absurd hb (by decide)
      obtain ⟨hsc, rfl⟩ := hsc
      refine s_ret (v := .bl (true && true)) (ev_andV (ev_op (ev_isi (ev_var rfl) ev_c hx k5) (ev_isi (ev_var rfl) ev_c hy k5) (rv_sc (by cases b5 <;> rfl))) fun _ => ev_op (ev_var rfl) (ev_var rfl) (rv_sc hsc)) fun H4 e4 => q H4 (((e1.trans e2).trans e3).trans e4)
    · have hx := dp_ex e3 hx
      have hy := dp_ex e3 hy
      have ex3 := (e1.trans e2).trans e3
      cases hp with
      | non => exact absurd hb (by rw [← Option.some.inj ((show kitB "NoneType" "list" = some false by decide +kernel).symm.trans k3), ← Option.some.inj ((show kitB "NoneType" "tuple" = some false by decide +kernel).symm.trans k4)]; decide)
      | bool b => exact absurd hb (by rw [← Option.some.inj ((show kitB "bool" "list" = some false by decide +kernel).symm.trans k3), ← Option.some.inj ((show kitB "bool" "tuple" = some false by decide +kernel).symm.trans k4)]; decide)
      | int i => exact absurd hb (by rw [← Option.some.inj ((show kitB "int" "list" = some false by decide +kernel).symm.trans k3), ← Option.some.inj ((show kitB "int" "tuple" = some false by decide +kernel).symm.trans k4)]; decide)
      | str z => exact absurd hb (by rw [← Option.some.inj ((show kitB "str" "list" = some false by decide +kernel).symm.trans k3), ← Option.some.inj ((show kitB "str" "tuple" = some false by decide +kernel).symm.trans k4)]; decide)
      | @list n ds hn hds =>
        cases hx with
        | @lst a xs _ hX aX => cases hy with
          | @lst b ys _ hY aY =>
            have lx := dpa_len aX
            have ly := dpa_len aY
            refine s_ret (v := .bl (true && true)) (ev_andV (ev_op (ev_cb (ea_cons (ev_var rfl) ea_nil) (rc_len (.inl hX))) (ev_cb (ea_cons (ev_var rfl) ea_nil) (rc_len (.inl hY))) ?_) fun _ => ev_allT (n := xs.length) ?_) fun H4 e4 => q H4 (ex3.trans e4)
            · rw [lx, ly]
              exact rv_sc rfl
            · rw [← given_all]
              refine el_lcZ _ _ (ea_cons (ev_var rfl) (ea_cons (ev_var rfl) ea_nil)) hX hY (by omega) (by omega) fun i x y Tt Hb eb gx gy hT => ?_
              obtain ⟨d1, g1, p1⟩ := dpa_get aX gx
              obtain ⟨d2, g2, p2⟩ := dpa_get aY gy
              obtain rfl : d1 = d2 := Option.some.inj (g1.symm.trans g2)
              refine ⟨_, tg_two (.inl (.inl hT)) tg_name tg_name, rfl, et_yes, fun _ => ?_⟩
              refine ev_call (ea_cons (ev_var rfl) (ea_cons (ev_var rfl) ea_nil)) ?_
              exact spV_same (hds d1 (List.mem_of_getElem? g1)) (dp_ex eb p1) (dp_ex eb p2)
      | @tuple n ds hn hds =>
        cases hx with
        | @tup a xs _ hX aX => cases hy with
          | @tup b ys _ hY aY =>
            have lx := dpa_len aX
            have ly := dpa_len aY
            refine s_ret (v := .bl (true && true)) (ev_andV (ev_op (ev_cb (ea_cons (ev_var rfl) ea_nil) (rc_len (.inr hX))) (ev_cb (ea_cons (ev_var rfl) ea_nil) (rc_len (.inr hY))) ?_) fun _ => ev_allT (n := xs.length) ?_) fun H4 e4 => q H4 (ex3.trans e4)
            · rw [lx, ly]
              exact rv_sc rfl
            · rw [← given_all]
              refine el_lcZT _ _ (ea_cons (ev_var rfl) (ea_cons (ev_var rfl) ea_nil)) hX hY (by omega) (by omega) fun i x y Tt Hb eb gx gy hT => ?_
              obtain ⟨d1, g1, p1⟩ := dpa_get aX gx
              obtain ⟨d2, g2, p2⟩ := dpa_get aY gy
              obtain rfl : d1 = d2 := Option.some.inj (g1.symm.trans g2)
              refine ⟨_, tg_two (.inl (.inl hT)) tg_name tg_name, rfl, et_yes, fun _ => ?_⟩
              refine ev_call (ea_cons (ev_var rfl) (ea_cons (ev_var rfl) ea_nil)) ?_
              exact spV_same (hds d1 (List.mem_of_getElem? g1)) (dp_ex eb p1) (dp_ex eb p2)
end

end Su
namespace Su
/-! ### own exceptions: X(), except .. as e, isinstance(e, ..) -/
section
variable {X : Cx} {C : Addr} {bmB : List Value} {B newId initId : String}
theorem pmk_own0 {x : Str} {p pos : Pos} (F : ExcBaseFacts B newId initId bmB) (q : PySem.W.excIn X.K C bmB newId = true) (gC : X.mg x = some (.ref C)) (kC : PySem.W.keepIn X.K (.ref C) = true) (r : Raises X (.ref C)) (hg : Gl X x)
    (hdb : (x == ("__debug__" : Str)) = false := by decide) : PMk X (.Call (.Name x p) [] [] pos) (fun _ H Q => Q (.ref C) none H) := by
  intro pins s σ H Q I h
  refine wpAny_Call_Name_kw (ld_glob I hg gC ?_ hdb)
  refine PySem.W.callWith_K0 I.kIn kC ?_
  obtain ⟨bm, N, nm, qn, bs, hdct, sn, sub, ab, col, dd, k0, k1, k2, k3, k5, mN, hC, hN, hni, T⟩ := exc_obj I.kIn q
  refine wpAny_call_exc_subT F T hC hN hni (fun h' e hm => ?_) (Nat.zero_le _)
  exact mk_of I hm r h (I.hok.gone hm.new)
theorem pss_ex {ι : Type} {Pi : ι → Prop} {st : List Stmt} {t : ι → TS} (h : ∀ i, Pi i → PSs X st (t i)) : PSs X st (fun D σ H => ∃ i, Pi i ∧ t i D σ H) := ⟨fun pins s σ H D I ⟨i, hp, ht⟩ => (h i hp).run pins s σ H D I ht⟩
end
theorem rc_isE {K : PySem.W.Frag} {D a C : Addr} {H : Hp} {b : Bool} (h : PySem.W.kitOne K (.ref D) (.ref C) = some b) : RC (rIsE K D a) [.ref a, .ref C] H (.bl b) := fun H1 _ _ q => ⟨.ref C, .ref C, b, rfl, fun _ r => r, h, q H1 (Ex.refl H1)⟩
theorem rc_isEt {K : PySem.W.Frag} {D a : Addr} {n : String} {H : Hp} {b : Bool} (h : PySem.W.kitOne K (.ref D) (.type n) = some b) : RC (rIsE K D a) [.ref a, .ty n] H (.bl b) := fun H1 _ _ q => ⟨.ty n, .type n, b, rfl, fun _ r => r, h, q H1 (Ex.refl H1)⟩
def boolD (bs : List Bool) : PyData := .list (bs.map .bool)
theorem dp_bools {K : PySem.W.Frag} {H : Hp} {l : Addr} {bs : List Bool} (hl : SqL K H l (bs.map V.bl)) : Dp K H (.ref l) (boolD bs) := .lst hl (dpa_of V.bl PyData.bool bs fun i _ => .bl i)
theorem rv_eqDD {K : PySem.W.Frag} {H : Hp} {x y : V} {d e : PyData} {b : Bool} (h1 : Dp K H x d) (h2 : Dp K H y e) (hs : SeqAt.shaped d = true) (hs2 : SeqAt.shaped e = true) (hb : PyData.eqv d e = b) : RV (rEqD K) x y H (.bl b) := fun H1 ex Q q =>
  ⟨d, e, dp_ex ex h1, dp_ex ex h2, hs, hs2, by rw [hb]; exact q H1 (Ex.refl H1)⟩
theorem rv_neDD {K : PySem.W.Frag} {H : Hp} {x y : V} {d e : PyData} {b : Bool} (h1 : Dp K H x d) (h2 : Dp K H y e) (hs : SeqAt.shaped d = true) (hs2 : SeqAt.shaped e = true) (hb : PyData.eqv d e = !b) : RV (rNeD K) x y H (.bl b) := fun H1 ex Q q =>
  ⟨d, e, dp_ex ex h1, dp_ex ex h2, hs, hs2, by rw [hb, Bool.not_not]; exact q H1 (Ex.refl H1)⟩

end Su
namespace Su
/-! ### for i, x in enumerate(xs) -/
theorem s_forE {K : PySem.W.Frag} {a : Addr} {xs : List V} {g : TG} {tb : TS} {D : Ends} {σ : L2.St} {H : Hp} {ta : TA} (h : EvA ta σ H [.ref a]) (hx : SqL K H a xs) (Pv : Nat → L2.St → Hp → Prop) (h0 : ∀ H1, Ex H H1 → Pv 0 σ H1) (hl : ∀ i σ' H', i ≤ xs.length → Pv i σ' H' → SqL K H' a xs)
    (hs : ∀ i x T σ' Hc, xs[i]? = some x → Pv i σ' Hc → Hc T = none → ∃ σ2, Tgt g (.ref T) σ' σ2 (upd Hc T (.tup [.int (i : Nat), x])) ∧ tb { D with nx := Pv (i + 1), ct := Pv (i + 1), bk := D.nx } σ2 (upd Hc T (.tup [.int (i : Nat), x])))
    (hd : ∀ σ' H', Pv xs.length σ' H' → D.nx σ' H') : tFor (iEnum K ta) g tb D σ H :=
  h H (Ex.refl H) _ fun H1 e1 => ⟨a, xs, rfl, ex_l e1 hx, by
    refine ⟨fun i m σ' H' => m = xs.length - i ∧ i ≤ xs.length ∧ Pv i σ' H', ⟨xs.length, by simp, Nat.zero_le _, h0 H1 e1⟩, ?_⟩
    rintro i m σ' H' ⟨rfl, hi, p⟩
    have hX := hl i σ' H' hi p
    by_cases hlt : i < xs.length
    · refine .inr ⟨⟨xs, xs[i], hX, List.getElem?_eq_getElem hlt⟩, Pv (i + 1), fun σ2 H2 p' => ⟨xs.length - (i + 1), by omega, rfl, hlt, p'⟩, fun y H2 hy => ?_⟩
      obtain ⟨T, x, rfl, nT, rfl, hxx⟩ := hy
      obtain ⟨σ2, h1, h2⟩ := hs i x T σ' H' (hxx xs hX) p nT
      exact h1 _ (Ex.refl _) _ h2
    · have ei : i = xs.length := by omega
      subst ei
      exact .inl ⟨⟨xs, hX, Nat.le_refl _⟩, hd σ' H' p⟩⟩

end Su
namespace Su
/-! ### o[i] += e of a list; [e] * n -/
section
variable {X : Cx}
def rGetL (K : PySem.W.Frag) : V → V → Hp → VK → Prop := fun x y H Q => ∃ p xs i v, x = .ref p ∧ y = .int i ∧ 0 ≤ i ∧ SqL K H p xs ∧ atI xs i = some v ∧ Q v H
theorem get_list : PGet X (rGetL X.K) := by
  intro pins s σ H x y v u Q I rx ry h
  obtain ⟨p, xs, i, z, rfl, rfl, h0, hq, he, q⟩ := h
  cases rx
  obtain ⟨t, rfl⟩ := ry
  obtain ⟨its, r, pl, hz⟩ := I.list hq
  obtain ⟨j, h1, h2, h3, h4, h5⟩ := atI_get he
  obtain ⟨w, ew, rw'⟩ := r.get h2
  have hl := r.length
  have hn := line63
  have hj : i.toNat = j := by
    rw [seqIndex_of h0 h5] at h1
    exact Option.some.inj h1
  exact wpAny_getItem_list pl.isList h0 (by omega) (by rw [hj]; simpa using ew) ⟨z, H, I, rw', q⟩
end
theorem q_augL {to ti te : TE} {K : PySem.W.Frag} {σ : L2.St} {H : Hp} {D : Ends} {tz : TS} {l : Addr} {xs : List V} {z a b : Int} {j : Nat} {f : Int → Int → Int} (hl : H l = some (.lst xs)) (ho : Ev to σ H (.ref l)) (hi : Ev ti σ H (.int z)) (hz : z = (j : Int)) (hx : xs[j]? = some (.int a)) (h : Ev te σ H (.int b))
    (k : ∀ H1, Ex H H1 → tz D σ (upd H1 l (.lst (xs.set j (.int (f a b)))))) : tSeq (tAugS to ti te (rGetL K) (ipI f) rSetL) tz D σ H := by
  have hj : j < xs.length := (List.getElem?_eq_some_iff.mp hx).1
  refine ho H (Ex.refl H) _ fun H1 e1 => hi H1 e1 _ fun H2 e2 => ?_
  refine ⟨l, xs, z, .int a, rfl, rfl, by omega, sq_of (e2 l _ (e1 l _ hl)), at_of hz hx, h H2 (e1.trans e2) _ fun H3 e3 => ?_⟩
  refine ⟨a, b, rfl, rfl, l, xs, z, j, rfl, rfl, e3 l _ (e2 l _ (e1 l _ hl)), ?_, k H3 ((e1.trans e2).trans e3)⟩
  rw [hz]
  exact ixN_nat hj
theorem st_lastAugL {to ti te : TE} {K : PySem.W.Frag} {σ : L2.St} {H : Hp} {D : Ends} {l : Addr} {xs : List V} {z a b : Int} {j : Nat} {f : Int → Int → Int} (hl : H l = some (.lst xs)) (ho : Ev to σ H (.ref l)) (hi : Ev ti σ H (.int z)) (hz : z = (j : Int)) (hx : xs[j]? = some (.int a)) (h : Ev te σ H (.int b))
    (k : ∀ H1, Ex H H1 → D.nx σ (upd H1 l (.lst (xs.set j (.int (f a b)))))) : tAugS to ti te (rGetL K) (ipI f) rSetL D σ H := q_augL (D := D) (tz := fun D' σ' H' => D'.nx σ' H') hl ho hi hz hx h k
theorem flat1 {v : V} : ∀ n : Nat, (List.replicate n [v]).flatten = List.replicate n v
  | 0 => rfl
  | n + 1 => by rw [List.replicate_succ, List.replicate_succ, List.flatten_cons, flat1 n]; rfl
theorem el_rep1 {ta tb : TE} {σ : L2.St} {H : Hp} {v : V} {k : Int} (ha : EvL ta σ H [v]) (hb : Ev tb σ H (.int k)) (h0 : 0 ≤ k) (h1 : k ≤ 100000) : EvL (tOp rRep ta tb) σ H (List.replicate k.toNat v) := fun H1 e Q q =>
  ha H1 e _ fun p H2 hp e2 h2 => hb H2 (e.trans e2) _ fun H3 e3 => ⟨p, k, [v], rfl, rfl, e3 p _ h2, by omega, by omega, sz_of (by show 1 * k.toNat ≤ _; omega), fun r hr => by
    rw [flat1]
    exact q r _ (fresh_back (e2.trans e3) hr) ((e2.trans e3).trans (Ex.new hr)) upd_same⟩

end Su
namespace Su
theorem lay_of_shaped {d : PyData} (h : SeqAt.shaped d = true) : d.canLay0 = true := (Bool.and_eq_true_iff.mp h).1
/-- two lists of windows that are alike -/
theorem rv_neD {K : PySem.W.Frag} {H : Hp} {x y : V} {d : PyData} (h1 : Dp K H x d) (h2 : Dp K H y d) (hs : SeqAt.shaped d = true) : RV (rNeD K) x y H (.bl false) := fun H1 e Q q =>
  ⟨d, d, dp_ex e h1, dp_ex e h2, hs, hs, by rw [SeqAt.eqv_refl d (lay_of_shaped hs)]; exact q H1 (Ex.refl H1)⟩
theorem rv_eqD {K : PySem.W.Frag} {H : Hp} {x y : V} {d : PyData} (h1 : Dp K H x d) (h2 : Dp K H y d) (hs : SeqAt.shaped d = true) : RV (rEqD K) x y H (.bl true) := fun H1 e Q q =>
  ⟨d, d, dp_ex e h1, dp_ex e h2, hs, hs, by rw [SeqAt.eqv_refl d (lay_of_shaped hs)]; exact q H1 (Ex.refl H1)⟩
def intD (ns : List Int) : PyData := .list (ns.map .int)
theorem dp_ints {K : PySem.W.Frag} {H : Hp} {l : Addr} {ns : List Int} (hl : SqL K H l (ns.map V.int)) : Dp K H (.ref l) (intD ns) := .lst hl (dpa_of V.int PyData.int ns fun i _ => .int i)
theorem pl_ints {ns : List Int} (h : ns.length ≤ 1000) : PlD 1 (intD ns) := .list (by rw [List.length_map]; exact h) fun x hx => by
  obtain ⟨i, _, rfl⟩ := List.mem_map.mp hx
  exact .int i
theorem shaped_ints (ns : List Int) : SeqAt.shaped (intD ns) = true := by
  have h1 : ∀ l : List Int, PyData.canLayAll0 (l.map .int) = true := by
    intro l
    induction l with
    | nil => simp [PyData.canLayAll0]
    | cons a r ih => simp [PyData.canLayAll0, PyData.canLay0, ih]
  have h2 : ∀ l : List Int, PyData.depthAll (l.map .int) = 0 := by
    intro l
    induction l with
    | nil => simp [PyData.depthAll]
    | cons a r ih => simp [PyData.depthAll, PyData.depth, ih]
  unfold SeqAt.shaped intD
  rw [Bool.and_eq_true]
  refine ⟨?_, ?_⟩
  · simp only [PyData.canLay0]
    exact h1 ns
  · simp only [PyData.depth]
    have := h2 ns
    exact decide_eq_true (by omega)

end Su
namespace Su
/-! ### windows: a list of pairs -/
abbrev Win := Addr × Int × Int
def refs (qs : List Win) : List V := qs.map fun q => V.ref q.1
def TW (H : Hp) (qs : List Win) : Prop := ∀ q ∈ qs, H q.1 = some (.tup [.int q.2.1, .int q.2.2])
theorem TW.ex {H H' : Hp} {qs : List Win} (h : TW H qs) (e : Ex H H') : TW H' qs := fun q hq => e _ _ (h q hq)
theorem TW.upd {H : Hp} {qs : List Win} {p : Addr} {xs ys : List V} (h : TW H qs) (hp : H p = some (.lst xs)) : TW (upd H p (.lst ys)) qs := fun q hq => by
  rw [upd_ne (ne_of (h q hq) hp (fun z => nomatch z))]
  exact h q hq
theorem TW.nil {H : Hp} : TW H [] := fun q hq => absurd hq List.not_mem_nil
theorem TW.add {H : Hp} {qs : List Win} {q : Win} (h : TW H qs) (hq : H q.1 = some (.tup [.int q.2.1, .int q.2.2])) : TW H (qs ++ [q]) := fun r hr => by
  rcases List.mem_append.mp hr with h' | h'
  · exact h r h'
  · obtain rfl := List.mem_singleton.mp h'
    exact hq
theorem refs_at {qs : List Win} {i : Nat} {x : V} (h : (refs qs)[i]? = some x) : ∃ q, qs[i]? = some q ∧ x = .ref q.1 := by
  unfold refs at h
  rw [List.getElem?_map] at h
  cases hc : qs[i]? with
  | none => rw [hc] at h; cases h
  | some c => rw [hc] at h; exact ⟨c, rfl, (Option.some.inj h).symm⟩
theorem refs_len {qs : List Win} : (refs qs).length = qs.length := List.length_map _
/-- windows[i][0], windows[i][1] -/
theorem ev_win {K : PySem.W.Frag} {ta tb : TE} {σ : L2.St} {H : Hp} {l : Addr} {qs : List Win} {i : Nat} {q : Win} (ha : Ev ta σ H (.ref l)) (hb : Ev tb σ H (.int (i : Nat))) (hl : SqL K H l (refs qs)) (hq : qs[i]? = some q) : Ev (tOp (rIxL K) ta tb) σ H (.ref q.1) :=
  ev_op ha hb (rv_ixL hl (atI_nat (by unfold refs; rw [List.getElem?_map, hq]; rfl)))
theorem ev_w0 {K : PySem.W.Frag} {ta : TE} {σ : L2.St} {H : Hp} {q : Win} (ha : Ev ta σ H (.ref q.1)) (hq : H q.1 = some (.tup [.int q.2.1, .int q.2.2])) : Ev (tOp (rIxT K) ta (tC (.int 0))) σ H (.int q.2.1) := ev_op ha ev_c (rv_ixT (st_of hq) rfl)
theorem ev_w1 {K : PySem.W.Frag} {ta : TE} {σ : L2.St} {H : Hp} {q : Win} (ha : Ev ta σ H (.ref q.1)) (hq : H q.1 = some (.tup [.int q.2.1, .int q.2.2])) : Ev (tOp (rIxT K) ta (tC (.int 1))) σ H (.int q.2.2) := ev_op ha ev_c (rv_ixT (st_of hq) rfl)
def winD (qs : List Win) : PyData := .list (qs.map fun q => .tuple [.int q.2.1, .int q.2.2])
theorem dp_win {K : PySem.W.Frag} {H : Hp} {l : Addr} {qs : List Win} (hl : SqL K H l (refs qs)) (ht : TW H qs) : Dp K H (.ref l) (winD qs) :=
  .lst hl (dpa_of (fun q : Win => V.ref q.1) (fun q => .tuple [.int q.2.1, .int q.2.2]) qs fun q hq => .tup (st_of (ht q hq)) (.cons (.int _) (.cons (.int _) .nil)))
theorem shaped_win (qs : List Win) : SeqAt.shaped (winD qs) = true := by
  have h1 : ∀ l : List Win, PyData.canLayAll0 (l.map fun q => .tuple [.int q.2.1, .int q.2.2]) = true := by
    intro l
    induction l with
    | nil => simp [PyData.canLayAll0]
    | cons a r ih => simp [PyData.canLayAll0, PyData.canLay0, ih]
  have h2 : ∀ l : List Win, PyData.depthAll (l.map fun q => .tuple [.int q.2.1, .int q.2.2]) ≤ 1 := by
    intro l
    induction l with
    | nil => simp [PyData.depthAll]
    | cons a r ih =>
      simp only [List.map_cons, PyData.depthAll, PyData.depth]
      omega
  unfold SeqAt.shaped winD
  rw [Bool.and_eq_true]
  refine ⟨?_, ?_⟩
  · simp only [PyData.canLay0]
    exact h1 qs
  · simp only [PyData.depth]
    have := h2 qs
    exact decide_eq_true (by omega)

end Su
namespace Su
def insB (ws : List (Int × Int)) (a b : Int) (i : Nat) : Bool := match ws[i]? with
  | some w => decide (a ≤ w.1) && decide (w.2 ≤ b)
  | none => false
def inside (ws : List (Int × Int)) (a b : Int) : List Int := ((List.range ws.length).filter (insB ws a b)).map fun i : Nat => (i : Int)
theorem inside_given (ws : List (Int × Int)) (a b : Int) : (inside ws a b).map V.int = given ws.length (insB ws a b) fun i => .int (i : Nat) := by
  unfold inside given
  rw [List.map_map]
  rfl
theorem inside_len (ws : List (Int × Int)) (a b : Int) : (inside ws a b).length ≤ ws.length := by
  unfold inside
  rw [List.length_map]
  have h := List.length_filter_le (insB ws a b) (List.range ws.length)
  rw [List.length_range] at h
  exact h
def wsOf (qs : List Win) : List (Int × Int) := qs.map (·.2)
theorem ws_at {qs : List Win} {i : Nat} {q : Win} (h : qs[i]? = some q) : (wsOf qs)[i]? = some q.2 := by unfold wsOf; rw [List.getElem?_map, h]; rfl
theorem ws_len {qs : List Win} : (wsOf qs).length = qs.length := List.length_map _

end Su
namespace Su
section
variable {P : Program} {w : World} {K : PySem.W.Frag} {mg : Str → Option Value} {base : Heap}
def spWithin (K : PySem.W.Frag) : Sp := fun vs H Q _ => ∃ (l : Addr) (qs : List Win) (a b : Int), vs = [.ref l, .int a, .int b] ∧ SqL K H l (refs qs) ∧ TW H qs ∧ qs.length ≤ 1000 ∧
  ∀ H' p, H p = none → Ex H H' → H' p = some (.lst ((inside (wsOf qs) a b).map V.int)) → Q (.ref p) H'
theorem spL_within {l : Addr} {qs : List Win} {a b : Int} {H : Hp} (hl : SqL K H l (refs qs)) (ht : TW H qs) (hn : qs.length ≤ 1000) : SpL (spWithin K) [.ref l, .int a, .int b] H ((inside (wsOf qs) a b).map V.int) :=
  fun H1 e Q q _ => ⟨l, qs, a, b, rfl, ex_l e hl, ht.ex e, hn, fun H' p hp e' h' => q p H' hp e' h'⟩
theorem ok_within {f : Addr} {fd : FuncData} {k : Nat} (F : Fun K "within" "within" s_within f fd) (T : Top K mg) : FnOk P w K mg base CX0 (k + 1) f fd ["windows", "a", "b"] (spWithin K) := by
  have nd := sc_within.nd
  refine F.ok sc_within (fun vs H Q E h => ?_) (fun cdv A outer s H vs Q E hr h => ?_)
  · obtain ⟨l, qs, a, b, rfl, _⟩ := h
    rfl
  · obtain ⟨l, qs, a, b, rfl, hl, ht, hn, q⟩ := h
    refine ⟨_, (pss_one (ps_ret (pe_lc (own := [("at", 3), ("first", 4), ("last", 5)]) (g := gTup K 2 (gCons (gName 3) (gCons (gTup K 2 (gCons (gName 4) (gCons (gName 5) gNil))) gNil))) (tt := _) rfl nd (pi_enum (by rfl) T.m_enumerate (pa_cons (pv 0) pa_nil)) (blkOk_by (own := [("at", 3), ("first", 4), ("last", 5)]) (N := Su.N_within) (sc := defScope s_within) (by decide +kernel)) (fun _ _ _ _ _ => (pg_tup rfl (pgs_cons (pg_name (i := 3) nd rfl (.inl rfl)) (pgs_cons (pg_tup rfl (pgs_cons (pg_name (i := 4) nd rfl (.inl rfl)) (pgs_cons (pg_name (i := 5) nd rfl (.inl rfl)) pgs_nil))) pgs_nil)))) (fun _ _ _ _ _ => (pts_one (PW.pt (pw_and (pt_cmpR op_ge (pv 4) (pv 1) (nomark _)) (pw_and1 (pt_cmpR op_le (pv 5) (pv 2) (nomark _))))))) (fun _ _ _ _ _ => (pv 3))))), ?_⟩
    refine s_retL (xs := (inside (wsOf qs) a b).map V.int) ?_ fun p H1 hp e1 h1 => q H1 p hp e1 h1
    rw [inside_given, ws_len, ← refs_len]
    refine el_lcE _ _ (by walk_at "ea") hl (by rw [refs_len]; omega) fun i x Tt Hb eb gx hT => ?_
    obtain ⟨q, gq, rfl⟩ := refs_at gx
    have hq := ht.ex eb q (List.mem_of_getElem? gq)
    refine ⟨_, tg_two (st_of hT) tg_name (tg_two (st_of hq) tg_name tg_name), rfl, ?_, fun _ => by walk_at "ev"⟩
    refine et_is (by walk_at "et") ?_
    unfold insB
    rw [ws_at gq]
end

end Su
namespace Su
def roundsB (a b : Int) : Int := if b - a + 1 > 0 then b - a + 1 else 0
section
variable {P : Program} {w : World} {K : PySem.W.Frag} {mg : Str → Option Value} {base : Heap}
def spRounds : Sp := fun vs H Q _ => ∃ a b : Int, vs = [.int a, .int b] ∧ ∀ H', Ex H H' → Q (.int (roundsB a b)) H'
theorem spV_rounds {a b : Int} {H : Hp} : SpV spRounds [.int a, .int b] H (.int (roundsB a b)) := fun H1 _ Q q _ => ⟨a, b, rfl, q⟩
theorem ok_rounds_between {f : Addr} {fd : FuncData} {k : Nat} (F : Fun K "rounds_between" "rounds_between" s_rounds_between f fd) (T : Top K mg) : FnOk P w K mg base CX0 (k + 1) f fd ["a", "b"] spRounds := by
  have nd := sc_rounds_between.nd
  refine F.ok sc_rounds_between (fun vs H Q E h => ?_) (fun cdv A outer s H vs Q E hr h => ?_)
  · obtain ⟨a, b, rfl, _⟩ := h
    rfl
  · obtain ⟨a, b, rfl, q⟩ := h
    refine ⟨_, (pss_one (ps_ret (pe_callB (call_max2 rfl) (by rfl) T.m_max (by decide +kernel) (pa_cons pe_int (pa_cons (pe_op op_add (pe_op op_sub (pv 1) (pv 0)) pe_int) pa_nil))))), ?_⟩
    refine s_ret (by walk_at "ev") fun H1 e1 => ?_
    exact q H1 e1
end

end Su
namespace Su
/-! ### enumerate(list, start=k) -/
section
variable {M : Model} {A : Around} {E : Value → Shared → Prop} {s : Shared} {env : Env}
theorem callWith_type_kw {pos : Pos} {T : String} {e : Expr} {rest : List Expr} {kws : List Keyword} {Q : Value → Shared → Prop}
    (h : wpAny M A (spliced (backTo pos (starEach (e :: rest) env))) (fun vs s₁ => wpAny M A (evalAll ((backToKw pos (keywordEach kws env)).map (·.2)))
      (fun kvs s₂ => wpAny M A (call (.type T) vs (((backToKw pos (keywordEach kws env)).filterMap (·.1)).zip kvs)) Q E s₂) E s₁) E s)
    (he : backTo pos (starEach (e :: rest) env) = (false, eval e env) :: backTo pos (starEach rest env) := by rfl)
    (hplain : (backTo pos (starEach (e :: rest) env)).any (·.1) = false := by rfl)
    (hall : (backToKw pos (keywordEach kws env)).all (·.1.isSome) = true := by rfl)
    (hkw : (backToKw pos (keywordEach kws env)).any (·.1.isNone) = false := by rfl) :
    wpAny M A (callWith pos (.type T) [] (backTo pos (starEach (e :: rest) env)) (backToKw pos (keywordEach kws env))) Q E s := by
  have h2 : wpAny M A (evalArgs (.type T) true (backTo pos (starEach (e :: rest) env)) (backToKw pos (keywordEach kws env))) (fun a s₁ => wpAny M A (call (.type T) ([] ++ a.pos) a.kw) Q E s₁) E s := by
    rw [he] at h ⊢
    exact evalArgs_kwB hall h
  unfold callWith
  refine wpAny_bind (wpAny_holding (wpAny_mono h2 (fun a s₁ h₁ => wpAny_bind (wpAny_standAt ?_)) fun _ _ x => x))
  simp only [hplain, hkw, Bool.or_false]
  refine wpAny_bind (wpAny_pure ?_)
  exact wpAny_bind (wpAny_mono h₁ (fun r s₂ hr => wpAny_bind (wpAny_holding (wpAny_point (wpAny_pure hr)))) fun _ _ x => x)
end
/-- the list at a as it stands at each turn, each item in a new pair with its place counted from k -/
def IteK (K : PySem.W.Frag) (k : Int) (a : Addr) : It :=
  ⟨fun i H => ∃ (xs : List V) (x : V), SqL K H a xs ∧ xs[i]? = some x, fun i H v H' => ∃ T x, v = .ref T ∧ H T = none ∧ H' = upd H T (.tup [.int (k + (i : Nat)), x]) ∧ ∀ xs, SqL K H a xs → xs[i]? = some x, fun i H => ∃ xs : List V, SqL K H a xs ∧ xs.length = i⟩
theorem turn_enumK {P : Program} {w : World} {K : PySem.W.Frag} {elts : List Expr} {kk : Nat} {tpos : Pos} (k : Int) (a e it : Addr) (hai : a ≠ it) (hea : e ≠ a) :
    Turn P w K (.Tuple elts kk tpos) (IteK K k a) [e, it] e (fun i h => (∃ old, IsEnum h e it (k + ((i : Nat) : Int)) old) ∧ h.IsListIter it a i ∧ e ≠ it) where
  mem := by simp
  obj := fun i h st b hb => by
    obtain ⟨⟨old, he⟩, ⟨o, ho, hc, hd⟩, _⟩ := st
    rcases List.mem_cons.mp hb with z | z
    · rw [z]; exact ⟨_, he, fun v q => nomatch q⟩
    · rw [List.mem_singleton.mp z]; exact ⟨o, ho, fun v q => by rw [hd] at q; cases q⟩
  keep := fun i h h' st c => let ⟨⟨old, he⟩, hi, hne⟩ := st; ⟨⟨old, c e (by simp) _ he⟩, hi.at fun o q => c it (by simp) o q, hne⟩
  item := by
    intro X hP hw hK hc i pins s σ H E I hf st hg
    subst hP hw hK
    obtain ⟨⟨old, he⟩, hit, hne⟩ := st
    obtain ⟨xs, x, hq, hx⟩ := hg
    obtain ⟨its, rv, p, hz⟩ := I.list hq
    obtain ⟨u, hu, ru⟩ := rv.get hx
    have hel : e < s.heap.objs.size := Heap.lt_size he
    have hil : it < s.heap.objs.size := by obtain ⟨_, q, _⟩ := hit; exact Heap.lt_size q
    have hlt : i < its.toArray.size := by
      have := (List.getElem?_eq_some_iff.mp hu).1
      simpa using this
    refine wpAny_pyNext_enum_itemC (Draws.list (A := X.A.in1) (show X.A.in1.handled = none from I.ok.hd hc) it a hai its.toArray) he ⟨hit, p.isList⟩ hlt hne (by
      intro z
      rcases List.mem_cons.mp z with z | z
      · exact hne z
      · exact hea (List.mem_singleton.mp z)) fun y h' tk hy ho hst hT hsz hk => ?_
    have hy : its.toArray[i]? = some y := hy
    obtain rfl : u = y := by
      have h2 : its[i]? = some y := by simpa using hy
      exact Option.some.inj (hu.symm.trans h2)
    refine ⟨_, rfl, wpAny_letOwnedTupleGo_enum (s := { s with heap := h', toks := tk + 1 }) ho fun h'' he' sb => ?_⟩
    have hT2 : h''.get? s.heap.objs.size = some { cls := .type "tuple", data := .seq #[.int (k + ((i : Nat) : Int)) tk, u] } := (sb.2 _ (Nat.ne_of_gt hel)).trans hT
    have new : ObjOk X.prog X.w (upd H s.heap.objs.size (.tup [.int (k + (i : Nat)), x])) h'' s.heap.objs.size (.tup [.int (k + (i : Nat)), x]) :=
      ⟨by show 2 ≤ sizeLine; decide, [.int (k + ((i : Nat) : Int)) tk, u], .cons ⟨_, rfl⟩ (.cons ru .nil), ⟨_, hT2, rfl, _, rfl⟩⟩
    have I1 : Inv X pins σ (upd H s.heap.objs.size (.tup [.int (k + (i : Nat)), x])) { s with heap := h'', toks := tk + 1 } :=
      I.turnedNew (ch := [e, it]) (fun b ob hb q => (sb.2 b (fun z => hb (by simp [z]))).trans (hk b ob (fun z => hb (by simp [z])) (fun z => hb (by simp [z])) q)) hf (Nat.le_refl _) new
    refine ⟨.ref s.heap.objs.size, _, I1, rfl, ⟨_, x, rfl, I.hok.fresh (Nat.le_refl _), rfl, fun ys hy => by rw [I.list_inj hy hq]; exact hx⟩, ⟨⟨u, ?_⟩, hst.1.at fun o q => (sb.2 it (Ne.symm hne)).trans q, hne⟩, fun b hb => ?_⟩
    · have e1 : k + ((i + 1 : Nat) : Int) = k + (i : Int) + 1 := by omega
      rw [e1]; exact he'
    · have hb' : b < s.heap.objs.size := by
        rcases List.mem_cons.mp hb with z | z
        · rw [z]; exact hel
        · rw [List.mem_singleton.mp z]; exact hil
      rw [upd_ne (Nat.ne_of_lt hb')]
      exact (hf b hb).1
  done := by
    intro X hP hw hK hc i pins s σ H E I hf st hg
    subst hP hw hK
    obtain ⟨⟨old, he⟩, hit, hne⟩ := st
    obtain ⟨xs, hq, hx⟩ := hg
    obtain ⟨its, rv, p, hz⟩ := I.list hq
    obtain ⟨f0, f1, f2, f3, f4, f5⟩ := hf it (by simp)
    have hl := rv.length
    have hi : i = its.toArray.size := by simp; omega
    subst hi
    exact wpAny_pyNext_enum_endD (Draws.list (A := X.A.in1) (show X.A.in1.handled = none from I.ok.hd hc) it a hai its.toArray) he ⟨hit, p.isList⟩ fun h' eb => ⟨rfl, I.turned (t' := s.toks) (fun b o hb q => eb b o hb q) f0 f1 f3 f4 f5⟩
  self := fun A i s Q E st h => let ⟨⟨_, he⟩, _⟩ := st; wpAny_pyIter_enum he h
def iEnumK (K : PySem.W.Frag) (ta tk : TA) : TI := fun σ H R => ta σ H fun vs H1 => tk σ H1 fun zs H2 => ∃ (a : Addr) (xs : List V) (k : Int), vs = [.ref a] ∧ zs = [.int k] ∧ -(2 ^ 63) ≤ k ∧ k < 2 ^ 63 ∧ SqL K H2 a xs ∧ R (IteK K k a) H2
theorem pi_enumK {X : Cx} {e : Expr} {ta tk : TA} {kws : List Keyword} {p pos tpos : Pos} {elts : List Expr} {kk : Nat} (hg : Gl X "enumerate") (hm : X.mg "enumerate" = none) (ha : PA X [e] ta) (hk : PK X kws tk)
    (he : backTo pos (starEach [e] X.env) = (false, eval e X.env) :: backTo pos (starEach [] X.env) := by rfl) (hpl : (backTo pos (starEach [e] X.env)).any (·.1) = false := by rfl)
    (hall : (backToKw pos (keywordEach kws X.env)).all (·.1.isSome) = true := by rfl) (hnone : (backToKw pos (keywordEach kws X.env)).any (·.1.isNone) = false := by rfl) (hks : (backToKw pos (keywordEach kws X.env)).filterMap (·.1) = [Str.ofString "start"] := by rfl) :
    PI X (.Tuple elts kk tpos) (.Call (.Name "enumerate" p) [e] kws pos) (iEnumK X.K ta tk) := by
  refine ⟨fun pins s σ H R I h => ?_⟩
  refine wpAny_Call_Name_kw (ld_blt I hg hm boot_enumerate ?_)
  refine callWith_type_kw (thn (ha.run pos pins s σ H _ I h) fun us s1 ⟨vs, H1, I1, r1, q1⟩ => thn (hk.run pos pins s1 σ H1 _ I1 q1) fun ws s2 ⟨zs, H2, I2, r2, q2⟩ => ?_) he hpl hall hnone
  rw [hks]
  obtain ⟨a, xs, k, ev, ez, k0, k1, hq, q⟩ := q2
  subst ev ez
  cases r1 with
  | cons r rr =>
    cases rr
    cases r
    cases r2 with
    | cons r' rr' =>
      cases rr'
      obtain ⟨t, rfl⟩ := r'
      obtain ⟨its, rv, p', hz⟩ := I2.list hq
      have hal : a < s2.heap.objs.size := by obtain ⟨_, z, _⟩ := p'.isList; exact Heap.lt_size z
      refine enum_begins_start (begins_list a its.toArray) p'.isList k0 k1 fun h' he hit hsz hk => wpAny_pyIter_enum he ?_
      have I3 : Inv X pins σ H2 { s2 with heap := h' } := I2.kept (t' := s2.toks) hk
      refine ⟨s2.heap.objs.size + 1, [s2.heap.objs.size + 1, s2.heap.objs.size], _, _, H2, rfl, I3, turn_enumK k a (s2.heap.objs.size + 1) s2.heap.objs.size (Nat.ne_of_lt hal) (Nat.ne_of_gt (Nat.lt_succ_of_lt hal)), ⟨⟨.none, by show IsEnum h' _ _ (k + 0) _; rw [Int.add_zero]; exact he⟩, ⟨_, hit, rfl, rfl⟩, Nat.succ_ne_self _⟩, fun b hb => ?_, q⟩
      have hle : s2.heap.objs.size ≤ b := by
        rcases List.mem_cons.mp hb with z | z
        · rw [z]; exact Nat.le_add_right _ _
        · rw [List.mem_singleton.mp z]; exact Nat.le_refl _
      exact I2.fpOk hle (I2.hok.fresh hle)

end Su
namespace Su
section
variable {K : PySem.W.Frag} {σ : L2.St} {H : Hp} {t : TT} {te : TE} {g : TG} {vs : List Nat} {a : Addr} {xs : List V} {ta tk : TA}
theorem el_lcEK {k : Int} (f : Nat → Bool) (v : Nat → V) (h : EvA ta σ H [.ref a]) (hk : EvA tk σ H [.int k]) (hk0 : -(2 ^ 63) ≤ k) (hk1 : k < 2 ^ 63) (hx : SqL K H a xs) (hz : xs.length ≤ 40000)
    (hs : ∀ (i : Nat) (x : V) T Hb, Ex H Hb → xs[i]? = some x → Hb T = some (.tup [.int (k + (i : Nat)), x]) → ∃ σ2, Tgt g (.ref T) (wipe σ vs) σ2 Hb ∧ wipe σ2 vs = wipe σ vs ∧ EvT t σ2 Hb (f i) ∧ (f i = true → Ev te σ2 Hb (v i))) :
    EvL (tLc (iEnumK K ta tk) g t te vs) σ H (given xs.length f v) := fun H0 e0 Q q => h H0 e0 _ fun H00 e00 => hk H00 (e0.trans e00) _ fun H1 e01 => by
  have e := (e0.trans e00).trans e01
  refine ⟨a, xs, k, rfl, rfl, hk0, hk1, ex_l e hx, fun Dl hD => ?_⟩
  refine ⟨fun i m H' => m = xs.length - i ∧ i ≤ xs.length ∧ Cw H1 f v Dl i H', ⟨xs.length, by simp, Nat.zero_le _, hD, Ex.new hD, upd_same⟩, ?_⟩
  rintro i m H' ⟨rfl, hi, p⟩
  have hX := ex_l (e.trans p.2.1) hx
  by_cases hlt : i < xs.length
  · refine .inr ⟨⟨xs, xs[i], hX, List.getElem?_eq_getElem hlt⟩, Cw H1 f v Dl (i + 1), fun H2 p' => ⟨xs.length - (i + 1), by omega, rfl, hlt, p'⟩, fun y H2 hy => ?_⟩
    obtain ⟨T, x, rfl, nT, rfl, hxx⟩ := hy
    have gi := hxx xs hX
    have eT : Ex H' (upd H' T (.tup [.int (k + (i : Nat)), x])) := Ex.new nT
    have hTD : T ≠ Dl := fun z => by rw [z, p.2.2] at nT; cases nT
    have p2 := cw_ex p eT
    obtain ⟨σ2, h1, h2, h3, h4⟩ := hs i x T (dropAt (upd H' T (.tup [.int (k + (i : Nat)), x])) Dl) (ex_drop ((e.trans p.2.1).trans eT) (fresh_back e p.1)) gi (drop_of upd_same hTD)
    exact h1 _ drop_ex _ ⟨h2, cw_turn2 p2 (by omega) drop_ex h3 h4⟩
  · have ei : i = xs.length := by omega
    subst ei
    exact .inl ⟨⟨xs, hX, rfl⟩, q Dl H' (fresh_back (e00.trans e01) p.1) ((e00.trans e01).trans p.2.1) p.2.2⟩
end

end Su
namespace Su
/-! ### is_order -/
theorem eqv_ints (a b : List Int) : PyData.eqv (intD a) (intD b) = decide (a = b) := by
  unfold intD
  rw [PyData.eqv]
  exact PySem.W.ked_eqvAll a b
theorem sorted_unique : ∀ {l m : List Int}, l.Pairwise (· ≤ ·) → m.Pairwise (· ≤ ·) → l.Perm m → l = m
  | [], m, _, _, h => (List.nil_perm.mp h).symm
  | a :: r, [], _, _, h => absurd h.length_eq (by rw [List.length_cons]; exact fun z => by cases z)
  | a :: r, b :: s, hl, hm, h => by
    obtain ⟨l1, l2⟩ := List.pairwise_cons.mp hl
    obtain ⟨m1, m2⟩ := List.pairwise_cons.mp hm
    have e : a = b := by
      have h1 : a ∈ b :: s := h.mem_iff.mp List.mem_cons_self
      have h2 : b ∈ a :: r := h.mem_iff.mpr List.mem_cons_self
      rcases List.mem_cons.mp h1 with e | h1
      · exact e
      · rcases List.mem_cons.mp h2 with e | h2
        · exact e.symm
        · have := l1 b h2
          have := m1 a h1
          omega
    subst e
    rw [sorted_unique l2 m2 ((List.perm_cons a).mp h)]
def sortI (ns : List Int) : List Int := ns.mergeSort fun a b => decide (a ≤ b)
theorem sortI_perm (ns : List Int) : (sortI ns).Perm ns := List.mergeSort_perm _ _
theorem sortI_sorted (ns : List Int) : (sortI ns).Pairwise (· ≤ ·) := by
  have h := List.pairwise_mergeSort (le := fun a b : Int => decide (a ≤ b)) (fun a b c h1 h2 => by
    have := of_decide_eq_true h1
    have := of_decide_eq_true h2
    exact decide_eq_true (by omega)) (fun a b => by
    rw [Bool.or_eq_true, decide_eq_true_eq, decide_eq_true_eq]
    omega) ns
  exact h.imp fun h => of_decide_eq_true h
def rgI (n : Nat) : List Int := (List.range n).map fun i : Nat => (i : Int)
theorem rgI_sorted (n : Nat) : (rgI n).Pairwise (· ≤ ·) := by
  unfold rgI
  rw [List.pairwise_map]
  exact List.pairwise_lt_range.imp fun {i j} h => by omega
theorem sortI_eq (ns : List Int) (n : Nat) : sortI ns = rgI n ↔ ns.Perm (rgI n) :=
  ⟨fun h => h ▸ (sortI_perm ns).symm, fun h => sorted_unique (sortI_sorted ns) (rgI_sorted n) ((sortI_perm ns).trans h)⟩
def inRound (ws : List (Int × Int)) (ns : List Int) (i : Nat) : Bool := match ns[i]? with
  | some n => match ws[n.toNat]? with
    | some w => decide (w.1 ≤ 1 + (i : Int)) && decide (1 + (i : Int) ≤ w.2)
    | none => false
  | none => false
def isOrd (ws : List (Int × Int)) (ns : List Int) : Bool := decide (sortI ns = rgI ws.length) && ((List.range ns.length).map (inRound ws ns)).all id
section
variable {P : Program} {w : World} {K : PySem.W.Frag} {mg : Str → Option Value} {base : Heap}
theorem el_sortedI {σ : L2.St} {H : Hp} {te : TE} {a : Addr} {ns : List Int} (h : Ev te σ H (.ref a)) (hs : SqL K H a (ns.map V.int)) : EvL (tCB (rSortedI K) (tCons te tNil)) σ H ((sortI ns).map V.int) := fun H0 e Q q =>
  h H0 e _ fun H1 e1 => ⟨a, ns, rfl, ex_l (e.trans e1) hs, fun ns' p hp ho hn => by
    obtain rfl : ns' = sortI ns := sorted_unique ho (sortI_sorted ns) (hp.trans (sortI_perm ns).symm)
    exact q p _ (fresh_back e1 hn) (e1.trans (Ex.new hn)) upd_same⟩
theorem el_rgI {σ : L2.St} {H : Hp} {te : TE} {n : Nat} (h : Ev te σ H (.int (n : Nat))) (hn : n ≤ 16000000) : EvL (tLstRg (tRg1 te)) σ H ((rgI n).map V.int) := fun H0 e Q q =>
  h H0 e _ fun H1 e1 => ⟨n, rfl, RgOk.of_le (by omega) (by omega) (by omega) (by omega), fun p hp => q p _ (fresh_back e1 hp) (e1.trans (Ex.new hp)) (by
    rw [upd_same]
    unfold rgV rgI
    rw [List.map_map, Int.sub_zero, Int.toNat_natCast]
    congr 2
    apply List.map_congr_left
    intro i _
    show V.int (0 + (i : Int)) = V.int (i : Int)
    rw [Int.zero_add])⟩
theorem ev_allB {σ : L2.St} {H : Hp} {te : TE} {bs : List Bool} (h : EvL te σ H (bs.map V.bl)) : Ev (tCB (rAll K) (tCons te tNil)) σ H (.bl (bs.all id)) := fun H1 e Q q =>
  h H1 e _ fun p H2 _ e2 h2 => ⟨p, bs, rfl, sq_of h2, q H2 e2⟩
end

end Su
namespace Su
section
variable {P : Program} {w : World} {K : PySem.W.Frag} {mg : Str → Option Value} {base : Heap}
def spIsOrder (K : PySem.W.Frag) : Sp := fun vs H Q _ => ∃ (l r : Addr) (qs : List Win) (ns : List Int), vs = [.ref l, .ref r] ∧ SqL K H l (refs qs) ∧ TW H qs ∧ qs.length ≤ 1000 ∧ SqL K H r (ns.map V.int) ∧ ns.length ≤ 1000 ∧ ∀ H', Ex H H' → Q (.bl (isOrd (wsOf qs) ns)) H'
theorem ok_is_order {f : Addr} {fd : FuncData} {k : Nat} (F : Fun K "is_order" "is_order" s_is_order f fd) (T : Top K mg) : FnOk P w K mg base CX0 (k + 1) f fd ["windows", "row"] (spIsOrder K) := by
  have nd := sc_is_order.nd
  refine F.ok sc_is_order (fun vs H Q E h => ?_) (fun cdv A outer s H vs Q E hr h => ?_)
  · obtain ⟨l, r, qs, ns, rfl, _⟩ := h
    rfl
  · obtain ⟨l, r, qs, ns, rfl, hl, ht, hq, hr', hn, q⟩ := h
    refine ⟨_, (pss_cons (ps_if (pt_cmpR (op_neD hr.units) (pe_callB cr_sortedI (by rfl) T.m_sorted (by decide +kernel) (pa_cons (pv 1) pa_nil)) (pe_listRg rfl (by rfl) T.m_list (prg_1 (by rfl) T.m_range (pe_callB call_len_seq (by rfl) T.m_len PySem.boot_len (pa_cons (pv 0) pa_nil)))) (nomark _))
        (pss_one (ps_ret pe_bl))
        pss_nil)
      (pss_one (ps_ret (pe_callB (cr_all rfl) (by rfl) T.m_all (by decide +kernel) (pa_cons (pe_lc (own := [("turn", 2), ("at", 3)]) (g := gTup K 2 (gCons (gName 2) (gCons (gName 3) gNil))) (tt := tYes) rfl nd (pi_enumK (by rfl) T.m_enumerate (pa_cons (pv 1) pa_nil) (pk_cons pe_int pk_nil)) (blkOk_by (own := [("turn", 2), ("at", 3)]) (N := Su.N_is_order) (sc := defScope s_is_order) (by decide +kernel)) (fun _ _ _ _ _ => (pg_tup rfl (pgs_cons (pg_name (i := 2) nd rfl (.inl rfl)) (pgs_cons (pg_name (i := 3) nd rfl (.inl rfl)) pgs_nil)))) (fun _ _ _ _ _ => pts_nil) (fun _ _ _ _ _ => (pe_chain op_le op_le (pe_ix (ix_tupK (K := K) rfl) (pe_ix (ix_listK (K := K) rfl) (pv 0) (pv 3) (fun _ _ => rfl)) pe_int (fun _ _ => rfl)) (pv 2) (pe_ix (ix_tupK (K := K) rfl) (pe_ix (ix_listK (K := K) rfl) (pv 0) (pv 3) (fun _ _ => rfl)) pe_int (fun _ _ => rfl))))) pa_nil))))), ?_⟩
    refine q_when (b := !decide (sortI ns = rgI qs.length)) (et_test (ev_opLL (el_sortedI (ev_var rfl) hr') (el_rgI (n := qs.length) (ev_is (ev_len (ev_var rfl) hl) (by rw [refs_len])) (by omega)) fun p1 p2 H1 hp1 hp2 e1 => rv_neDD (d := intD (sortI ns)) (e := intD (rgI qs.length)) (dp_ints (sq_of hp1)) (dp_ints (sq_of hp2)) (shaped_ints _) (shaped_ints _) (by rw [eqv_ints, Bool.not_not]))) (fun hb H3 e3 => ?_) (fun hb H3 e3 => ?_)
    · rw [Bool.not_eq_true'] at hb
      refine s_ret ev_c fun H4 e4 => ?_
      have hq' := q H4 (e3.trans e4)
      unfold isOrd at hq'
      rw [ws_len, hb, Bool.false_and] at hq'
      exact hq'
    · rw [Bool.not_eq_false'] at hb
      have hperm := (sortI_eq ns qs.length).mp (of_decide_eq_true hb)
      have hl3 := ex_l e3 hl
      have hr3 := ex_l e3 hr'
      have ht3 := ht.ex e3
      refine s_ret (v := .bl (((List.range ns.length).map (inRound (wsOf qs) ns)).all id)) (ev_allB ?_) fun H4 e4 => ?_
      · have hg : ((List.range ns.length).map (inRound (wsOf qs) ns)).map V.bl = given (ns.map V.int).length (fun _ => true) fun i => .bl (inRound (wsOf qs) ns i) := by
          unfold given
          rw [List.filter_eq_self.mpr (fun _ _ => rfl), List.map_map, List.length_map]
          rfl
        rw [hg]
        refine el_lcEK (k := 1) _ _ (by walk_at "ea") (by walk_at "ea") (by decide) (by decide) hr3 (by rw [List.length_map]; omega) fun i x Tt Hb eb gx hT => ?_
        obtain ⟨n, rfl, gn⟩ : ∃ n, x = .int n ∧ ns[i]? = some n := by
          rw [List.getElem?_map] at gx
          cases hc : ns[i]? with
          | none => rw [hc] at gx; cases gx
          | some c => rw [hc] at gx; exact ⟨c, (Option.some.inj gx).symm, rfl⟩
        have hm : n ∈ rgI qs.length := hperm.mem_iff.mp (List.mem_of_getElem? gn)
        obtain ⟨j, hj, rfl⟩ := List.mem_map.mp hm
        have hj := List.mem_range.mp hj
        obtain ⟨qj, gj⟩ : ∃ qj, qs[j]? = some qj := ⟨_, List.getElem?_eq_getElem hj⟩
        have hqj := ht3.ex eb qj (List.mem_of_getElem? gj)
        refine ⟨_, tg_two (st_of hT) tg_name tg_name, rfl, et_yes, fun _ => ?_⟩
        have hv : inRound (wsOf qs) ns i = (decide (qj.2.1 ≤ 1 + (i : Int)) && decide (1 + (i : Int) ≤ qj.2.2)) := by
          unfold inRound
          rw [gn]
          show (match (wsOf qs)[((j : Nat) : Int).toNat]? with | some w => _ | none => _) = _
          rw [Int.toNat_natCast, ws_at gj]
        rw [hv]
        exact chain_le' (ev_w0 (ev_win (ev_var rfl) (ev_var rfl) (ex_l eb hl3) gj) hqj) (ev_var rfl) (ev_w1 (ev_win (ev_var rfl) (ev_var rfl) (ex_l eb hl3) gj) hqj)
      · have hq' := q H4 (e3.trans e4)
        unfold isOrd at hq'
        rw [ws_len, hb, Bool.true_and] at hq'
        exact hq'
end

end Su
namespace Su
/-! ### orders -/
theorem isOrd_no {ws : List (Int × Int)} {ns : List Int} {i : Nat} (hi : i < ns.length) (h : inRound ws ns i = false) : isOrd ws ns = false := by
  unfold isOrd
  rw [Bool.and_eq_false_iff]
  right
  rw [List.all_eq_false]
  exact ⟨inRound ws ns i, List.mem_map.mpr ⟨i, List.mem_range.mpr hi, rfl⟩, by rw [h]; decide⟩
theorem isOrd_yes {ws : List (Int × Int)} {ns : List Int} (hs : sortI ns = rgI ws.length) (h : ∀ j, j < ns.length → inRound ws ns j = true) : isOrd ws ns = true := by
  unfold isOrd
  rw [decide_eq_true hs, Bool.true_and, List.all_eq_true]
  intro b hb
  obtain ⟨j, hj, rfl⟩ := List.mem_map.mp hb
  exact h j (List.mem_range.mp hj)

end Su
namespace Su
/-! ### lists of natural numbers as values -/
def natI (l : List Nat) : List Int := l.map fun k : Nat => (k : Int)
theorem natI_len (l : List Nat) : (natI l).length = l.length := List.length_map _
theorem nat_given (l : List Nat) (p : Nat → Bool) (v : Nat → V) : given l.length (fun i => p (l.getD i 0)) (fun i => v (l.getD i 0)) = (l.filter p).map v := by
  have h : (List.range l.length).map (fun i => l.getD i 0) = l := by
    apply List.ext_getElem?
    intro i
    rw [List.getElem?_map]
    by_cases hi : i < l.length
    · rw [List.getElem?_range hi, List.getElem?_eq_getElem hi]
      show some (l.getD i 0) = _
      rw [List.getD_eq_getElem?_getD, List.getElem?_eq_getElem hi]
      rfl
    · rw [List.getElem?_eq_none (by rw [List.length_range]; omega), List.getElem?_eq_none (by omega)]
      rfl
  conv => rhs; rw [← h]
  unfold given
  rw [List.filter_map, List.map_map]
  rfl
theorem nat_given1 (l : List Nat) (v : Nat → V) : given l.length (fun _ => true) (fun i => v (l.getD i 0)) = l.map v := by
  have z := nat_given l (fun _ => true) v
  rw [List.filter_eq_self.mpr (fun _ _ => rfl)] at z
  exact z
theorem nat_at {l : List Nat} {i : Nat} {x : V} (h : ((natI l).map V.int)[i]? = some x) : ∃ k, x = .int (k : Nat) ∧ l[i]? = some k ∧ l.getD i 0 = k := by
  unfold natI at h
  rw [List.map_map, List.getElem?_map] at h
  cases hc : l[i]? with
  | none => rw [hc] at h; cases h
  | some c => rw [hc] at h; exact ⟨c, (Option.some.inj h).symm, rfl, by rw [List.getD_eq_getElem?_getD, hc]; rfl⟩
theorem natI_int (l : List Nat) : (natI l).map V.int = l.map fun k : Nat => V.int (k : Nat) := by
  unfold natI
  rw [List.map_map]
  rfl
theorem nat_eqd {i j : Nat} : decide (V.int (i : Nat) = V.int (j : Nat)) = decide (i = j) := by
  by_cases h : i = j
  · rw [h, decide_eq_true rfl, decide_eq_true rfl]
  · rw [decide_eq_false h, decide_eq_false (fun z => h (by have := V.int.inj z; omega))]
theorem nat_perm {r : List Nat} {n : Nat} : (natI r).Perm (rgI n) ↔ r.Perm (List.range n) := by
  unfold natI rgI
  refine ⟨fun h => ?_, fun h => h.map _⟩
  have := h.map Int.toNat
  rw [List.map_map, List.map_map] at this
  have e : ∀ l : List Nat, l.map (Int.toNat ∘ fun k : Nat => (k : Int)) = l := fun l => by
    conv => rhs; rw [← List.map_id l]
    apply List.map_congr_left
    intro k _
    exact Int.toNat_natCast k
  rw [e, e] at this
  exact this

end Su
namespace Su
open LamX NdefX
/-! ### min, max with a lambda as key: the lambda called -/
section
variable {X : Cx} {pins : List (Addr × Obj)} {σ : L2.St} {H : Hp} {s : Shared}
abbrev lamF (X : Cx) (params : Arguments) (scope : Scope) (c' : Addr) : NF := ⟨"<lambda>", X.env.qual ++ "<lambda>", params, [], scope, cloFrom X.env.cells scope.names [], c'⟩
abbrev lamO (X : Cx) (params : Arguments) (body : Expr) (scope : Scope) (pm : Value) (c' : Addr) (ctv : Value) : Obj := PySem.W.kla_obj "<lambda>" (X.env.qual ++ "<lambda>") params body scope (cloFrom X.env.cells scope.names []) pm c' ctv
theorem lam_call {A' : Around} {k : Nat} {f c' : Addr} {pm ctv : Value} {params : Arguments} {body : Expr} {scope : Scope} {N fr : List Str} {kx : Str} {x : V} {u : Value} {ws : List (Option V)} {tb : TE} {Q : VK}
    (I : Inv X pins σ H s) (e0 : Env0 X.prog X.w X.K X.mg X.base A' X.stack s H) (hr : Room (k + 1) A') (hf : s.heap.get? f = some (lamO X params body scope pm c' ctv)) (hc : H c' = some (CodeO c' (X.env.qual ++ "<lambda>")))
    (S : NScope N [kx] fr scope) (hbind : bindArgs (PySem.W.kla_fn "<lambda>" (X.env.qual ++ "<lambda>") params body scope (cloFrom X.env.cells scope.names []) pm (.ref c') ctv) ⟨[u], []⟩ = pure [(kx, u)])
    (C : CellsAt (cloFrom X.env.cells scope.names []) fr ws s.heap H) (r : L2.RelV x u) (hbody : PE (ncx CX0 X.prog X.w X.K X.mg X.base N (lamF X params scope c') f A' X.stack s H E0) body tb) (ht : tb (startF N [x] ws) H Q) :
    codeAny (model X.prog X.w) A' (.call (.ref f) ⟨[u], []⟩) (CR CX0 X.stack X.prog X.w H s Q E0) s := by
  obtain ⟨⟨oc, vs, t, hoc, hdc, hvc⟩, _, _⟩ := I.hok c' _ hc
  refine PySem.W.kla_callFunE hr.depth hf rfl S.co S.gen rfl ⟨c', oc, vs, t, rfl, hoc, hdc, hvc⟩ ?_
  rw [hbind]
  refine wpAny_pure (wpAny_newFunctionEnv S.nocell (fun y hy => by rw [List.mem_singleton.mp hy]; exact S.par kx List.mem_cons_self) (fun h₁ hns hsb => ⟨I.nolimit.fresh _ hsb, ?_⟩) S.kind)
  show codeAny _ _ (.expr body (envF (lamF X params scope c') f s.heap.objs.size)) _ _
  have J := inv_startN (CX := CX0) (E := E0) (N := N) (ps := [kx]) (us := [u]) (vs := [x]) (F := lamF X params scope c') (f := f) (tk := s.toks + ([(kx, u)] : List (Str × Value)).length) S hr.hd e0 rfl (.cons r .nil) C hns fun b o e => hsb.extBut b o (Nat.ne_of_lt (Heap.lt_size e)) (Heap.get?_push_of_some _ e)
  exact PySem.W.kla_codeExpr (wpAny_mono (hbody.run [] _ _ H Q J ht) (fun v s' ⟨w', H', J', rv, q⟩ => ⟨w', H', J'.os, J'.bare, J'.base, J'.hok, rv, q⟩) fun e s' hq => hq)
end
/-! ### what is known behind a call: all of before, and tuples -/
def hstar (H' H'' : Hp) : Hp := fun b => match H' b with
  | some o => some o
  | none => match H'' b with
    | some (.tup xs) => some (.tup xs)
    | _ => none
section
variable {H' H'' : Hp}
theorem hs_old {b : Addr} {o : HO} (e : H' b = some o) : hstar H' H'' b = some o := by unfold hstar; rw [e]
theorem hs_tup {b : Addr} {xs : List V} (ex : Ex H' H'') (e : H'' b = some (.tup xs)) : hstar H' H'' b = some (.tup xs) := by
  unfold hstar
  cases h : H' b with
  | some o => rw [ex b o h] at e; exact e
  | none => rw [e]
theorem hs_none {b : Addr} (e : H'' b = none) (n : H' b = none) : hstar H' H'' b = none := by unfold hstar; rw [n, e]
theorem hs_new {b : Addr} {o : HO} (e : hstar H' H'' b = some o) : H' b = some o ∨ (H' b = none ∧ ∃ xs, o = .tup xs ∧ H'' b = some (.tup xs)) := by
  unfold hstar at e
  cases h : H' b with
  | some o' => rw [h] at e; exact .inl e
  | none =>
    rw [h] at e
    cases h2 : H'' b with
    | none => rw [h2] at e; cases e
    | some o2 =>
      rw [h2] at e
      cases o2 with
      | tup xs => exact .inr ⟨rfl, xs, (Option.some.inj e).symm, rfl⟩
      | _ => cases e
theorem hs_ex : Ex H' (hstar H' H'') := fun b o e => hs_old e
theorem ok_star {P : Program} {w : World} {h0 h : Heap} {b : Addr} {o : HO} (ex : Ex H' H'') (x0 : ObjOk P w H' h0 b o) (x : ObjOk P w H'' h b o) : ObjOk P w (hstar H' H'') h b o := by
  induction o with
  | dT kvs =>
    obtain ⟨a1, a2, xs, a3, a4⟩ := x
    exact ⟨a1, a2, xs, L2.Paired.mapP a3 fun p q ⟨z1, z2, z3⟩ => ⟨z1, hs_tup ex z2, z3⟩, a4⟩
  | ins C dx fs => exact ⟨hs_old x0.1, x.2⟩
  | frz ob u ih => exact ⟨x.1, ih x0.2 x.2⟩
  | _ => exact x
theorem hok_star {P : Program} {w : World} {h0 h : Heap} (ex : Ex H' H'') (k0 : HOk P w H' h0) (k : HOk P w H'' h) : HOk P w (hstar H' H'') h := fun b o e => by
  rcases hs_new e with e1 | ⟨_, xs, rfl, e2⟩
  · exact ok_star ex (k0 b o e1) (k b o (ex b o e1))
  · exact k b _ e2
theorem un_star {fs xx : List Addr} {h h' : Heap} (u : Un fs xx H' H'' h h') : Un fs xx H' (hstar H' H'') h h' :=
  ⟨u.keep, u.slot, fun b o e n hx => hs_none (u.free b o e n hx) n, u.there, fun b xs e => hs_old e, fun b o w e => hs_old e, fun b ps e => ⟨#[], by rw [hs_old e]; simp⟩⟩
end

/-! ### one item's key -/
structure KJ (X : Cx) (pins : List (Addr × Obj)) (σ : L2.St) (Hf : Hp) (f : Addr) (fo : Obj) (S It : Addr) (s : Shared) : Prop where
  ex : ∃ H', Inv X pins σ H' s ∧ Ex Hf H' ∧ (∀ b o, H' b = some o → Hf b = some o ∨ ∃ xs, o = .tup xs) ∧ FpOk X pins H' S ∧ FpOk X pins H' It ∧ H' f = none ∧ s.heap.get? f = some fo
section
variable {X : Cx} {pins : List (Addr × Obj)} {σ : L2.St} {Hf : Hp} {f : Addr} {fo : Obj} {S It : Addr} {s s' : Shared}
theorem KJ.keep (j : KJ X pins σ Hf f fo S It s) (hS : f ≠ S) (hI : f ≠ It) (m : Moved (S :: [It]) (fun a b => b = a) s s') : KJ X pins σ Hf f fo S It s' := by
  obtain ⟨H', I, e, n, fs, fi, hf, ho⟩ := j
  have J := I.turnedL (t' := s'.toks) (ch := [S, It]) (h' := s'.heap) (fun b o hb => m.heap b o hb) (fun b hb => by
    rcases List.mem_cons.mp hb with z | z
    · rw [z]; exact fs
    · rw [List.mem_singleton.mp z]; exact fi)
  have g1 := m.gens
  have g2 := m.drawn
  have g3 := m.os
  have hk := m.heap f fo (fun z => by
    rcases List.mem_cons.mp z with z | z
    · exact hS z
    · exact hI (List.mem_singleton.mp z)) ho
  obtain ⟨h', gg, dd, tt, oo⟩ := s'
  simp only at g1 g2 g3
  subst g1 g2 g3
  exact ⟨H', J, e, n, fs, fi, hf, hk⟩
theorem fp_frs {H' : Hp} {b : Addr} (I : Inv X pins σ H' s) (h : FpOk X pins H' b) : b ∉ frs X.stack := fun z => by
  rcases List.mem_cons.mp (I.stkSub b z) with e | e
  · exact h.2.1 e
  · exact h.2.2.1 e
theorem key_core {k : Nat} {c' : Addr} {pm ctv : Value} {params : Arguments} {body : Expr} {scope : Scope} {N fr : List Str} {js : List Nat} {kx : Str} {x : V} {v : Value} {tb : TE} {R : V → Hp → Hp → Prop} {oS oI : Obj} {Q E : Value → Shared → Prop}
    (j : KJ X pins σ Hf f (lamO X params body scope pm c' ctv) S It s) (hr : Room (k + 1) X.A.in1) (hc : Hf c' = some (CodeO c' (X.env.qual ++ "<lambda>"))) (NS : NScope N [kx] fr scope)
    (hbind : ∀ u : Value, bindArgs (PySem.W.kla_fn "<lambda>" (X.env.qual ++ "<lambda>") params body scope (cloFrom X.env.cells scope.names []) pm (.ref c') ctv) ⟨[u], []⟩ = pure [(kx, u)]) (cp : X.Ok → Caps X (cloFrom X.env.cells scope.names []) fr js) (hfr : f ∉ frs X.stack)
    (hbody : ∀ (s : Shared) (H : Hp), PE (ncx CX0 X.prog X.w X.K X.mg X.base N (lamF X params scope c') f X.A.in1 X.stack s H E0) body tb) (r : L2.RelV x v) (hS : s.heap.get? S = some oS) (hI : s.heap.get? It = some oI)
    (ht : ∀ H', Ex Hf H' → tb (startF N [x] (js.map (slotAt σ))) H' (fun y H2 => R y H' H2)) (hR : ∀ y H' H2, R y H' H2 → Ex H' H2)
    (kk : ∀ kv y s' H' H'', Inv X pins σ H' s → Ex Hf H' → (∀ b o, H' b = some o → Hf b = some o ∨ ∃ xs, o = .tup xs) → FpOk X pins H' S → FpOk X pins H' It → R y H' H'' → L2.RelV y kv → Un (frs X.stack) [] H' H'' s.heap s'.heap → HOk X.prog X.w H'' s'.heap →
      Inv X pins σ (hstar H' H'') s' → KJ X pins σ Hf f (lamO X params body scope pm c' ctv) S It s' → s'.heap.get? S = some oS → s'.heap.get? It = some oI → Q kv s') : wpAny (model X.prog X.w) X.A.in1 (call (.ref f) [v]) Q E s := by
  obtain ⟨H', I, e, n, fs, fi, hf, ho⟩ := j
  have rc := lam_call (k := k) I I.env0.in1 hr ho (e _ _ hc) NS (hbind v) (cells_of I (cp I.ok)) r (hbody s H') (ht H' e)
  refine wpAny_call (codeAny_mono rc fun r s' hq => ?_)
  cases r with
  | error e => exact (show False from hq).elim
  | ok fl =>
    cases fl with
    | next => exact False.elim hq
    | brk => exact False.elim hq
    | cont => exact False.elim hq
    | ret u =>
      obtain ⟨y, H'', os, bare, un, hok, rv, hRy⟩ := hq
      have ex2 := hR y H' H'' hRy
      have J : Inv X pins σ (hstar H' H'') s' := I.call' os (un_star un) (hok_star ex2 I.hok hok) bare fun b z => absurd z (by simp)
      have nS : hstar H' H'' S = none := hs_none (un.free S oS hS fs.1 (by simp)) fs.1
      have nI : hstar H' H'' It = none := hs_none (un.free It oI hI fi.1 (by simp)) fi.1
      have nf : hstar H' H'' f = none := hs_none (un.free f _ ho hf (by simp)) hf
      exact kk u y s' H' H'' I e n fs fi hRy rv un hok J ⟨_, J, e.trans hs_ex, fun b o h => (hs_new h).elim (fun z => n b o z) (fun z => .inr ⟨z.2.choose, z.2.choose_spec.1⟩), ⟨nS, fs.2⟩, ⟨nI, fi.2⟩, nf, un.keep f _ ho hf hfr (by simp)⟩
        (un.keep S oS hS fs.1 (fp_frs I fs) (by simp)) (un.keep It oI hI fi.1 (fp_frs I fi) (by simp))
end
/-! ### keys that are tuples of whole numbers; keys that are whole numbers -/
def KVt (X : Cx) (Hf : Hp) (S It : Addr) (ks : Nat → List Int) (i : Nat) (kv : Value) (s : Shared) : Prop := ∃ (a : Addr) (items : Array Value), kv = .ref a ∧ IsTup s.heap a items ∧ IntsAre items.toList (ks i) ∧ Hf a = none ∧ a ≠ S ∧ a ≠ It ∧ a ∉ frs X.stack
def KVi (ks : Nat → Int) (i : Nat) (kv : Value) (_ : Shared) : Prop := ∃ t, kv = .int (ks i) t
theorem ints_vals : ∀ {its : List Value} {ns : List Int} {xs : List V}, IntsAre its ns → Vals xs its → xs = ns.map V.int := fun h r => Vals.inj r (vals_of_ints h)
theorem tup_items {h : Heap} {a : Addr} {i1 i2 : Array Value} (h1 : IsTup h a i1) (h2 : IsTup h a i2) : i1 = i2 := by
  obtain ⟨o1, e1, _, n1, d1⟩ := h1
  obtain ⟨o2, e2, _, n2, d2⟩ := h2
  rw [e1] at e2
  cases e2
  rw [d1] at d2
  cases d2
  rfl
section
variable {X : Cx} {pins : List (Addr × Obj)} {σ : L2.St} {Hf : Hp} {f l It S c' : Addr} {pm ctv : Value} {od : Obj} {k : Nat} {params : Arguments} {body : Expr} {scope : Scope} {N fr : List Str} {js : List Nat} {kx : Str} {xs : List V} {its : List Value} {tb : TE}
theorem keyrunT {ks : Nat → List Int} (hl : Hf l = some (.frz od (.lst xs))) (rx : Vals xs its) (hfS : f ≠ S) (hfI : f ≠ It) (hr : Room (k + 1) X.A.in1) (hc : Hf c' = some (CodeO c' (X.env.qual ++ "<lambda>"))) (NS : NScope N [kx] fr scope)
    (hbind : ∀ u : Value, bindArgs (PySem.W.kla_fn "<lambda>" (X.env.qual ++ "<lambda>") params body scope (cloFrom X.env.cells scope.names []) pm (.ref c') ctv) ⟨[u], []⟩ = pure [(kx, u)]) (cp : X.Ok → Caps X (cloFrom X.env.cells scope.names []) fr js) (hfr : f ∉ frs X.stack)
    (hbody : ∀ (s : Shared) (H : Hp), PE (ncx CX0 X.prog X.w X.K X.mg X.base N (lamF X params scope c') f X.A.in1 X.stack s H E0) body tb)
    (ht : ∀ i x, xs[i]? = some x → EvU tb (startF N [x] (js.map (slotAt σ))) Hf ((ks i).map V.int)) :
    KeyRun X.prog X.w X.A.in1 (.ref f) .Lt S [It] (fun a b => b = a) its.toArray.size (fun i v => its.toArray[i]? = some v) (fun i s => s.heap.IsListIter It l i ∧ s.heap.IsList l its.toArray) (KJ X pins σ Hf f (lamO X params body scope pm c' ctv) S It) (KVt X Hf S It ks) (fun i j => HT.lexLt (ks i) (ks j)) where
  keep := fun s s' j m => j.keep hfS hfI m
  keepV := fun i kv s s' ⟨a, items, e, ht, hi, h0, h1, h2, h3⟩ m => ⟨a, items, e, by
    obtain ⟨o, ho, r⟩ := ht
    exact ⟨o, m.heap a o (fun z => by
      rcases List.mem_cons.mp z with z | z
      · exact h1 z
      · exact h2 (List.mem_singleton.mp z)) ho, r⟩, hi, h0, h1, h2, h3⟩
  turn := fun i v s o Q E hi hP hJ hst hS kq => by
    have hlen := rx.length
    have hi' : i < xs.length := by rw [hlen]; simpa using hi
    obtain ⟨u, hu, ru⟩ := rx.get (List.getElem?_eq_getElem hi')
    obtain rfl : u = v := by
      have : its[i]? = some v := by simpa using hP
      exact Option.some.inj (hu.symm.trans this)
    obtain ⟨⟨oI, hI, hI1, hI2⟩, ⟨oL, hL, hL1⟩⟩ := hst
    refine key_core (R := fun y H' H2 => ∃ p, y = .ref p ∧ H' p = none ∧ Ex H' H2 ∧ H2 p = some (.tup ((ks i).map V.int))) hJ hr hc NS hbind cp hfr hbody ru hS hI (fun H' e => ht i _ (List.getElem?_eq_getElem hi') H' e _ fun p H2 hp e2 h2 => ⟨p, rfl, hp, e2, h2⟩) (fun y H' H2 ⟨p, _, _, e, _⟩ => e) ?_
    rintro kv y s' H' H'' I e n fs fi ⟨p, rfl, hp, e2, h2⟩ rv un hok J KJ' hS' hI'
    obtain rfl : kv = Value.ref p := rv
    obtain ⟨_, it2, r2, t2⟩ := hok p _ h2
    have hstp : hstar H' H'' p = some (.tup ((ks i).map V.int)) := hs_tup e2 h2
    refine kq _ s' KJ' ⟨⟨oI, hI', hI1, hI2⟩, ⟨oL, ?_, hL1⟩⟩ hS' ⟨p, it2.toArray, rfl, t2, by simpa using ints_of_vals r2, ?_, fun z => ?_, fun z => ?_, fun z => ?_⟩ ?_
    · have q1 := (I.hok l _ (e _ _ hl)).1
      have q2 := (J.hok l _ (hs_old (e _ _ hl))).1
      rw [hL] at q1
      cases q1
      exact q2
    · cases hq : Hf p with
      | none => rfl
      | some o => rw [e p o hq] at hp; cases hp
    · rw [z, un.free S _ hS fs.1 (by simp)] at h2; cases h2
    · rw [z, un.free It _ hI fi.1 (by simp)] at h2; cases h2
    · rw [J.stkFree p z] at hstp; cases hstp
    · rintro j kj ⟨a, items, rfl, ta, ia, a0, a1, a2, a3⟩
      cases hq : H' a with
      | none =>
        obtain ⟨oa, ho, rest⟩ := ta
        exact ⟨a, items, rfl, ⟨oa, un.keep a oa ho hq a3 (by simp), rest⟩, ia, a0, a1, a2, a3⟩
      | some oo =>
        rcases n a oo hq with z | ⟨ys, rfl⟩
        · rw [a0] at z; cases z
        · obtain ⟨_, ja, ra, tja⟩ := I.hok a _ hq
          have ei := tup_items ta tja
          subst ei
          have ey := ints_vals (by simpa using ia) ra
          subst ey
          obtain ⟨_, jb, rb, tjb⟩ := hok a _ (un.tups a _ hq)
          exact ⟨a, jb.toArray, rfl, tjb, by simpa using ints_of_vals rb, a0, a1, a2, a3⟩
  cmp := fun i j ki kj s Q E hJ ⟨a, ia, ea, ta, na, _⟩ ⟨b, ib, eb, tb, nb, _⟩ q => by
    subst ea eb
    exact HT.lt_tupInts ta tb na nb hr.units0 q
end

section
variable {X : Cx} {pins : List (Addr × Obj)} {σ : L2.St} {Hf : Hp} {f l It S c' : Addr} {pm ctv : Value} {od : Obj} {k : Nat} {params : Arguments} {body : Expr} {scope : Scope} {N fr : List Str} {js : List Nat} {kx : Str} {xs : List V} {its : List Value} {tb : TE}
theorem keyrunI {ks : Nat → Int} (hl : Hf l = some (.frz od (.lst xs))) (rx : Vals xs its) (hfS : f ≠ S) (hfI : f ≠ It) (hr : Room (k + 1) X.A.in1) (hc : Hf c' = some (CodeO c' (X.env.qual ++ "<lambda>"))) (NS : NScope N [kx] fr scope)
    (hbind : ∀ u : Value, bindArgs (PySem.W.kla_fn "<lambda>" (X.env.qual ++ "<lambda>") params body scope (cloFrom X.env.cells scope.names []) pm (.ref c') ctv) ⟨[u], []⟩ = pure [(kx, u)]) (cp : X.Ok → Caps X (cloFrom X.env.cells scope.names []) fr js) (hfr : f ∉ frs X.stack)
    (hbody : ∀ (s : Shared) (H : Hp), PE (ncx CX0 X.prog X.w X.K X.mg X.base N (lamF X params scope c') f X.A.in1 X.stack s H E0) body tb)
    (ht : ∀ i x, xs[i]? = some x → Ev tb (startF N [x] (js.map (slotAt σ))) Hf (.int (ks i))) :
    KeyRun X.prog X.w X.A.in1 (.ref f) .Gt S [It] (fun a b => b = a) its.toArray.size (fun i v => its.toArray[i]? = some v) (fun i s => s.heap.IsListIter It l i ∧ s.heap.IsList l its.toArray) (KJ X pins σ Hf f (lamO X params body scope pm c' ctv) S It) (KVi ks) (fun i j => decide (ks j < ks i)) where
  keep := fun s s' j m => j.keep hfS hfI m
  keepV := fun i kv s s' h m => h
  turn := fun i v s o Q E hi hP hJ hst hS kq => by
    have hlen := rx.length
    have hi' : i < xs.length := by rw [hlen]; simpa using hi
    obtain ⟨u, hu, ru⟩ := rx.get (List.getElem?_eq_getElem hi')
    obtain rfl : u = v := by
      have : its[i]? = some v := by simpa using hP
      exact Option.some.inj (hu.symm.trans this)
    obtain ⟨⟨oI, hI, hI1, hI2⟩, ⟨oL, hL, hL1⟩⟩ := hst
    refine key_core (R := fun y H' H2 => y = .int (ks i) ∧ Ex H' H2) hJ hr hc NS hbind cp hfr hbody ru hS hI (fun H' e => ht i _ (List.getElem?_eq_getElem hi') H' e _ fun H2 e2 => ⟨rfl, e2⟩) (fun y H' H2 ⟨_, e⟩ => e) ?_
    rintro kv y s' H' H'' I e n fs fi ⟨rfl, e2⟩ rv un hok J KJ' hS' hI'
    refine kq _ s' KJ' ⟨⟨oI, hI', hI1, hI2⟩, ⟨oL, ?_, hL1⟩⟩ hS' rv fun j kj h => h
    have q1 := (I.hok l _ (e _ _ hl)).1
    have q2 := (J.hok l _ (hs_old (e _ _ hl))).1
    rw [hL] at q1
    cases q1
    exact q2
  cmp := fun i j ki kj s Q E hJ ⟨t1, e1⟩ ⟨t2, e2⟩ q => by
    subst e1 e2
    exact gt_int q
end

/-- min(e, key=lambda x: body) -/
def tMinT (T : List (Addr × Str)) (N : List Str) (js : List Nat) (te tb : TE) : TE := fun σ H Q => te σ H fun x H1 => ∃ (l : Addr) (xs : List V) (ks : Nat → List Int), x = .ref l ∧ H1 l = some (.lst xs) ∧ 0 < xs.length ∧ Tabs T H1 ∧ ∀ (od : Obj) (H2 : Hp), ExtN H1 H2 → Tabs T H2 →
  (∀ i x, xs[i]? = some x → EvU tb (startF N [x] (js.map (slotAt σ))) (upd H2 l (.frz od (.lst xs))) ((ks i).map V.int)) ∧ ∀ (H3 : Hp) (y : V), Ex H2 H3 → xs[argBest (fun i j => HT.lexLt (ks i) (ks j)) (xs.length - 1)]? = some y → Q y H3
theorem pe_minT {X : Cx} {T : List (Addr × Str)} {c P : Addr} {k : Nat} {kx nk : Str} {N fr : List Str} {js : List Nat} {te tb : TE} {e : Expr} {params : Arguments} {body : Expr} {scope : Scope} {p lpos kpos pos : Pos} (TB : TabB X.base X.mg c P) (hcode : X.env.code = .ref c) (hmT : (P, X.env.qual ++ "<lambda>") ∈ T) (hu : ∀ p ∈ T, p.1 = P → p.2 = X.env.qual ++ "<lambda>")
    (hg : Gl X "min") (hm : X.mg "min" = none) (hr : Room (k + 2) X.A) (ha : PA X [e] (tCons te tNil)) (NS : NScope N [kx] fr scope) (hnd : ndefB X.env.scope scope fr = true) (hjs : js.map (fun j => X.N[j]?) = fr.map some)
    (hbody : ∀ (f c' : Addr) (s : Shared) (H : Hp), Room k (X.A.in1.deeper (envF (lamF X params scope c') f s.heap.objs.size)) → PE (ncx CX0 X.prog X.w X.K X.mg X.base N (lamF X params scope c') f X.A.in1 X.stack s H E0) body tb)
    (hdef : defaultsOf params X.env = ([], []) := by rfl)
    (hbind : ∀ (q : Str) (cl : List (Str × Addr)) (pm cv ctv u : Value), bindArgs (PySem.W.kla_fn "<lambda>" q params body scope cl pm cv ctv) ⟨[u], []⟩ = pure [(kx, u)] := by exact fun _ _ _ _ _ _ => rfl)
    (he : backTo pos (starEach [e] X.env) = (false, eval e X.env) :: backTo pos (starEach [] X.env) := by rfl) (hpl : (backTo pos (starEach [e] X.env)).any (·.1) = false := by rfl) (hnk : nk = Str.ofString "key" := by rfl) :
    PE X (.Call (.Name "min" p) [e] [⟨some nk, .Lambda params body scope lpos, kpos⟩] pos) (tMinT T N js te tb) := by
  subst hnk
  refine ⟨fun pins s σ H Q I h => ?_⟩
  refine wpAny_Call_Name_kw (ld_blt I hg hm PyProof.Rows.boot_min ?_)
  refine PyProof.Rows.callWith_kw (thn (ha.run pos pins s σ H (fun vs H1 => match vs with
    | [x] => ∃ (l : Addr) (xs : List V) (ks : Nat → List Int), x = .ref l ∧ H1 l = some (.lst xs) ∧ 0 < xs.length ∧ Tabs T H1 ∧ ∀ (od : Obj) (H2 : Hp), ExtN H1 H2 → Tabs T H2 →
      (∀ i x, xs[i]? = some x → EvU tb (startF N [x] (js.map (slotAt σ))) (upd H2 l (.frz od (.lst xs))) ((ks i).map V.int)) ∧ ∀ (H3 : Hp) (y : V), Ex H2 H3 → xs[argBest (fun i j => HT.lexLt (ks i) (ks j)) (xs.length - 1)]? = some y → Q y H3
    | _ => False) I h) fun us s1 hh => ?_) he hpl (by rfl) (by rfl)
  obtain ⟨vs, H1, I1, r1, q1⟩ := hh
  cases r1 with
  | nil => exact q1.elim
  | cons ru rn =>
    cases rn with
    | cons _ _ => exact q1.elim
    | nil =>
      obtain ⟨l, xs, ks, rfl, hl, hpos, hT, hk⟩ := q1
      obtain rfl := ru
      show wpAny _ _ (evalAll ((do let v ← eval (.Lambda params body scope lpos) X.env; standAt pos; pure v) :: [])) _ _ s1
      refine wpAny_evalAll_cons (wpAny_bind (lam_make2 I1 TB hcode hmT hu hT hdef (fun y hy e => (ndef_free hnd y hy e).elim (fun z => I1.ok.has _ (.inl z)) fun z => I1.ok.has _ (.inr z)) fun f c' pm ctv H2 s2 I2 eN T2 hf hfn hfr hco => wpAny_bind (wpAny_standAt (wpAny_pure (wpAny_evalAll_nil ?_)))))
      show wpAny _ _ (call (.builtin "min") [.ref l] [(Str.ofString "key", .ref f)]) _ _ s2
      refine call_min_walkK ?_
      have hl2 : H2 l = some (.lst xs) := eN l _ hl (fun ps z => nomatch z)
      obtain ⟨od, I3⟩ := I2.lock hl2 trivial
      have hlf : (upd H2 l (.frz od (.lst xs))) l = some (.frz od (.lst xs)) := upd_same
      have hfl : f ≠ l := fun z => by rw [z, hl2] at hfn; cases hfn
      have hff : (upd H2 l (.frz od (.lst xs))) f = none := by rw [upd_ne hfl]; exact hfn
      have hcf : (upd H2 l (.frz od (.lst xs))) c' = some (CodeO c' (X.env.qual ++ "<lambda>")) := by
        rw [upd_ne (fun z => by
          rw [z, hl2] at hco
          unfold CodeO at hco
          cases hco)]
        exact hco
      obtain ⟨hk1, hk2⟩ := hk od H2 eN T2
      have back : ∀ H3, Ex (upd H2 l (.frz od (.lst xs))) H3 → Ex H2 (upd H3 l (.lst xs)) := fun H3 e b o hb => by
        by_cases z : b = l
        · rw [z, hl2] at hb
          rw [z, upd_same]
          exact hb
        · rw [upd_ne z]
          exact e b o (by rw [upd_ne z]; exact hb)
      generalize upd H2 l (.frz od (.lst xs)) = Hf at I3 hlf hff hcf hk1 back
      obtain ⟨its, rx, pl, hz⟩ := I3.list (show SqL X.K Hf l xs from .inl (.inr ⟨od, hlf⟩))
      refine wpAny_pyIter_list pl.isList ?_
      have I4 : Inv X pins σ Hf { s2 with heap := s2.heap.push { cls := .type "list_iterator", data := .fields #[.ref l, .int 0 0] }, toks := s2.toks } := I3.kept fun b o e => Heap.get?_push_of_some _ e
      have hsz : (s2.heap.push { cls := .type "list_iterator", data := .fields #[.ref l, .int 0 0] }).objs.size = s2.heap.objs.size + 1 := Heap.size_push ..
      have hflt : f < s2.heap.objs.size := Heap.lt_size hf
      have hll : l < s2.heap.objs.size := by obtain ⟨o, ho, _⟩ := pl.isList; exact Heap.lt_size ho
      have hlen := rx.length
      refine ⟨s2.heap.objs.size, [s2.heap.objs.size, l], [s2.heap.objs.size], _, its.toArray.size, _, _, KJ X pins σ Hf f (lamO X params body scope pm c' ctv) (s2.heap.push { cls := .type "list_iterator", data := .fields #[.ref l, .int 0 0] }).objs.size s2.heap.objs.size, KVt X Hf (s2.heap.push { cls := .type "list_iterator", data := .fields #[.ref l, .int 0 0] }).objs.size s2.heap.objs.size ks, (fun i j => HT.lexLt (ks i) (ks j)), rfl,
        (Walks.list (A := X.A.in1) hr.hd s2.heap.objs.size l (Nat.ne_of_lt hll) its.toArray).toS, ⟨⟨_, Heap.get?_push_size _ rfl, rfl, rfl⟩, pl.isList.push _⟩, fun b hb => ?_, ?_, keyrunT hlf rx ?_ (Nat.ne_of_lt hflt) hr.in1 hcf NS (fun u => hbind _ _ _ _ _ u) (fun ok => Caps.made ok (ndef_free hnd) (ndef_fr hnd) hjs) hfr (fun s H => hbody f c' s H (hr.in1.deeper _)) hk1,
        ⟨Hf, I4, Ex.refl Hf, fun b o h => .inl h, I4.fpOk (Nat.le_refl _) (I4.hok.fresh (Nat.le_refl _)), I3.fpOk (Nat.le_refl _) (I3.hok.fresh (Nat.le_refl _)), hff, Heap.get?_push_of_some _ hf⟩, fun v s' hP hJ => ?_⟩
      · rcases List.mem_cons.mp hb with z | z
        · rw [z, hsz]; exact Nat.lt_succ_self _
        · rw [List.mem_singleton.mp z, hsz]; exact Nat.lt_succ_of_lt hll
      · show 0 < its.toArray.size
        rw [List.size_toArray, ← hlen]
        exact hpos
      · rw [hsz]
        exact Nat.ne_of_lt (Nat.lt_succ_of_lt hflt)
      · obtain ⟨H', I', e, _⟩ := hJ
        have J2 := I'.unlock (e l _ hlf) (I2.nofrz hl2 trivial)
        have hP : its.toArray[argBest (fun i j => HT.lexLt (ks i) (ks j)) (its.toArray.size - 1)]? = some v := hP
        rw [List.size_toArray, ← hlen, List.getElem?_toArray] at hP
        obtain ⟨y, hy⟩ : ∃ y, xs[argBest (fun i j => HT.lexLt (ks i) (ks j)) (xs.length - 1)]? = some y := ⟨_, List.getElem?_eq_getElem (Nat.lt_of_lt_of_eq (List.getElem?_eq_some_iff.mp hP).1 hlen.symm)⟩
        obtain ⟨u, hu', ru⟩ := rx.get hy
        rw [hP] at hu'
        cases hu'
        exact ⟨y, _, J2, ru, hk2 _ y (back _ e) hy⟩

/-- max(e, key=lambda x: body) -/
def tMaxI (T : List (Addr × Str)) (N : List Str) (js : List Nat) (te tb : TE) : TE := fun σ H Q => te σ H fun x H1 => ∃ (l : Addr) (xs : List V) (ks : Nat → Int), x = .ref l ∧ H1 l = some (.lst xs) ∧ 0 < xs.length ∧ Tabs T H1 ∧ ∀ (od : Obj) (H2 : Hp), ExtN H1 H2 → Tabs T H2 →
  (∀ i x, xs[i]? = some x → Ev tb (startF N [x] (js.map (slotAt σ))) (upd H2 l (.frz od (.lst xs))) (.int (ks i))) ∧ ∀ (H3 : Hp) (y : V), Ex H2 H3 → xs[argBest (fun i j => decide (ks j < ks i)) (xs.length - 1)]? = some y → Q y H3
theorem pe_maxI {X : Cx} {T : List (Addr × Str)} {c P : Addr} {k : Nat} {kx nk : Str} {N fr : List Str} {js : List Nat} {te tb : TE} {e : Expr} {params : Arguments} {body : Expr} {scope : Scope} {p lpos kpos pos : Pos} (TB : TabB X.base X.mg c P) (hcode : X.env.code = .ref c) (hmT : (P, X.env.qual ++ "<lambda>") ∈ T) (hu : ∀ p ∈ T, p.1 = P → p.2 = X.env.qual ++ "<lambda>")
    (hg : Gl X "max") (hm : X.mg "max" = none) (hr : Room (k + 2) X.A) (ha : PA X [e] (tCons te tNil)) (NS : NScope N [kx] fr scope) (hnd : ndefB X.env.scope scope fr = true) (hjs : js.map (fun j => X.N[j]?) = fr.map some)
    (hbody : ∀ (f c' : Addr) (s : Shared) (H : Hp), Room k (X.A.in1.deeper (envF (lamF X params scope c') f s.heap.objs.size)) → PE (ncx CX0 X.prog X.w X.K X.mg X.base N (lamF X params scope c') f X.A.in1 X.stack s H E0) body tb)
    (hdef : defaultsOf params X.env = ([], []) := by rfl)
    (hbind : ∀ (q : Str) (cl : List (Str × Addr)) (pm cv ctv u : Value), bindArgs (PySem.W.kla_fn "<lambda>" q params body scope cl pm cv ctv) ⟨[u], []⟩ = pure [(kx, u)] := by exact fun _ _ _ _ _ _ => rfl)
    (he : backTo pos (starEach [e] X.env) = (false, eval e X.env) :: backTo pos (starEach [] X.env) := by rfl) (hpl : (backTo pos (starEach [e] X.env)).any (·.1) = false := by rfl) (hnk : nk = Str.ofString "key" := by rfl) :
    PE X (.Call (.Name "max" p) [e] [⟨some nk, .Lambda params body scope lpos, kpos⟩] pos) (tMaxI T N js te tb) := by
  subst hnk
  refine ⟨fun pins s σ H Q I h => ?_⟩
  refine wpAny_Call_Name_kw (ld_blt I hg hm PyProof.Rows.boot_max ?_)
  refine PyProof.Rows.callWith_kw (thn (ha.run pos pins s σ H (fun vs H1 => match vs with
    | [x] => ∃ (l : Addr) (xs : List V) (ks : Nat → Int), x = .ref l ∧ H1 l = some (.lst xs) ∧ 0 < xs.length ∧ Tabs T H1 ∧ ∀ (od : Obj) (H2 : Hp), ExtN H1 H2 → Tabs T H2 →
      (∀ i x, xs[i]? = some x → Ev tb (startF N [x] (js.map (slotAt σ))) (upd H2 l (.frz od (.lst xs))) (.int (ks i))) ∧ ∀ (H3 : Hp) (y : V), Ex H2 H3 → xs[argBest (fun i j => decide (ks j < ks i)) (xs.length - 1)]? = some y → Q y H3
    | _ => False) I h) fun us s1 hh => ?_) he hpl (by rfl) (by rfl)
  obtain ⟨vs, H1, I1, r1, q1⟩ := hh
  cases r1 with
  | nil => exact q1.elim
  | cons ru rn =>
    cases rn with
    | cons _ _ => exact q1.elim
    | nil =>
      obtain ⟨l, xs, ks, rfl, hl, hpos, hT, hk⟩ := q1
      obtain rfl := ru
      show wpAny _ _ (evalAll ((do let v ← eval (.Lambda params body scope lpos) X.env; standAt pos; pure v) :: [])) _ _ s1
      refine wpAny_evalAll_cons (wpAny_bind (lam_make2 I1 TB hcode hmT hu hT hdef (fun y hy e => (ndef_free hnd y hy e).elim (fun z => I1.ok.has _ (.inl z)) fun z => I1.ok.has _ (.inr z)) fun f c' pm ctv H2 s2 I2 eN T2 hf hfn hfr hco => wpAny_bind (wpAny_standAt (wpAny_pure (wpAny_evalAll_nil ?_)))))
      show wpAny _ _ (call (.builtin "max") [.ref l] [(Str.ofString "key", .ref f)]) _ _ s2
      refine call_max_walkK ?_
      have hl2 : H2 l = some (.lst xs) := eN l _ hl (fun ps z => nomatch z)
      obtain ⟨od, I3⟩ := I2.lock hl2 trivial
      have hlf : (upd H2 l (.frz od (.lst xs))) l = some (.frz od (.lst xs)) := upd_same
      have hfl : f ≠ l := fun z => by rw [z, hl2] at hfn; cases hfn
      have hff : (upd H2 l (.frz od (.lst xs))) f = none := by rw [upd_ne hfl]; exact hfn
      have hcf : (upd H2 l (.frz od (.lst xs))) c' = some (CodeO c' (X.env.qual ++ "<lambda>")) := by
        rw [upd_ne (fun z => by
          rw [z, hl2] at hco
          unfold CodeO at hco
          cases hco)]
        exact hco
      obtain ⟨hk1, hk2⟩ := hk od H2 eN T2
      have back : ∀ H3, Ex (upd H2 l (.frz od (.lst xs))) H3 → Ex H2 (upd H3 l (.lst xs)) := fun H3 e b o hb => by
        by_cases z : b = l
        · rw [z, hl2] at hb
          rw [z, upd_same]
          exact hb
        · rw [upd_ne z]
          exact e b o (by rw [upd_ne z]; exact hb)
      generalize upd H2 l (.frz od (.lst xs)) = Hf at I3 hlf hff hcf hk1 back
      obtain ⟨its, rx, pl, hz⟩ := I3.list (show SqL X.K Hf l xs from .inl (.inr ⟨od, hlf⟩))
      refine wpAny_pyIter_list pl.isList ?_
      have I4 : Inv X pins σ Hf { s2 with heap := s2.heap.push { cls := .type "list_iterator", data := .fields #[.ref l, .int 0 0] }, toks := s2.toks } := I3.kept fun b o e => Heap.get?_push_of_some _ e
      have hsz : (s2.heap.push { cls := .type "list_iterator", data := .fields #[.ref l, .int 0 0] }).objs.size = s2.heap.objs.size + 1 := Heap.size_push ..
      have hflt : f < s2.heap.objs.size := Heap.lt_size hf
      have hll : l < s2.heap.objs.size := by obtain ⟨o, ho, _⟩ := pl.isList; exact Heap.lt_size ho
      have hlen := rx.length
      refine ⟨s2.heap.objs.size, [s2.heap.objs.size, l], [s2.heap.objs.size], _, its.toArray.size, _, _, KJ X pins σ Hf f (lamO X params body scope pm c' ctv) (s2.heap.push { cls := .type "list_iterator", data := .fields #[.ref l, .int 0 0] }).objs.size s2.heap.objs.size, KVi ks, (fun i j => decide (ks j < ks i)), rfl,
        (Walks.list (A := X.A.in1) hr.hd s2.heap.objs.size l (Nat.ne_of_lt hll) its.toArray).toS, ⟨⟨_, Heap.get?_push_size _ rfl, rfl, rfl⟩, pl.isList.push _⟩, fun b hb => ?_, ?_, keyrunI hlf rx ?_ (Nat.ne_of_lt hflt) hr.in1 hcf NS (fun u => hbind _ _ _ _ _ u) (fun ok => Caps.made ok (ndef_free hnd) (ndef_fr hnd) hjs) hfr (fun s H => hbody f c' s H (hr.in1.deeper _)) hk1,
        ⟨Hf, I4, Ex.refl Hf, fun b o h => .inl h, I4.fpOk (Nat.le_refl _) (I4.hok.fresh (Nat.le_refl _)), I3.fpOk (Nat.le_refl _) (I3.hok.fresh (Nat.le_refl _)), hff, Heap.get?_push_of_some _ hf⟩, fun v s' hP hJ => ?_⟩
      · rcases List.mem_cons.mp hb with z | z
        · rw [z, hsz]; exact Nat.lt_succ_self _
        · rw [List.mem_singleton.mp z, hsz]; exact Nat.lt_succ_of_lt hll
      · show 0 < its.toArray.size
        rw [List.size_toArray, ← hlen]
        exact hpos
      · rw [hsz]
        exact Nat.ne_of_lt (Nat.lt_succ_of_lt hflt)
      · obtain ⟨H', I', e, _⟩ := hJ
        have J2 := I'.unlock (e l _ hlf) (I2.nofrz hl2 trivial)
        have hP : its.toArray[argBest (fun i j => decide (ks j < ks i)) (its.toArray.size - 1)]? = some v := hP
        rw [List.size_toArray, ← hlen, List.getElem?_toArray] at hP
        obtain ⟨y, hy⟩ : ∃ y, xs[argBest (fun i j => decide (ks j < ks i)) (xs.length - 1)]? = some y := ⟨_, List.getElem?_eq_getElem (Nat.lt_of_lt_of_eq (List.getElem?_eq_some_iff.mp hP).1 hlen.symm)⟩
        obtain ⟨u, hu', ru⟩ := rx.get hy
        rw [hP] at hu'
        cases hu'
        exact ⟨y, _, J2, ru, hk2 _ y (back _ e) hy⟩

end Su
namespace Su
/-! ### the told order, round by round -/
def foldB (f : Nat → Int) (x : Nat) (xs : List Nat) : Nat := xs.foldl (fun c y => if f y < f c then y else c) x
theorem foldB_mem (f : Nat → Int) : ∀ (xs : List Nat) (x : Nat), foldB f x xs ∈ x :: xs
  | [], x => List.mem_cons_self
  | y :: ys, x => by
    have h := foldB_mem f ys (if f y < f x then y else x)
    show foldB f (if f y < f x then y else x) ys ∈ _
    rcases List.mem_cons.mp h with h | h
    · rw [h]
      split
      · exact List.mem_cons_of_mem _ List.mem_cons_self
      · exact List.mem_cons_self
    · exact List.mem_cons_of_mem _ (List.mem_cons_of_mem _ h)
theorem foldB_le (f : Nat → Int) : ∀ (xs : List Nat) (x : Nat), f (foldB f x xs) ≤ f x ∧ ∀ y ∈ xs, f (foldB f x xs) ≤ f y
  | [], x => ⟨Int.le_refl _, fun _ h => absurd h List.not_mem_nil⟩
  | y :: ys, x => by
    obtain ⟨h1, h2⟩ := foldB_le f ys (if f y < f x then y else x)
    show f (foldB f (if f y < f x then y else x) ys) ≤ _ ∧ ∀ z ∈ y :: ys, f (foldB f (if f y < f x then y else x) ys) ≤ _
    refine ⟨?_, fun z hz => ?_⟩
    · split at h1 <;> rename_i c <;> simp only [c, if_true, if_false] <;> omega
    · rcases List.mem_cons.mp hz with rfl | hz
      · split at h1 <;> rename_i c <;> simp only [c, if_true, if_false] <;> omega
      · exact h2 z hz
theorem foldB_first (f : Nat → Int) : ∀ (xs : List Nat) (x : Nat), ((x :: xs).filter fun y => decide (f y = f (foldB f x xs))).head? = some (foldB f x xs)
  | [], x => by
    show ([x].filter fun y => decide (f y = f x)).head? = some x
    rw [List.filter_cons, if_pos (by simp)]
    rfl
  | y :: ys, x => by
    have h := foldB_first f ys (if f y < f x then y else x)
    have le := foldB_le f ys (if f y < f x then y else x)
    show ((x :: y :: ys).filter fun z => decide (f z = f (foldB f (if f y < f x then y else x) ys))).head? = some (foldB f (if f y < f x then y else x) ys)
    generalize foldB f (if f y < f x then y else x) ys = b at h le ⊢
    by_cases c : f y < f x
    · rw [if_pos c] at h le
      rw [List.filter_cons, if_neg (by simp; omega)]
      exact h
    · rw [if_neg c] at h le
      rw [List.filter_cons] at h ⊢
      by_cases e : f x = f b
      · rw [if_pos (by simpa using e)] at h ⊢
        exact h
      · rw [if_neg (by simpa using e)] at h ⊢
        rw [List.filter_cons, if_neg (by simp; omega)]
        exact h
theorem foldB_snoc (f : Nat → Int) (x : Nat) (xs : List Nat) (y : Nat) : foldB f x (xs ++ [y]) = if f y < f (foldB f x xs) then y else foldB f x xs := by
  unfold foldB
  rw [List.foldl_append]
  rfl
/-- the keys of min's lambda: the window's last round, then its number -/
def tk (f : Nat → Int) (xs : List Nat) (i : Nat) : List Int := [f (xs.getD i 0), (xs.getD i 0 : Nat)]
theorem tk_lt {f : Nat → Int} {xs : List Nat} {i j : Nat} {a b : Nat} (ha : xs[i]? = some a) (hb : xs[j]? = some b) (h : b < a) : HT.lexLt (tk f xs i) (tk f xs j) = decide (f a < f b) := by
  have e1 : xs.getD i 0 = a := by rw [List.getD_eq_getElem?_getD, ha]; rfl
  have e2 : xs.getD j 0 = b := by rw [List.getD_eq_getElem?_getD, hb]; rfl
  unfold tk
  rw [e1, e2, HT.lexLt_cons, HT.lexLt_cons]
  by_cases c : f a = f b
  · rw [if_pos c, if_neg (by omega), decide_eq_false (by omega), decide_eq_false (by omega)]
  · rw [if_neg c]
theorem arg_fold {f : Nat → Int} {x : Nat} {xs : List Nat} (hp : (x :: xs).Pairwise (· < ·)) : ∀ j ≤ xs.length, (x :: xs)[argBest (fun i j => HT.lexLt (tk f (x :: xs) i) (tk f (x :: xs) j)) j]? = some (foldB f x (xs.take j)) ∧ argBest (fun i j => HT.lexLt (tk f (x :: xs) i) (tk f (x :: xs) j)) j ≤ j
  | 0, _ => ⟨rfl, Nat.le_refl _⟩
  | j + 1, hj => by
    obtain ⟨ih, il⟩ := arg_fold (f := f) hp j (by omega)
    have gy : (x :: xs)[j + 1]? = some xs[j] := by rw [List.getElem?_cons_succ, List.getElem?_eq_getElem (by omega)]
    have et : xs.take (j + 1) = xs.take j ++ [xs[j]] := by rw [List.take_add_one, List.getElem?_eq_getElem (by omega)]; rfl
    have lt : foldB f x (xs.take j) < xs[j] := by
      have := List.pairwise_iff_getElem.mp hp (argBest (fun i j => HT.lexLt (tk f (x :: xs) i) (tk f (x :: xs) j)) j) (j + 1) (by rw [List.length_cons]; omega) (by rw [List.length_cons]; omega) (by omega)
      rw [List.getElem?_eq_getElem (by rw [List.length_cons]; omega)] at ih gy
      rw [Option.some.inj ih, Option.some.inj gy] at this
      exact this
    have ek := tk_lt (f := f) gy ih lt
    rw [et, foldB_snoc]
    show (x :: xs)[if HT.lexLt (tk f (x :: xs) (j + 1)) (tk f (x :: xs) (argBest (fun i j => HT.lexLt (tk f (x :: xs) i) (tk f (x :: xs) j)) j)) = true then j + 1 else argBest (fun i j => HT.lexLt (tk f (x :: xs) i) (tk f (x :: xs) j)) j]? = _ ∧ (if HT.lexLt (tk f (x :: xs) (j + 1)) (tk f (x :: xs) (argBest (fun i j => HT.lexLt (tk f (x :: xs) i) (tk f (x :: xs) j)) j)) = true then j + 1 else argBest (fun i j => HT.lexLt (tk f (x :: xs) i) (tk f (x :: xs) j)) j) ≤ _
    rw [ek]
    by_cases c : f xs[j] < f (foldB f x (xs.take j))
    · rw [if_pos (decide_eq_true c), if_pos c]
      exact ⟨gy, Nat.le_refl _⟩
    · rw [if_neg (by simpa using c), if_neg c]
      exact ⟨ih, by omega⟩
def bestI (f : Nat → Int) : List Nat → Nat
  | [] => 0
  | x :: xs => foldB f x xs
theorem arg_best {f : Nat → Int} {xs : List Nat} (h : xs ≠ []) (hp : xs.Pairwise (· < ·)) : xs[argBest (fun i j => HT.lexLt (tk f xs i) (tk f xs j)) (xs.length - 1)]? = some (bestI f xs) := by
  cases xs with
  | nil => exact absurd rfl h
  | cons x xs =>
    have := (arg_fold (f := f) hp xs.length (Nat.le_refl _)).1
    rw [List.take_length] at this
    exact this
theorem best_mem {f : Nat → Int} {xs : List Nat} (h : xs ≠ []) : bestI f xs ∈ xs := by
  cases xs with
  | nil => exact absurd rfl h
  | cons x xs => exact foldB_mem f xs x
theorem best_le {f : Nat → Int} {xs : List Nat} {y : Nat} (h : y ∈ xs) : f (bestI f xs) ≤ f y := by
  cases xs with
  | nil => exact absurd h List.not_mem_nil
  | cons x xs =>
    rcases List.mem_cons.mp h with rfl | h
    · exact (foldB_le f xs y).1
    · exact (foldB_le f xs x).2 y h
theorem best_first {f : Nat → Int} {xs : List Nat} (h : xs ≠ []) : (xs.filter fun y => decide (f y = f (bestI f xs))).head? = some (bestI f xs) := by
  cases xs with
  | nil => exact absurd rfl h
  | cons x xs => exact foldB_first f xs x
def firstI (ws : List (Int × Int)) (i : Nat) : Int := match ws[i]? with
  | some w => w.1
  | none => 0
def lastI (ws : List (Int × Int)) (i : Nat) : Int := match ws[i]? with
  | some w => w.2
  | none => 0
def freeI (n : Nat) (row : List Nat) : List Nat := (List.range n).filter fun i => !row.contains i
def rdyI (ws : List (Int × Int)) (row : List Nat) (t : Int) : List Nat := (freeI ws.length row).filter fun i => decide (firstI ws i ≤ t)
def greedy (ws : List (Int × Int)) : Nat → Option (List Nat)
  | 0 => some []
  | t + 1 => match greedy ws t with
    | none => none
    | some row => if rdyI ws row ((t : Int) + 1) = [] then none else if lastI ws (bestI (lastI ws) (rdyI ws row ((t : Int) + 1))) < (t : Int) + 1 then none else some (row ++ [bestI (lastI ws) (rdyI ws row ((t : Int) + 1))])
theorem greedy_none {ws : List (Int × Int)} {t : Nat} (h : greedy ws t = none) : ∀ k, greedy ws (t + k) = none
  | 0 => h
  | k + 1 => by
    show (match greedy ws (t + k) with
      | none => none
      | some row => _) = none
    rw [greedy_none h k]
theorem greedy_none' {ws : List (Int × Int)} {t n : Nat} (h : greedy ws t = none) (hn : t ≤ n) : greedy ws n = none := by
  obtain ⟨k, rfl⟩ := Nat.exists_eq_add_of_le hn
  exact greedy_none h k
theorem greedy_empty {ws : List (Int × Int)} {t : Nat} {row : List Nat} (h : greedy ws t = some row) (e : rdyI ws row ((t : Int) + 1) = []) : greedy ws (t + 1) = none := by
  show (match greedy ws t with
    | none => none
    | some row => _) = none
  rw [h]
  exact if_pos e
theorem greedy_late {ws : List (Int × Int)} {t : Nat} {row : List Nat} (h : greedy ws t = some row) (e : rdyI ws row ((t : Int) + 1) ≠ []) (l : lastI ws (bestI (lastI ws) (rdyI ws row ((t : Int) + 1))) < (t : Int) + 1) : greedy ws (t + 1) = none := by
  show (match greedy ws t with
    | none => none
    | some row => _) = none
  rw [h]
  exact (if_neg e).trans (if_pos l)
theorem greedy_step {ws : List (Int × Int)} {t : Nat} {row : List Nat} (h : greedy ws t = some row) (e : rdyI ws row ((t : Int) + 1) ≠ []) (l : ¬ lastI ws (bestI (lastI ws) (rdyI ws row ((t : Int) + 1))) < (t : Int) + 1) : greedy ws (t + 1) = some (row ++ [bestI (lastI ws) (rdyI ws row ((t : Int) + 1))]) := by
  show (match greedy ws t with
    | none => none
    | some row => _) = _
  rw [h]
  exact (if_neg e).trans (if_neg l)
theorem free_inc (n : Nat) (row : List Nat) : (freeI n row).Pairwise (· < ·) := List.Pairwise.filter _ List.pairwise_lt_range
theorem rdy_inc (ws : List (Int × Int)) (row : List Nat) (t : Int) : (rdyI ws row t).Pairwise (· < ·) := List.Pairwise.filter _ (free_inc _ _)
theorem free_lt {n : Nat} {row : List Nat} {i : Nat} (h : i ∈ freeI n row) : i < n := List.mem_range.mp (List.mem_filter.mp h).1
theorem free_len (n : Nat) (row : List Nat) : (freeI n row).length ≤ n := by
  have h := List.length_filter_le (fun i => !row.contains i) (List.range n)
  rw [List.length_range] at h
  exact h
theorem rdy_len (ws : List (Int × Int)) (row : List Nat) (t : Int) : (rdyI ws row t).length ≤ ws.length := Nat.le_trans (List.length_filter_le _ _) (free_len _ _)
theorem free_nil (n : Nat) : freeI n [] = List.range n := by
  unfold freeI
  exact List.filter_eq_self.mpr fun i _ => rfl
theorem free_add (n : Nat) (row : List Nat) (c : Nat) : freeI n (row ++ [c]) = (freeI n row).filter fun i => decide (i ≠ c) := by
  unfold freeI
  rw [List.filter_filter]
  refine List.filter_congr fun i _ => ?_
  by_cases h1 : i ∈ row <;> by_cases h2 : i = c <;> simp [h1, h2]
theorem erase_ne : ∀ {xs : List Nat} {j c : Nat}, xs.Pairwise (· < ·) → xs[j]? = some c → xs.eraseIdx j = xs.filter fun i => decide (i ≠ c)
  | x :: xs, 0, c, h, e => by
    obtain rfl : x = c := by simpa using e
    rw [List.eraseIdx_cons_zero, List.filter_cons, if_neg (by simp)]
    refine (List.filter_eq_self.mpr fun i hi => ?_).symm
    have := (List.pairwise_cons.mp h).1 i hi
    exact decide_eq_true (by omega)
  | x :: xs, j + 1, c, h, e => by
    have e' : xs[j]? = some c := by simpa using e
    have := (List.pairwise_cons.mp h).1 c (List.mem_of_getElem? e')
    rw [List.eraseIdx_cons_succ, List.filter_cons, if_pos (by simp; omega), erase_ne (List.pairwise_cons.mp h).2 e']
  | [], j, c, h, e => by simp at e
theorem inc_first {xs : List Nat} {j c m : Nat} (h : xs.Pairwise (· < ·)) (e : xs[j]? = some c) (hm : m < j) : xs[m]? ≠ some c := fun z => by
  have hj := (List.getElem?_eq_some_iff.mp e).1
  have hmm := (List.getElem?_eq_some_iff.mp z).1
  have := List.pairwise_iff_getElem.mp h m j hmm hj hm
  rw [List.getElem?_eq_getElem hj] at e
  rw [List.getElem?_eq_getElem hmm] at z
  rw [Option.some.inj e, Option.some.inj z] at this
  omega
theorem natI_erase (xs : List Nat) (j : Nat) : (natI xs).eraseIdx j = natI (xs.eraseIdx j) := by
  unfold natI
  induction xs generalizing j with
  | nil => rfl
  | cons x xs ih =>
    cases j with
    | zero => rfl
    | succ j => rw [List.map_cons, List.eraseIdx_cons_succ, List.eraseIdx_cons_succ, List.map_cons, ih]
theorem natI_some {xs : List Nat} {j c : Nat} (h : xs[j]? = some c) : (natI xs)[j]? = some (c : Int) := by unfold natI; rw [List.getElem?_map, h]; rfl
theorem natI_not {xs : List Nat} {j c : Nat} (h : xs[j]? ≠ some c) : (natI xs)[j]? ≠ some (c : Int) := fun z => by
  unfold natI at z
  rw [List.getElem?_map] at z
  cases hc : xs[j]? with
  | none => rw [hc] at z; cases z
  | some d =>
    rw [hc] at z
    have : (d : Int) = (c : Int) := Option.some.inj z
    exact h (by rw [hc, show d = c by omega])

end Su
namespace Su
/-! ### along the making of a lambda: all but the tables stay -/
theorem TW.exN {H H' : Hp} {qs : List Win} (h : TW H qs) (e : LamX.ExtN H H') : TW H' qs := fun q hq => e _ _ (h q hq) fun _ z => nomatch z
theorem exN_l {H H' : Hp} {p : Addr} {xs : List V} (e : LamX.ExtN H H') (h : H p = some (.lst xs)) : H' p = some (.lst xs) := e _ _ h fun _ z => nomatch z
theorem exN_of {H H' : Hp} (e : Ex H H') : LamX.ExtN H H' := LamX.ExtN.of e
theorem exN_up {H0 H : Hp} {p : Addr} {o : HO} (e : LamX.ExtN H0 H) (hp : ∀ o, H0 p = some o → ∃ ps, o = .tbl ps) : LamX.ExtN H0 (upd H p o) := fun b o' h n => by
  by_cases z : b = p
  · rw [z] at h
    obtain ⟨ps, rfl⟩ := hp _ h
    exact absurd rfl (n ps)
  · rw [upd_ne z]
    exact e b o' h n
theorem tabs_upd {T : List (Addr × Str)} {H : Hp} {p : Addr} {xs ys : List V} (t : LamX.Tabs T H) (hp : H p = some (.lst xs)) : LamX.Tabs T (upd H p (.lst ys)) := fun q hq => by
  obtain ⟨ps, h1, h2, h3⟩ := t q hq
  have n1 : q.1 ≠ p := fun z => by rw [z, hp] at h1; cases h1
  refine ⟨ps, by rw [upd_ne n1]; exact h1, h2, fun pos cv hc => ?_⟩
  obtain ⟨c, e1, e2⟩ := h3 pos cv hc
  refine ⟨c, e1, ?_⟩
  rw [upd_ne (fun z => by rw [z, hp] at e2; unfold LamX.CodeO at e2; cases e2)]
  exact e2
theorem q_minT {T : List (Addr × Str)} {N : List Str} {js : List Nat} {te tb : TE} {σ : L2.St} {H : Hp} {i : Nat} {D : Ends} {tz : TS} {l : Addr} {xs : List V} (ks : Nat → List Int) (h : Ev te σ H (.ref l)) (hl : H l = some (.lst xs)) (hpos : 0 < xs.length) (hT : LamX.Tabs T H)
    (hk : ∀ Hf, (∀ b o, H b = some o → (∀ ps, o ≠ .tbl ps) → b ≠ l → Hf b = some o) → ∀ i x, xs[i]? = some x → EvU tb (NdefX.startF N [x] (js.map (NdefX.slotAt σ))) Hf ((ks i).map V.int))
    (k : ∀ H3 y, LamX.ExtN H H3 → LamX.Tabs T H3 → xs[argBest (fun i j => HT.lexLt (ks i) (ks j)) (xs.length - 1)]? = some y → tz D (σ.set i (some y)) H3) : tSeq (tAsg (tMinT T N js te tb) (gName i)) tz D σ H :=
  h H (Ex.refl H) _ fun H1 e1 => ⟨l, xs, ks, rfl, e1 _ _ hl, hpos, hT.ext e1, fun od H2 eN T2 => ⟨fun j x hx => hk (upd H2 l (.frz od (.lst xs))) (fun b o hb hn hne => by
    rw [upd_ne hne]
    exact eN b o (e1 b o hb) hn) j x hx, fun H3 y e3 hy => k H3 y (((exN_of e1).trans eN).trans (exN_of e3)) (T2.ext e3) hy⟩⟩
theorem s_retMaxI {T : List (Addr × Str)} {N : List Str} {js : List Nat} {te tb : TE} {σ : L2.St} {H : Hp} {D : Ends} {l : Addr} {xs : List V} (ks : Nat → Int) (h : Ev te σ H (.ref l)) (hl : H l = some (.lst xs)) (hpos : 0 < xs.length) (hT : LamX.Tabs T H)
    (hk : ∀ Hf, (∀ b o, H b = some o → (∀ ps, o ≠ .tbl ps) → b ≠ l → Hf b = some o) → ∀ i x, xs[i]? = some x → Ev tb (NdefX.startF N [x] (js.map (NdefX.slotAt σ))) Hf (.int (ks i)))
    (k : ∀ H3 y, LamX.ExtN H H3 → LamX.Tabs T H3 → xs[argBest (fun i j => decide (ks j < ks i)) (xs.length - 1)]? = some y → D.rt y H3) : tRet (tMaxI T N js te tb) D σ H :=
  h H (Ex.refl H) _ fun H1 e1 => ⟨l, xs, ks, rfl, e1 _ _ hl, hpos, hT.ext e1, fun od H2 eN T2 => ⟨fun j x hx => hk (upd H2 l (.frz od (.lst xs))) (fun b o hb hn hne => by
    rw [upd_ne hne]
    exact eN b o (e1 b o hb) hn) j x hx, fun H3 y e3 hy => k H3 y (((exN_of e1).trans eN).trans (exN_of e3)) (T2.ext e3) hy⟩⟩
theorem s_remove {ta tb : TE} {K : PySem.W.Frag} {σ : L2.St} {H : Hp} {l : Addr} {xs : List Nat} {c j : Nat} {D : Ends} (hl : H l = some (.lst ((natI xs).map V.int))) (ha : Ev ta σ H (.ref l)) (hb : Ev tb σ H (.int (c : Int))) (hp : xs.Pairwise (· < ·)) (hj : xs[j]? = some c)
    (k : ∀ H1, Ex H H1 → D.nx σ (upd H1 l (.lst ((natI (xs.filter fun i => decide (i ≠ c))).map V.int)))) : tDrop (tBM K "list" rRemI ta (tCons tb tNil)) D σ H := ha H (Ex.refl H) _ fun H1 e1 =>
  ⟨Or.inl ⟨rfl, _, sq_of (e1 l _ hl)⟩, hb H1 e1 _ fun H2 e2 => ⟨l, natI xs, (c : Int), j, rfl, rfl, e2 _ _ (e1 _ _ hl), natI_some hj, fun m hm => natI_not (inc_first hp hj hm), by
    rw [natI_erase, erase_ne hp hj]
    exact k H2 (e1.trans e2)⟩⟩
theorem tru_l {K : PySem.W.Frag} {H : Hp} {te : TE} {σ : L2.St} {p : Addr} {xs : List V} (h : Ev te σ H (.ref p)) (hl : H p = some (.lst xs)) : EvT (fun σ H Q => te σ H fun x H' => ∃ k, TruV K x H' k ∧ Q k H') σ H (!xs.isEmpty) := fun H1 e1 Q q =>
  h H1 e1 _ fun H2 e2 => ⟨_, .inl ⟨xs, sq_of ((e1.trans e2) _ _ hl), rfl⟩, q H2 e2⟩

end Su
namespace Su
/-! ### told_order -/
open LamX in
section
variable {P : Program} {w : World} {K : PySem.W.Frag} {mg : Str → Option Value} {base : Heap}
def spTold (T : List (Addr × Str)) : Sp := fun vs H Q _ => ∃ (l : Addr) (qs : List Win), vs = [.ref l] ∧ H l = some (.lst (refs qs)) ∧ TW H qs ∧ qs.length ≤ 1000 ∧ LamX.Tabs T H ∧
  (∀ H', greedy (wsOf qs) qs.length = none → LamX.ExtN H H' → LamX.Tabs T H' → Q .non H') ∧
  ∀ row H' p, greedy (wsOf qs) qs.length = some row → H p = none → LamX.ExtN H H' → LamX.Tabs T H' → H' p = some (.lst ((natI row).map V.int)) → Q (.ref p) H'
theorem win_first {qs : List Win} {i : Nat} {q : Win} (h : qs[i]? = some q) : firstI (wsOf qs) i = q.2.1 := by unfold firstI; rw [ws_at h]
theorem win_last {qs : List Win} {i : Nat} {q : Win} (h : qs[i]? = some q) : lastI (wsOf qs) i = q.2.2 := by unfold lastI; rw [ws_at h]
theorem ok_told_order {f : Addr} {fd : FuncData} (T : Top K mg) (F : FunC K "told_order" "told_order" s_told_order f fd T.c_told_order) (TB_told_order : LamX.TabB base mg T.c_told_order T.P_told_order) : FnOk P w K mg base CX0 3 f fd ["windows"] (spTold T.tabs) := by
  have nd := sc_told_order.nd
  refine F.ok sc_told_order (fun vs H Q E h => ?_) (fun A outer s H vs Q E hr h => ?_)
  · obtain ⟨l, qs, rfl, _⟩ := h
    rfl
  · obtain ⟨l, qs, rfl, hl, ht, hn, hT, qN, qS⟩ := h
    refine ⟨_, (pss_cons (ps_set (i := 1) nd rfl (.inl rfl) (pe_listRg rfl (by rfl) T.m_list (prg_1 (by rfl) T.m_range (pe_callB call_len_seq (by rfl) T.m_len PySem.boot_len (pa_cons (pv 0) pa_nil)))))
      (pss_cons (ps_set (i := 2) nd rfl (.inl rfl) (pe_lst pa_nil))
      (pss_cons (ps_for PassesOwn.never rfl (pi_range2 rfl T.m_range (pa_cons pe_int (pa_cons (pe_op op_add (pe_callB call_len_seq (by rfl) T.m_len PySem.boot_len (pa_cons (pv 0) pa_nil)) pe_int) pa_nil))) (pg_name (i := 3) nd rfl (.inr rfl))
        (pss_cons (ps_setLc (i := 4) (own := [("at", 6)]) (g := gName 6) (tt := _) rfl nd rfl rfl (sw_true rfl rfl rfl (by decide +kernel)) (pi_list (pv 1)) (blkOk_by (own := [("at", 6)]) (N := Su.N_told_order) (sc := defScope s_told_order) (by decide +kernel)) (fun _ _ _ _ _ => (pg_name (i := 6) nd rfl (.inl rfl))) (fun _ _ _ _ _ => (pts_one (pt_cmpR op_le (pe_ix (ix_tupK (K := K) rfl) (pe_ix (ix_listK (K := K) rfl) (pv 0) (pv 6) (fun _ _ => rfl)) pe_int (fun _ _ => rfl)) (pv 3) (nomark _)))) (fun _ _ _ _ _ => (pv 6)))
          (pss_cons (ps_if (pt_not (pt_truth (pv 4) (fun _ => rfl)))
            (pss_one (ps_ret pe_non))
            pss_nil)
          (pss_cons (ps_set (i := 5) nd rfl (.inl rfl) (pe_minT (T := T.tabs) (c := T.c_told_order) (P := T.P_told_order) (k := 0) (kx := "k") (N := ["k", "windows"]) (fr := ["windows"]) (js := [0]) TB_told_order rfl T.hm_told_order T.hu_told_order (by rfl) T.m_min (hr.mono (by decide)) (pa_cons (pv 4) pa_nil) (NdefX.nscope_by (by decide +kernel)) (by rfl) (by rfl) (fun f c' s H hr2 => (pe_tup (pa_cons (pe_ix (ix_tupK (K := K) rfl) (pe_ix (ix_listK (K := K) rfl) (pv 1) (pv 0) (fun _ _ => rfl)) pe_int (fun _ _ => rfl)) (pa_cons (pv 0) pa_nil))))))
          (pss_cons (ps_if (pt_cmpR op_lt (pe_ix ix_tup (pe_ix ix_list (pv 0) (pv 5) (fun _ _ => rfl)) pe_int (fun _ _ => rfl)) (pv 3) (nomark _))
            (pss_one (ps_ret pe_non))
            pss_nil)
          (pss_cons (ps_expr (pe_bm PySem.F.plainAttrs_list PySem.F.slot_list_remove PySem.F.type_list_remove mt_remove (pv 1) (pa_cons (pv 5) pa_nil)))
          (pss_one (ps_expr (pe_bm PySem.F.plainAttrs_list PySem.F.slot_list_append PySem.F.type_list_append mt_append (pv 2) (pa_cons (pv 5) pa_nil))))))))))
      (pss_one (ps_ret (pv 2)))))), ?_⟩
    refine q_asgL (el_rgI (n := qs.length) (ev_is (ev_len (ev_var rfl) (sq_of hl)) (by rw [refs_len])) (by omega)) fun pf H1 hpf e1 h1 => ?_
    refine q_asgL (el_lst ea_nil (by decide)) fun pr H2 hpr e2 h2 => ?_
    have ex2 := e1.trans e2
    refine q_forR2 (lo := 1) (n := (qs.length : Int) + 1) (ea_cons ev_c (ea_cons (ev_op (ev_is (ev_len (ev_var rfl) (sq_of (ex2 _ _ hl))) (by rw [refs_len])) ev_c rv_I0) ea_nil)) ⟨by omega, by omega, by omega, by omega⟩
      (fun i σ' H' => ∃ (row : List Nat) (y3 y4 y5 y6 : Option V), σ' = [some (.ref l), some (.ref pf), some (.ref pr), y3, y4, y5, y6] ∧ greedy (wsOf qs) i = some row ∧ LamX.ExtN H H' ∧ LamX.Tabs T.tabs H' ∧ H' pf = some (.lst ((natI (freeI qs.length row)).map V.int)) ∧ H' pr = some (.lst ((natI row).map V.int)) ∧ row.length = i) ?_ ?_ ?_
    · intro H3 e3
      refine ⟨[], none, none, none, none, rfl, rfl, exN_of (ex2.trans e3), hT.ext (ex2.trans e3), ?_, e3 _ _ h2, rfl⟩
      rw [free_nil]
      exact e3 _ _ (e2 _ _ h1)
    · rintro i σ' H3 hi ⟨row, y3, y4, y5, y6, rfl, hg, eN, hT3, hf3, hr3, hri⟩
      have hl3 := exN_l eN hl
      have ht3 := ht.exN eN
      have hp0 : ∀ o, H pf = some o → ∃ ps, o = .tbl ps := fun o z => by rw [hpf] at z; cases z
      have hp1 : ∀ o, H pr = some o → ∃ ps, o = .tbl ps := fun o z => by rw [fresh_back e1 hpr] at z; cases z
      have npr : pr ≠ pf := fun z => by rw [z, h1] at hpr; cases hpr
      have hfl := free_len qs.length row
      have ti : (1 : Int) + (i : Int) = (i : Int) + 1 := by omega
      rw [ti]
      refine q_asgL (xs := (natI (rdyI (wsOf qs) row ((i : Int) + 1))).map V.int) ?_ fun py H4 hpy e4 h4 => ?_
      · rw [natI_int, show rdyI (wsOf qs) row ((i : Int) + 1) = (freeI qs.length row).filter (fun k => decide (firstI (wsOf qs) k ≤ (i : Int) + 1)) from by unfold rdyI; rw [ws_len], ← nat_given, show (freeI qs.length row).length = ((natI (freeI qs.length row)).map V.int).length by rw [List.length_map, natI_len]]
        refine el_lcL _ _ (ev_var rfl) (sq_of hf3) (by rw [List.length_map, natI_len]; omega) (fun x => rfl) (fun j x Hb eb gx => ?_) (fun j x Hb eb gx _ => ?_)
        · obtain ⟨k, rfl, gk, ek⟩ := nat_at gx
          have hk := free_lt (List.mem_of_getElem? gk)
          obtain ⟨w, gw⟩ : ∃ w, qs[k]? = some w := ⟨_, List.getElem?_eq_getElem hk⟩
          have hw := ht3.ex eb w (List.mem_of_getElem? gw)
          rw [ek, win_first gw]
          exact et_test (ev_op (ev_w0 (ev_win (ev_var rfl) (ev_var rfl) (sq_of (eb _ _ hl3)) gw) hw) (ev_var rfl) rv_I0)
        · obtain ⟨k, rfl, gk, ek⟩ := nat_at gx
          rw [ek]
          exact ev_var rfl
      refine q_when (et_not (tru_l (ev_var rfl) h4)) (fun hb H5 e5 => ?_) (fun hb H5 e5 => ?_)
      · have em : rdyI (wsOf qs) row ((i : Int) + 1) = [] := by
          cases hc : rdyI (wsOf qs) row ((i : Int) + 1) with
          | nil => rfl
          | cons x xs => rw [hc] at hb; cases hb
        have ng := greedy_none' (greedy_empty hg em) (n := qs.length) (by omega)
        refine s_ret ev_c fun H6 e6 => ?_
        have e36 := (e4.trans e5).trans e6
        exact qN H6 ng (eN.trans (exN_of e36)) (hT3.ext e36)
      · have ne : rdyI (wsOf qs) row ((i : Int) + 1) ≠ [] := fun z => by rw [z] at hb; cases hb
        have hT5 := hT3.ext (e4.trans e5)
        have h45 := e5 _ _ h4
        have hl5 := (e4.trans e5) _ _ hl3
        have ht5 := ht3.ex (e4.trans e5)
        have hly : l ≠ py := fun z => by rw [z] at hl3; rw [hpy] at hl3; cases hl3
        have hlen : ((natI (rdyI (wsOf qs) row ((i : Int) + 1))).map V.int).length = (rdyI (wsOf qs) row ((i : Int) + 1)).length := by rw [List.length_map, natI_len]
        have hpos : 0 < (rdyI (wsOf qs) row ((i : Int) + 1)).length := List.length_pos_iff.mpr ne
        refine q_minT (tk (lastI (wsOf qs)) (rdyI (wsOf qs) row ((i : Int) + 1))) (ev_var rfl) h45 (by rw [hlen]; exact hpos) hT5 (fun Hf hHf j x gx => ?_) fun H6 y e6 T6 hy => ?_
        · obtain ⟨k, rfl, gk, ek⟩ := nat_at gx
          have hk := free_lt (List.mem_filter.mp (List.mem_of_getElem? gk)).1
          rw [ws_len] at hk
          obtain ⟨w, gw⟩ : ∃ w, qs[k]? = some w := ⟨_, List.getElem?_eq_getElem hk⟩
          have hw := hHf _ _ (ht5 w (List.mem_of_getElem? gw)) (fun _ z => nomatch z) (fun z => by have := ht5 w (List.mem_of_getElem? gw); rw [z, h45] at this; cases this)
          have hlf := hHf _ _ hl5 (fun _ z => nomatch z) hly
          have hkk : (tk (lastI (wsOf qs)) (rdyI (wsOf qs) row ((i : Int) + 1)) j).map V.int = [V.int w.2.2, .int (k : Int)] := by
            unfold tk
            rw [ek, win_last gw]
            rfl
          rw [hkk]
          exact eu_tup (ea_cons (ev_w1 (ev_win (ev_var rfl) (ev_var rfl) (sq_of hlf) gw) hw) (ea_cons (ev_var rfl) ea_nil)) (by show 2 ≤ 100000; decide)
        · rw [hlen] at hy
          have hb6 := arg_best (f := lastI (wsOf qs)) ne (rdy_inc (wsOf qs) row ((i : Int) + 1))
          obtain ⟨c', rfl, gc, _⟩ := nat_at hy
          obtain rfl : c' = bestI (lastI (wsOf qs)) (rdyI (wsOf qs) row ((i : Int) + 1)) := Option.some.inj (gc.symm.trans hb6)
          have hbm := best_mem (f := lastI (wsOf qs)) ne
          have hfre := (List.mem_filter.mp hbm).1
          have hk := free_lt hfre
          rw [ws_len] at hk hfre
          have hg0 := fun z => greedy_none' (greedy_late hg ne z) (n := qs.length) (by omega)
          have hg1 := greedy_step hg ne
          generalize bestI (lastI (wsOf qs)) (rdyI (wsOf qs) row ((i : Int) + 1)) = c at hk hfre hg0 hg1 ⊢
          obtain ⟨w, gw⟩ : ∃ w, qs[c]? = some w := ⟨_, List.getElem?_eq_getElem hk⟩
          have eN6 := (exN_of (e4.trans e5)).trans e6
          have hl6 := exN_l eN6 hl3
          have ht6 := ht3.exN eN6
          have hf6 := exN_l eN6 hf3
          have hr6 := exN_l eN6 hr3
          have hw := ht6 w (List.mem_of_getElem? gw)
          rw [win_last gw] at hg0 hg1
          refine q_when (et_test (ev_op (ev_w1 (ev_win (ev_var rfl) (ev_var rfl) (sq_of hl6) gw) hw) (ev_var rfl) rv_I0)) (fun hb H7 e7 => ?_) (fun hb H7 e7 => ?_)
          · refine s_ret ev_c fun H8 e8 => ?_
            exact qN H8 (hg0 (of_decide_eq_true hb)) ((eN.trans eN6).trans (exN_of (e7.trans e8))) (T6.ext (e7.trans e8))
          · obtain ⟨j, gj⟩ := List.getElem?_of_mem hfre
            refine s_remove (e7 _ _ hf6) (ev_var rfl) (ev_var rfl) (free_inc _ _) gj fun H8 e8 => ?_
            have e68 := e7.trans e8
            refine s_app (l := pr) (xs := (natI row).map V.int) (by rw [upd_ne npr]; exact e68 _ _ hr6) (ev_var rfl) (ev_var rfl) (by rw [List.length_map, natI_len]; omega) fun H9 e9 => ?_
            refine ⟨row ++ [c], _, _, _, _, rfl, hg1 (of_decide_eq_false hb), ?_, ?_, ?_, ?_, by rw [List.length_append, hri]; rfl⟩
            · refine exN_up ?_ hp1
              exact (exN_up ((eN.trans eN6).trans (exN_of e68)) hp0).trans (exN_of e9)
            · refine tabs_upd ?_ (e9 _ _ (by rw [upd_ne npr]; exact e68 _ _ hr6))
              exact (tabs_upd (T6.ext e68) (e68 _ _ hf6)).ext e9
            · rw [upd_ne npr.symm, free_add]
              exact e9 _ _ upd_same
            · rw [upd_same]
              unfold natI
              rw [List.map_append, List.map_append]
              rfl
    · rintro σ' H3 ⟨row, y3, y4, y5, y6, rfl, hg, eN, hT3, hf3, hr3, hri⟩
      rw [show ((qs.length : Int) + 1 - 1).toNat = qs.length by omega] at hg
      refine s_ret (ev_var rfl) fun H4 e4 => ?_
      exact qS row H4 pr hg (fresh_back e1 hpr) (eN.trans (exN_of e4)) (hT3.ext e4) (e4 _ _ hr3)
end

end Su
namespace Su
/-! ### surplus, fullest_span -/
def surp (ws : List (Int × Int)) (a b : Int) : Int := ((inside ws a b).length : Int) - roundsB a b
def turnsI (n : Nat) : List Int := (List.range n).map fun i : Nat => (1 : Int) + (i : Int)
theorem el_turns {σ : L2.St} {H : Hp} {ta tb : TE} {n : Nat} (ha : Ev ta σ H (.int 1)) (hb : Ev tb σ H (.int ((n : Int) + 1))) (hn : n ≤ 16000000) : EvL (tLstRg (tRg2 ta tb)) σ H ((turnsI n).map V.int) := fun H0 e Q q =>
  ha H0 e _ fun H1 e1 => hb H1 (e.trans e1) _ fun H2 e2 => ⟨1, (n : Int) + 1, rfl, rfl, RgOk.of_le (by omega) (by omega) (by omega) (by omega), fun p hp => q p _ (fresh_back (e1.trans e2) hp) ((e1.trans e2).trans (Ex.new hp)) (by
    rw [upd_same]
    unfold rgV turnsI
    rw [List.map_map, show ((n : Int) + 1 - 1).toNat = n by omega]
    rfl)⟩
theorem turns_at {n i : Nat} {x : V} (h : ((turnsI n).map V.int)[i]? = some x) : x = .int ((1 : Int) + (i : Int)) ∧ i < n := by
  unfold turnsI at h
  rw [List.map_map, List.getElem?_map] at h
  by_cases hi : i < n
  · rw [List.getElem?_range hi] at h
    exact ⟨(Option.some.inj h).symm, hi⟩
  · rw [List.getElem?_eq_none (by rw [List.length_range]; omega)] at h
    cases h
theorem turns_len (n : Nat) : ((turnsI n).map V.int).length = n := by
  unfold turnsI
  rw [List.length_map, List.length_map, List.length_range]
theorem arg_max (ks : Nat → Int) : ∀ m, (∀ i ≤ m, ks i ≤ ks (argBest (fun i j => decide (ks j < ks i)) m)) ∧ argBest (fun i j => decide (ks j < ks i)) m ≤ m
  | 0 => ⟨fun i hi => by rw [show i = 0 by omega]; exact Int.le_refl _, Nat.le_refl _⟩
  | m + 1 => by
    obtain ⟨h1, h2⟩ := arg_max ks m
    show (∀ i ≤ m + 1, ks i ≤ ks (if decide (ks (argBest (fun i j => decide (ks j < ks i)) m) < ks (m + 1)) = true then m + 1 else argBest (fun i j => decide (ks j < ks i)) m)) ∧ (if decide (ks (argBest (fun i j => decide (ks j < ks i)) m) < ks (m + 1)) = true then m + 1 else argBest (fun i j => decide (ks j < ks i)) m) ≤ m + 1
    generalize argBest (fun i j => decide (ks j < ks i)) m = g at h1 h2 ⊢
    by_cases c : ks g < ks (m + 1)
    · rw [if_pos (decide_eq_true c)]
      refine ⟨fun i hi => ?_, Nat.le_refl _⟩
      by_cases z : i = m + 1
      · rw [z]; exact Int.le_refl _
      · have := h1 i (by omega)
        omega
    · rw [if_neg (by simpa using c)]
      refine ⟨fun i hi => ?_, by omega⟩
      by_cases z : i = m + 1
      · rw [z]; omega
      · exact h1 i (by omega)
/-- the list [.. for x in xs for y in ys] without a test -/
theorem lc2_list {K : PySem.W.Frag} {σ : L2.St} {H : Hp} {tl tl1 te : TE} {i1 i2 : Nat} {vs vs1 : List Nat} {a b : Addr} {xs ys : List V} {Q : VK} (h : Ev tl σ H (.ref a)) (hx : SqL K H a xs) (Pv : Addr → Nat → Nat → Hp → Prop)
    (hw : ∀ x, wipe ((wipe σ vs).set i1 (some x)) vs = wipe σ vs) (hw1 : ∀ x y, wipe ((wipe ((wipe σ vs).set i1 (some x)) vs1).set i2 (some y)) vs1 = wipe ((wipe σ vs).set i1 (some x)) vs1)
    (h0 : ∀ D H1, H1 D = none → Ex H H1 → Pv D 0 0 (upd H1 D (.lst []))) (hl : ∀ D i j H', Pv D i j H' → SqL K H' a xs ∧ SqL K H' b ys) (hi : ∀ D i x H', Pv D i 0 H' → Ev tl1 ((wipe σ vs).set i1 (some x)) H' (.ref b)) (hE : ∀ D i H' H'', Pv D i 0 H' → Ex H' H'' → Pv D i 0 H'')
    (hs : ∀ D i j x y H', xs[i]? = some x → ys[j]? = some y → Pv D i j H' → te ((wipe ((wipe σ vs).set i1 (some x)) vs1).set i2 (some y)) H' fun v H2 => ∃ acc, H2 D = some (.lst acc) ∧ acc.length < sizeLine ∧ Pv D i (j + 1) (upd H2 D (.lst (acc ++ [v]))))
    (ht : ∀ D i H', i < xs.length → Pv D i ys.length H' → Pv D (i + 1) 0 H') (hd : ∀ D H', Pv D xs.length 0 H' → Q (.ref D) H') :
    tLc2 (iList K tl) (gName i1) tYes (iList K tl1) (gName i2) tYes te vs vs1 σ H Q :=
  h H (Ex.refl H) _ fun H1 e1 => ⟨a, rfl, ⟨xs, ex_l e1 hx⟩, fun D hD => by
    refine ⟨fun i m H' => m = xs.length - i ∧ i ≤ xs.length ∧ Pv D i 0 H', ⟨xs.length, by simp, Nat.zero_le _, h0 D H1 hD e1⟩, ?_⟩
    rintro i m H' ⟨rfl, hi', p⟩
    obtain ⟨hX, _⟩ := hl D i 0 H' p
    by_cases hlt : i < xs.length
    · refine .inr ⟨⟨xs, xs[i], hX, List.getElem?_eq_getElem hlt⟩, Pv D (i + 1) 0, fun H2 p' => ⟨xs.length - (i + 1), by omega, rfl, hlt, p'⟩, fun x H2 hx2 => ?_⟩
      obtain ⟨rfl, hxx⟩ := hx2
      have gx := hxx xs hX
      refine ⟨hw x, ?_⟩
      unfold tYes
      dsimp only
      rw [if_pos rfl]
      refine hi D i x _ p _ (Ex.refl _) _ fun H3 e3 => ?_
      have p3 := hE D i _ H3 p e3
      refine ⟨b, rfl, ⟨ys, (hl D i 0 H3 p3).2⟩, fun j k H4 => k = ys.length - j ∧ j ≤ ys.length ∧ Pv D i j H4, ⟨ys.length, by simp, Nat.zero_le _, p3⟩, ?_⟩
      rintro j k H4 ⟨rfl, hj, p4⟩
      obtain ⟨_, hY⟩ := hl D i j H4 p4
      by_cases hjt : j < ys.length
      · refine .inr ⟨⟨ys, ys[j], hY, List.getElem?_eq_getElem hjt⟩, Pv D i (j + 1), fun H5 p' => ⟨ys.length - (j + 1), by omega, rfl, hjt, p'⟩, fun y H5 hy => ?_⟩
        obtain ⟨rfl, hyy⟩ := hy
        have gy := hyy ys hY
        refine ⟨hw1 x y, ?_⟩
        rw [if_pos rfl]
        exact hs D i j x y _ gx gy p4
      · have ej : j = ys.length := by omega
        subst ej
        exact .inl ⟨⟨ys, hY, Nat.le_refl _⟩, ht D i H4 hlt p4⟩
    · have ei : i = xs.length := by omega
      subst ei
      exact .inl ⟨⟨xs, hX, Nat.le_refl _⟩, hd D H' p⟩⟩
theorem q_lc2 {K : PySem.W.Frag} {σ : L2.St} {H : Hp} {tl tl1 te : TE} {i1 i2 : Nat} {vs vs1 : List Nat} {a b : Addr} {xs ys : List V} {Dn : Ends} {tz : TS} {i3 : Nat} (h : Ev tl σ H (.ref a)) (hx : SqL K H a xs) (Pv : Addr → Nat → Nat → Hp → Prop)
    (hw : ∀ x, wipe ((wipe σ vs).set i1 (some x)) vs = wipe σ vs) (hw1 : ∀ x y, wipe ((wipe ((wipe σ vs).set i1 (some x)) vs1).set i2 (some y)) vs1 = wipe ((wipe σ vs).set i1 (some x)) vs1)
    (h0 : ∀ D H1, H1 D = none → Ex H H1 → Pv D 0 0 (upd H1 D (.lst []))) (hl : ∀ D i j H', Pv D i j H' → SqL K H' a xs ∧ SqL K H' b ys) (hi : ∀ D i x H', Pv D i 0 H' → Ev tl1 ((wipe σ vs).set i1 (some x)) H' (.ref b)) (hE : ∀ D i H' H'', Pv D i 0 H' → Ex H' H'' → Pv D i 0 H'')
    (hs : ∀ D i j x y H', xs[i]? = some x → ys[j]? = some y → Pv D i j H' → te ((wipe ((wipe σ vs).set i1 (some x)) vs1).set i2 (some y)) H' fun v H2 => ∃ acc, H2 D = some (.lst acc) ∧ acc.length < sizeLine ∧ Pv D i (j + 1) (upd H2 D (.lst (acc ++ [v]))))
    (ht : ∀ D i H', i < xs.length → Pv D i ys.length H' → Pv D (i + 1) 0 H') (hd : ∀ D H', Pv D xs.length 0 H' → tz Dn (σ.set i3 (some (.ref D))) H') :
    tSeq (tAsg (tLc2 (iList K tl) (gName i1) tYes (iList K tl1) (gName i2) tYes te vs vs1) (gName i3)) tz Dn σ H := lc2_list (Q := fun v H' => tz Dn (σ.set i3 (some v)) H') h hx Pv hw hw1 h0 hl hi hE hs ht hd
theorem pi_listK {X : Cx} {K : PySem.W.Frag} {tg l : Expr} {tl : TE} (hl : PE X l tl) (h : X.K = K := by rfl) : PI X tg l (iList K tl) := h ▸ pi_list hl
section
variable {P : Program} {w : World} {K : PySem.W.Frag} {mg : Str → Option Value} {base : Heap}
def spSurp (K : PySem.W.Frag) : Sp := fun vs H Q _ => ∃ (l : Addr) (qs : List Win) (a b : Int), vs = [.ref l, .int a, .int b] ∧ SqL K H l (refs qs) ∧ TW H qs ∧ qs.length ≤ 1000 ∧ ∀ H', Ex H H' → Q (.int (surp (wsOf qs) a b)) H'
theorem spV_surp {l : Addr} {qs : List Win} {a b : Int} {H : Hp} (hl : SqL K H l (refs qs)) (ht : TW H qs) (hn : qs.length ≤ 1000) : SpV (spSurp K) [.ref l, .int a, .int b] H (.int (surp (wsOf qs) a b)) := fun H1 e Q q _ => ⟨l, qs, a, b, rfl, ex_l e hl, ht.ex e, hn, q⟩
theorem ok_surplus {f : Addr} {fd : FuncData} (F : Fun K "surplus" "surplus" s_surplus f fd) (T : Top K mg) : FnOk P w K mg base CX0 2 f fd ["windows", "a", "b"] (spSurp K) := by
  have nd := sc_surplus.nd
  have G_within : FnOk P w K mg base CX0 1 T.f_within T.fd_within ["windows", "a", "b"] (spWithin K) := ok_within T.F_within T
  have G_rounds_between : FnOk P w K mg base CX0 1 T.f_rounds_between T.fd_rounds_between ["a", "b"] spRounds := ok_rounds_between T.F_rounds_between T
  refine F.ok sc_surplus (fun vs H Q E h => ?_) (fun cdv A outer s H vs Q E hr h => ?_)
  · obtain ⟨l, qs, a, b, rfl, _⟩ := h
    rfl
  · obtain ⟨l, qs, a, b, rfl, hl, ht, hn, q⟩ := h
    refine ⟨_, (pss_one (ps_ret (pe_op op_sub (pe_callB call_len_seq (by rfl) T.m_len PySem.boot_len (pa_cons (pe_call G_within (hr.mono (by decide)) (by rfl) T.m_within T.F_within.kp T.b_within .nil pass0 (pa_cons (pv 0) (pa_cons (pv 1) (pa_cons (pv 2) pa_nil)))) pa_nil)) (pe_call G_rounds_between (hr.mono (by decide)) (by rfl) T.m_rounds_between T.F_rounds_between.kp T.b_rounds_between .nil pass0 (pa_cons (pv 1) (pa_cons (pv 2) pa_nil)))))), ?_⟩
    refine s_ret (ev_op (ev_is (ev_lenN (el_call (by walk_at "ea") (spL_within hl ht hn))) (by rw [List.length_map])) (ev_call (by walk_at "ea") spV_rounds) rv_I0) fun H1 e1 => q H1 e1
open LamX in
def spSpan (T : List (Addr × Str)) : Sp := fun vs H Q _ => ∃ (l : Addr) (qs : List Win), vs = [.ref l] ∧ H l = some (.lst (refs qs)) ∧ TW H qs ∧ qs.length ≤ 100 ∧ 1 ≤ qs.length ∧ LamX.Tabs T H ∧
  ∀ (a b : Int) H' t, 1 ≤ a → a ≤ qs.length → 1 ≤ b → b ≤ qs.length → (∀ c d : Int, 1 ≤ c → c ≤ qs.length → 1 ≤ d → d ≤ qs.length → surp (wsOf qs) c d ≤ surp (wsOf qs) a b) → LamX.ExtN H H' → LamX.Tabs T H' → H' t = some (.tup [.int a, .int b]) → Q (.ref t) H'
def surpOf (ws : List (Int × Int)) (sp : List Win) (i : Nat) : Int := match sp[i]? with
  | some q => surp ws q.2.1 q.2.2
  | none => 0
theorem ok_fullest_span {f : Addr} {fd : FuncData} (T : Top K mg) (F : FunC K "fullest_span" "fullest_span" s_fullest_span f fd T.c_fullest_span) (TB_fullest_span : LamX.TabB base mg T.c_fullest_span T.P_fullest_span) : FnOk P w K mg base CX0 5 f fd ["windows"] (spSpan T.tabs) := by
  have nd := sc_fullest_span.nd
  have G_surplus : FnOk P w K mg base CX0 2 T.f_surplus T.fd_surplus ["windows", "a", "b"] (spSurp K) := ok_surplus T.F_surplus T
  refine F.ok sc_fullest_span (fun vs H Q E h => ?_) (fun A outer s H vs Q E hr h => ?_)
  · obtain ⟨l, qs, rfl, _⟩ := h
    rfl
  · obtain ⟨l, qs, rfl, hl, ht, hn, hn1, hT, q⟩ := h
    refine ⟨_, (pss_cons (ps_set (i := 1) nd rfl (.inr rfl) (pe_listRg rfl (by rfl) T.m_list (prg_2 (by rfl) T.m_range pe_int (pe_op op_add (pe_callB call_len_seq (by rfl) T.m_len PySem.boot_len (pa_cons (pv 0) pa_nil)) pe_int))))
      (pss_cons (ps_setLc2 (i := 2) (own := [("a", 3), ("b", 4)]) (vs1 := [4]) (g := gName 3) (tt := tYes) (g1 := gName 4) (tt1 := tYes) rfl nd rfl rfl (sw_true rfl rfl rfl (by decide +kernel)) (pi_list (pv 1)) (blkOk_by (own := [("a", 3), ("b", 4)]) (N := Su.N_fullest_span) (sc := defScope s_fullest_span) (by decide +kernel)) (by decide) (fun _ _ _ _ _ => (pg_name (i := 3) nd rfl (.inl rfl))) (fun _ _ _ _ _ => pts_nil) (fun _ _ _ _ _ => (pi_listK (K := K) (pv 1))) (fun _ _ _ _ _ => (pg_name (i := 4) nd rfl (.inl rfl))) (fun _ _ _ _ _ => pts_nil) (fun _ _ _ _ _ => (pe_tup (pa_cons (pv 3) (pa_cons (pv 4) pa_nil)))))
      (pss_one (ps_ret (pe_maxI (T := T.tabs) (c := T.c_fullest_span) (P := T.P_fullest_span) (k := 2) (kx := "span") (N := ["span", "windows"]) (fr := ["windows"]) (js := [0]) TB_fullest_span rfl T.hm_fullest_span T.hu_fullest_span (by rfl) T.m_max (hr.mono (by decide)) (pa_cons (pv 2) pa_nil) (NdefX.nscope_by (by decide +kernel)) (by rfl) (by rfl) (fun f c' s H hr2 => (pe_call G_surplus (hr2.mono (by decide)) (by rfl) T.m_surplus T.F_surplus.kp T.b_surplus .nil pass0 (pa_cons (pv 1) (pa_cons (pe_ix (ix_tupK (K := K) rfl) (pv 0) pe_int (fun _ _ => rfl)) (pa_cons (pe_ix (ix_tupK (K := K) rfl) (pv 0) pe_int (fun _ _ => rfl)) pa_nil)))))))))), ?_⟩
    refine q_asgL (el_turns (n := qs.length) ev_c (ev_op (ev_is (ev_len (ev_var rfl) (sq_of hl)) (by rw [refs_len])) ev_c rv_I0) (by omega)) fun pt H1 hpt e1 h1 => ?_
    have hl1 := e1 _ _ hl
    refine q_lc2 (K := K) (a := pt) (b := pt) (xs := (turnsI qs.length).map V.int) (ys := (turnsI qs.length).map V.int) ?_ (sq_of h1)
      (fun D i j H' => ∃ sp : List Win, H1 D = none ∧ Ex H1 H' ∧ H' D = some (.lst (refs sp)) ∧ TW H' sp ∧ sp.length = i * qs.length + j ∧ i ≤ qs.length ∧ j ≤ qs.length ∧ (∀ q ∈ sp, (1 ≤ q.2.1 ∧ q.2.1 ≤ qs.length) ∧ 1 ≤ q.2.2 ∧ q.2.2 ≤ qs.length) ∧ ∀ c d : Int, 1 ≤ c → c ≤ qs.length → 1 ≤ d → d ≤ qs.length → (c ≤ i ∨ (c = i + 1 ∧ d ≤ j)) → ∃ q ∈ sp, q.2 = (c, d))
      ?_ ?_ ?_ ?_ ?_ ?_ ?_ ?_ ?_
    · exact ev_var rfl
    · exact fun x => rfl
    · exact fun x y => rfl
    · intro D H2 hD e2
      exact ⟨[], fresh_back e2 hD, Ex.mut e2 (fresh_back e2 hD), upd_same, TW.nil, by simp, by omega, by omega, fun q hq => absurd hq List.not_mem_nil, fun c d _ _ _ _ h => by omega⟩
    · rintro D i j H' ⟨sp, hD, ex, _⟩
      exact ⟨sq_of (ex _ _ h1), sq_of (ex _ _ h1)⟩
    · rintro D i x H' ⟨sp, hD, ex, _⟩
      exact ev_var rfl
    · rintro D i H' H'' ⟨sp, hD, ex, h2, h3, h4⟩ e
      exact ⟨sp, hD, ex.trans e, e _ _ h2, h3.ex e, h4⟩
    · rintro D i j x y H' gx gy ⟨sp, hD, ex, h2, h3, h4, hi, hj, h5, h6⟩
      obtain ⟨rfl, hi'⟩ := turns_at gx
      obtain ⟨rfl, hj'⟩ := turns_at gy
      refine (show EvU (tTup (tCons (tVar 3) (tCons (tVar 4) tNil))) [some (.ref l), some (.ref pt), none, some (.int (1 + (i : Int))), some (.int (1 + (j : Int)))] H' [V.int (1 + (i : Int)), V.int (1 + (j : Int))] from eu_tup (ea_cons (ev_var rfl) (ea_cons (ev_var rfl) ea_nil)) (by show 2 ≤ 100000; decide)) H' (Ex.refl H') _ fun t H2 ht2 e2 h2t => ?_
      have hb : i * qs.length + j ≤ 100 * 100 + 100 := by
        have := Nat.mul_le_mul (show i ≤ 100 by omega) hn
        omega
      refine ⟨refs sp, e2 _ _ h2, sz_lt (by rw [refs_len]; omega), sp ++ [(t, 1 + (i : Int), 1 + (j : Int))], hD, Ex.mut (ex.trans e2) hD, ?_, ?_, by rw [List.length_append, h4]; rfl, hi, by omega, ?_, ?_⟩
      · rw [upd_same]
        unfold refs
        rw [List.map_append]
        rfl
      · refine TW.add ((h3.ex e2).upd (e2 _ _ h2)) ?_
        rw [upd_ne (ne_of h2t (e2 _ _ h2) (fun z => nomatch z))]
        exact h2t
      · intro q hq
        rcases List.mem_append.mp hq with hq | hq
        · exact h5 q hq
        · obtain rfl := List.mem_singleton.mp hq
          exact ⟨⟨by show (1 : Int) ≤ 1 + i; omega, by show 1 + (i : Int) ≤ _; omega⟩, by show (1 : Int) ≤ 1 + j; omega, by show 1 + (j : Int) ≤ _; omega⟩
      · intro c d c1 c2 d1 d2 hcd
        by_cases z : c ≤ i ∨ (c = i + 1 ∧ d ≤ j)
        · obtain ⟨q, hq, e⟩ := h6 c d c1 c2 d1 d2 z
          exact ⟨q, List.mem_append_left _ hq, e⟩
        · refine ⟨_, List.mem_append_right _ (List.mem_singleton.mpr rfl), ?_⟩
          show ((1 : Int) + i, (1 : Int) + j) = (c, d)
          rw [show c = 1 + (i : Int) by omega, show d = 1 + (j : Int) by omega]
    · rintro D i H' hi ⟨sp, hD, ex, h2, h3, h4, hi', hj, h5, h6⟩
      rw [turns_len] at hi h4 h6
      refine ⟨sp, hD, ex, h2, h3, by rw [h4, Nat.succ_mul]; omega, by omega, by omega, h5, fun c d c1 c2 d1 d2 hcd => h6 c d c1 c2 d1 d2 ?_⟩
      omega
    · rintro D H' ⟨sp, hD, ex, h2, h3, h4, hi', hj, h5, h6⟩
      rw [turns_len] at h4 h6
      have hlD : l ≠ D := fun z => by rw [z] at hl1; rw [hD] at hl1; cases hl1
      have hpos : 0 < sp.length := by
        rw [h4]
        have := Nat.mul_le_mul hn1 hn1
        omega
      refine s_retMaxI (surpOf (wsOf qs) sp) (ev_var rfl) h2 (by rw [refs_len]; exact hpos) (hT.ext (e1.trans ex)) (fun Hf hHf i x gx => ?_) fun H3 y e3 T3 hy => ?_
      · obtain ⟨r, gr, rfl⟩ := refs_at gx
        have hr' := hHf _ _ (h3 r (List.mem_of_getElem? gr)) (fun _ z => nomatch z) (fun z => by have := h3 r (List.mem_of_getElem? gr); rw [z, h2] at this; cases this)
        have hlf := hHf _ _ (ex _ _ hl1) (fun _ z => nomatch z) hlD
        have htf : TW Hf qs := fun q hq => by
          have hq' := ex _ _ (e1 _ _ (ht q hq))
          exact hHf _ _ hq' (fun _ z => nomatch z) (fun z => by rw [z, h2] at hq'; cases hq')
        unfold surpOf
        rw [gr]
        exact ev_call (ea_cons (ev_var rfl) (ea_cons (ev_w0 (ev_var rfl) hr') (ea_cons (ev_w1 (ev_var rfl) hr') ea_nil))) (spV_surp (sq_of hlf) htf (by omega))
      · rw [refs_len] at hy
        obtain ⟨m1, m2⟩ := arg_max (surpOf (wsOf qs) sp) (sp.length - 1)
        generalize argBest (fun i j => decide (surpOf (wsOf qs) sp j < surpOf (wsOf qs) sp i)) (sp.length - 1) = g at hy m1 m2
        obtain ⟨r, gr, rfl⟩ := refs_at hy
        have hm := List.mem_of_getElem? gr
        obtain ⟨⟨a1, a2⟩, b1, b2⟩ := h5 r hm
        refine q r.2.1 r.2.2 H3 r.1 a1 a2 b1 b2 (fun c d c1 c2 d1 d2 => ?_) ((exN_of (e1.trans ex)).trans e3) T3 (e3 _ _ (h3 r hm) fun _ z => nomatch z)
        obtain ⟨q', hq', eq'⟩ := h6 c d c1 c2 d1 d2 (.inl (by omega))
        obtain ⟨k, gk⟩ := List.getElem?_of_mem hq'
        have := m1 k (by have := (List.getElem?_eq_some_iff.mp gk).1; omega)
        unfold surpOf at this
        rw [gk, gr] at this
        have this : surp (wsOf qs) q'.2.1 q'.2.2 ≤ surp (wsOf qs) r.2.1 r.2.2 := this
        rw [eq'] at this
        exact this
end

end Su
namespace Su
/-! ### more ways of calls -/
theorem s_forE1 {K : PySem.W.Frag} {te : TE} {g : TG} {tb : TS} {D : Ends} {σ : L2.St} {H : Hp} {Pc : Addr → Hp → Prop} (hcall : ∀ Q : VK, (∀ p H1, Pc p H1 → Q (.ref p) H1) → te σ H Q) (k : ∀ p H1, Pc p H1 → tFor (iEnum K (tCons (tC (.ref p)) tNil)) g tb D σ H1) :
    tFor (iEnum K (tCons te tNil)) g tb D σ H := hcall _ fun p H1 h => k p H1 h
theorem s_tryw1 {sp : Sp} {W : WX} {te : TE} {xs : List V} {σ : L2.St} {H : Hp} {i : Nat} {D : Ends} (h : EvL te σ H xs) (hs : ∀ p H1, H p = none → Ex H H1 → H1 p = some (.lst xs) → sp [.ref p] H1 (fun v H2 => D.nx (σ.set i (some v)) H2) (WE W σ)) : tAsg (tCallS sp (WE W) (tCons te tNil)) (gName i) D σ H :=
  h H (Ex.refl H) _ fun p H1 hp e1 h1 => hs p H1 hp e1 h1
theorem rc_isi_lst {K : PySem.W.Frag} {H : Hp} {p : Addr} {xs : List V} {n : String} {b : Bool} (h : H p = some (.lst xs)) (hk : kitB "list" n = some b) : RC (rIsi K) [.ref p, .ty n] H (.bl b) :=
  fun H1 e _ q => ⟨.ref p, .ty n, .type "list", .type n, b, rfl, .ty n, .base (.lst (e _ _ h)), kit_ty hk, q H1 (Ex.refl H1)⟩
theorem int_eq {i j : Int} : decide (V.int i = V.int j) = decide (i = j) := by
  by_cases h : i = j
  · rw [h, decide_eq_true rfl, decide_eq_true rfl]
  · rw [decide_eq_false h, decide_eq_false (fun z => h (V.int.inj z))]
theorem q_callQ {sp : Sp} {dvs vs : List V} {E : XK} {ta : TA} {σ : L2.St} {H : Hp} {i : Nat} {D : Ends} {tz : TS} (h : EvA ta σ H vs) (k : ∀ H1, Ex H H1 → sp (vs ++ dvs) H1 (fun v H2 => tz D (σ.set i (some v)) H2) E) : tSeq (tAsg (tCall sp dvs E ta) (gName i)) tz D σ H :=
  h H (Ex.refl H) _ fun H1 e1 => k H1 e1

end Su
namespace Su
/-! ### a tuple whose last part is a new list -/
def EvAL (ta : TA) (σ : L2.St) (H : Hp) (vs xs : List V) : Prop := ∀ H1, Ex H H1 → ∀ Q : List V → Hp → Prop, (∀ l H2, H1 l = none → Ex H1 H2 → H2 l = some (.lst xs) → Q (vs ++ [.ref l]) H2) → ta σ H1 Q
theorem eal_one {te : TE} {σ : L2.St} {H : Hp} {xs : List V} (h : EvL te σ H xs) : EvAL (tCons te tNil) σ H [] xs := fun H1 e Q q => h H1 e _ fun p H2 hp e2 h2 => q p H2 hp e2 h2
theorem eal_cons {te : TE} {tr : TA} {σ : L2.St} {H : Hp} {x : V} {vs xs : List V} (h : Ev te σ H x) (hr : EvAL tr σ H vs xs) : EvAL (tCons te tr) σ H (x :: vs) xs := fun H1 e Q q =>
  h H1 e _ fun H2 e2 => hr H2 (e.trans e2) _ fun p H3 hp e3 h3 => q p H3 (fresh_back e2 hp) (e2.trans e3) h3
theorem q_asgUL {ta : TA} {σ : L2.St} {H : Hp} {vs xs : List V} {i : Nat} {D : Ends} {tz : TS} (h : EvAL ta σ H vs xs) (hz : vs.length ≤ 1000)
    (k : ∀ l p H1, H l = none → H p = none → Ex H H1 → H1 l = some (.lst xs) → H1 p = some (.tup (vs ++ [.ref l])) → tz D (σ.set i (some (.ref p))) H1) : tSeq (tAsg (tTup ta) (gName i)) tz D σ H :=
  h H (Ex.refl H) _ fun l H1 hl e1 h1 => ⟨sz_of (by rw [List.length_append]; show vs.length + 1 ≤ _; omega), fun p hp => k l p _ hl (fresh_back e1 hp) (e1.trans (Ex.new hp)) (by rw [upd_ne (ne_of_none h1 hp)]; exact h1) upd_same⟩
theorem s_retUL {ta : TA} {σ : L2.St} {H : Hp} {vs xs : List V} {D : Ends} (h : EvAL ta σ H vs xs) (hz : vs.length ≤ 1000)
    (k : ∀ l p H1, H l = none → H p = none → Ex H H1 → H1 l = some (.lst xs) → H1 p = some (.tup (vs ++ [.ref l])) → D.rt (.ref p) H1) : tRet (tTup ta) D σ H :=
  h H (Ex.refl H) _ fun l H1 hl e1 h1 => ⟨sz_of (by rw [List.length_append]; show vs.length + 1 ≤ _; omega), fun p hp => k l p _ hl (fresh_back e1 hp) (e1.trans (Ex.new hp)) (by rw [upd_ne (ne_of_none h1 hp)]; exact h1) upd_same⟩
theorem rv_notN {x : V} {H : Hp} : RV (fun x y H Q => y = .non ∧ Q (.bl (!decide (x = .non))) H) x .non H (.bl (!decide (x = .non))) := fun H1 _ Q q => ⟨rfl, q H1 (Ex.refl H1)⟩
theorem rv_isN {x : V} {H : Hp} : RV (fun x y H Q => y = .non ∧ Q (.bl (decide (x = .non))) H) x .non H (.bl (decide (x = .non))) := fun H1 _ Q q => ⟨rfl, q H1 (Ex.refl H1)⟩
theorem ref_non {p : Addr} : decide (V.ref p = .non) = false := decide_eq_false fun z => nomatch z
theorem non_non : decide (V.non = .non) = true := decide_eq_true rfl
theorem q_callG {sp : Sp} {dvs vs : List V} {E : XK} {ta : TA} {g : TG} {σ : L2.St} {H : Hp} {D : Ends} {tz : TS} (h : EvA ta σ H vs) (k : ∀ H1, Ex H H1 → sp (vs ++ dvs) H1 (fun v H2 => g v σ H2 (tz D)) E) : tSeq (tAsg (tCall sp dvs E ta) g) tz D σ H :=
  h H (Ex.refl H) _ fun H1 e1 => k H1 e1
theorem s_retCall1 {sp sp1 : Sp} {dvs dvs1 vs : List V} {E E1 : XK} {ta tr : TA} {σ : L2.St} {H : Hp} {D : Ends} (h : EvA ta σ H vs) (k : ∀ H1, Ex H H1 → sp1 (vs ++ dvs1) H1 (fun x H2 => tr σ H2 fun xs H3 => sp (x :: xs ++ dvs) H3 (fun v H4 => D.rt v H4) E) E1) : tRet (tCall sp dvs E (tCons (tCall sp1 dvs1 E1 ta) tr)) D σ H :=
  h H (Ex.refl H) _ fun H1 e1 => k H1 e1
theorem ta_oneU {te : TE} {σ : L2.St} {H : Hp} {xs : List V} {Q : List V → Hp → Prop} (h : EvU te σ H xs) (k : ∀ t H1, H t = none → Ex H H1 → H1 t = some (.tup xs) → Q [.ref t] H1) : tCons te tNil σ H Q := h H (Ex.refl H) _ k

end Su
namespace Su
/-! ### order_or_bar -/
section
variable {P : Program} {w : World} {K : PySem.W.Frag} {mg : Str → Option Value} {base : Heap}
/-- the span a, b is a fullest one -/
def Full (ws : List (Int × Int)) (a b : Int) : Prop := (1 ≤ a ∧ a ≤ ws.length ∧ 1 ≤ b ∧ b ≤ ws.length) ∧ ∀ c d : Int, 1 ≤ c → c ≤ ws.length → 1 ≤ d → d ≤ ws.length → surp ws c d ≤ surp ws a b
/-- the paper at t: the order's row at p, or the bar's crowd at p -/
def PaperAt (H : Hp) (ws : List (Int × Int)) (t p : Addr) : Prop :=
  (∃ row, greedy ws ws.length = some row ∧ H t = some (.tup [.str "order", .ref p]) ∧ H p = some (.lst ((natI row).map V.int))) ∨
  (∃ a b : Int, greedy ws ws.length = none ∧ Full ws a b ∧ H t = some (.tup [.str "bar", .int a, .int b, .ref p]) ∧ H p = some (.lst ((inside ws a b).map V.int)))
theorem PaperAt.ex {H H' : Hp} {ws : List (Int × Int)} {t p : Addr} (h : PaperAt H ws t p) (e : Ex H H') : PaperAt H' ws t p := by
  rcases h with ⟨row, h1, h2, h3⟩ | ⟨a, b, h1, h2, h3, h4⟩
  · exact .inl ⟨row, h1, e _ _ h2, e _ _ h3⟩
  · exact .inr ⟨a, b, h1, h2, e _ _ h3, e _ _ h4⟩
def spPaper (T : List (Addr × Str)) : Sp := fun vs H Q _ => ∃ (l : Addr) (qs : List Win), vs = [.ref l] ∧ H l = some (.lst (refs qs)) ∧ TW H qs ∧ qs.length ≤ 100 ∧ LamX.Tabs T H ∧
  ∀ H' t p, (∀ o, H p = some o → ∃ ps, o = .tbl ps) → LamX.ExtN H H' → LamX.Tabs T H' → PaperAt H' (wsOf qs) t p → Q (.ref t) H'
theorem new_or {H H' : Hp} {p : Addr} (e : LamX.ExtN H H') (h : H' p = none) : ∀ o, H p = some o → ∃ ps, o = .tbl ps := fun o z => by
  cases o with
  | tbl ps => exact ⟨ps, rfl⟩
  | _ => rw [e _ _ z (fun _ q => nomatch q)] at h; cases h
theorem ok_order_or_bar (T : Top K mg) (TB1 : LamX.TabB base mg T.c_told_order T.P_told_order) (TB2 : LamX.TabB base mg T.c_fullest_span T.P_fullest_span) : FnOk P w K mg base CX0 6 T.f_order_or_bar T.fd_order_or_bar ["windows"] (spPaper T.tabs) := by
  have nd := sc_order_or_bar.nd
  have G_told_order : FnOk P w K mg base CX0 3 T.f_told_order T.fd_told_order ["windows"] (spTold T.tabs) := ok_told_order T T.C_told_order TB1
  have G_fullest_span : FnOk P w K mg base CX0 5 T.f_fullest_span T.fd_fullest_span ["windows"] (spSpan T.tabs) := ok_fullest_span T T.C_fullest_span TB2
  have G_within : FnOk P w K mg base CX0 1 T.f_within T.fd_within ["windows", "a", "b"] (spWithin K) := ok_within T.F_within T
  refine T.F_order_or_bar.ok sc_order_or_bar (fun vs H Q E h => ?_) (fun cdv A outer s H vs Q E hr h => ?_)
  · obtain ⟨l, qs, rfl, _⟩ := h
    rfl
  · obtain ⟨l, qs, rfl, hl, ht, hn, hT, q⟩ := h
    refine ⟨_, (pss_cons (ps_set (i := 1) nd rfl (.inl rfl) (pe_call G_told_order (hr.mono (by decide)) (by rfl) T.m_told_order T.F_told_order.kp T.b_told_order .nil pass0 (pa_cons (pv 0) pa_nil)))
      (pss_cons (ps_if (pt_cmpR op_notN (pv 1) pe_non (nomark _))
        (pss_one (ps_ret (pe_tup (pa_cons pe_str (pa_cons (pv 1) pa_nil)))))
        pss_nil)
      (pss_cons (ps_asg (pe_call G_fullest_span (hr.mono (by decide)) (by rfl) T.m_fullest_span T.F_fullest_span.kp T.b_fullest_span .nil pass0 (pa_cons (pv 0) pa_nil)) (pg_tup rfl (pgs_cons (pg_name (i := 2) nd rfl (.inl rfl)) (pgs_cons (pg_name (i := 3) nd rfl (.inl rfl)) pgs_nil))))
      (pss_one (ps_ret (pe_tup (pa_cons pe_str (pa_cons (pv 2) (pa_cons (pv 3) (pa_cons (pe_call G_within (hr.mono (by decide)) (by rfl) T.m_within T.F_within.kp T.b_within .nil pass0 (pa_cons (pv 0) (pa_cons (pv 2) (pa_cons (pv 3) pa_nil)))) pa_nil)))))))))), ?_⟩
    refine q_callQ (by walk_at "ea") fun H1 e1 => ?_
    refine ⟨l, qs, rfl, e1 _ _ hl, ht.ex e1, by omega, hT.ext e1, fun H2 hg e2 T2 => ?_, fun row H2 p hg hp e2 T2 h2 => ?_⟩
    · -- a bar
      have e02 := (exN_of e1).trans e2
      have hl2 := exN_l e02 hl
      have ht2 := ht.exN e02
      refine q_when (b := false) (et_is (et_test (ev_op (ev_var rfl) ev_c rv_notN)) (by rw [non_non]; rfl)) (fun h => by cases h) fun _ H3 e3 => ?_
      have hpos : 1 ≤ qs.length := by
        cases qs with
        | nil => cases hg
        | cons q qs => rw [List.length_cons]; omega
      refine q_callG (by walk_at "ea") fun H4 e4 => ?_
      have e34 := e3.trans e4
      refine ⟨l, qs, rfl, e34 _ _ hl2, ht2.ex e34, hn, hpos, T2.ext e34, fun a b H5 t a1 a2 b1 b2 hmx e5 T5 h5 => ?_⟩
      have e05 := (e02.trans (exN_of e34)).trans e5
      have hl5 := exN_l e05 hl
      have ht5 := ht.exN e05
      refine tg_two (K := K) (st_of h5) tg_name tg_name H5 (Ex.refl _) _ ?_
      refine s_retUL (eal_cons ev_c (eal_cons (ev_var rfl) (eal_cons (ev_var rfl) (eal_one (el_call (by walk_at "ea") (spL_within (sq_of hl5) ht5 (by omega))))))) (by show 3 ≤ 1000; decide) fun p t' H6 hp ht6 e6 h6 h6t => ?_
      refine q H6 t' p (new_or e05 hp) (e05.trans (exN_of e6)) (T5.ext e6) (.inr ⟨a, b, by rw [ws_len]; exact hg, ⟨by rw [ws_len]; exact ⟨a1, a2, b1, b2⟩, by rw [ws_len]; exact hmx⟩, h6t, h6⟩)
    · have e02 := (exN_of e1).trans e2
      refine q_when (b := true) (et_is (et_test (ev_op (ev_var rfl) ev_c rv_notN)) (by rw [ref_non]; rfl)) (fun _ H3 e3 => ?_) fun h => by cases h
      refine s_retU (eu_tup (by walk_at "ea") (by show 2 ≤ 100000; decide)) fun t H4 ht4 e4 h4 => ?_
      refine q H4 t p (fun o z => by rw [fresh_back e1 hp] at z; cases z) (e02.trans (exN_of (e3.trans e4))) (T2.ext (e3.trans e4)) (.inl ⟨row, by rw [ws_len]; exact hg, h4, (e3.trans e4) _ _ h2⟩)
end

end Su
namespace Su
/-! ### is_bar, good_paper -/
theorem inV_int {z : Int} {ns : List Int} : inV (.int z) (ns.map V.int) = decide (z ∈ ns) := by
  unfold inV
  induction ns with
  | nil => rfl
  | cons a r ih =>
    rw [List.map_cons, List.any_cons, ih]
    show ((a == z) || decide (z ∈ r)) = _
    by_cases h : z = a
    · subst h
      simp
    · rw [beq_eq_false_iff_ne.mpr (fun e => h e.symm)]
      simp [h]
theorem flat_ints {ns : List Int} : (ns.map V.int).all flatV = true := by
  rw [List.all_eq_true]
  intro x hx
  obtain ⟨z, _, rfl⟩ := List.mem_map.mp hx
  rfl
theorem given_filter (l : List Int) (p : Int → Bool) : given l.length (fun i => p (l.getD i 0)) (fun i => .int (l.getD i 0)) = (l.filter p).map V.int := by
  have h : (List.range l.length).map (fun i => l.getD i 0) = l := by
    apply List.ext_getElem?
    intro i
    rw [List.getElem?_map]
    by_cases hi : i < l.length
    · rw [List.getElem?_range hi, List.getElem?_eq_getElem hi]
      show some (l.getD i 0) = _
      rw [List.getD_eq_getElem?_getD, List.getElem?_eq_getElem hi]
      rfl
    · rw [List.getElem?_eq_none (by rw [List.length_range]; omega), List.getElem?_eq_none (by omega)]
      rfl
  conv => rhs; rw [← h]
  unfold given
  rw [List.filter_map, List.map_map]
  rfl

end Su
namespace Su
/-! ### bars -/
def isBar (ws : List (Int × Int)) (a b : Int) (ns : List Int) : Bool :=
  ((decide (1 ≤ a) && decide (a ≤ (ws.length : Int))) && (decide (1 ≤ b) && decide (b ≤ (ws.length : Int)))) && (decide (ns = (inside ws a b).filter fun z => decide (z ∈ ns)) && decide ((ns.length : Int) > roundsB a b))

end Su
namespace Su
/-! ### the greedy order is an order; where there is none, a span is too full -/
theorem len_sub : ∀ {S T : List Nat}, S.Nodup → (∀ x ∈ S, x ∈ T) → S.length ≤ T.length
  | [], T, _, _ => Nat.zero_le _
  | x :: S, T, hn, h => by
    have hx := h x List.mem_cons_self
    obtain ⟨h1, h2⟩ := List.nodup_cons.mp hn
    have := len_sub (S := S) (T := T.erase x) h2 fun y hy => (List.mem_erase_of_ne (fun z => h1 (by rw [← z]; exact hy))).mpr (h y (List.mem_cons_of_mem _ hy))
    rw [List.length_erase_of_mem hx] at this
    have hp := List.length_pos_of_mem hx
    rw [List.length_cons]
    omega
theorem perm_sub : ∀ {S T : List Nat}, S.Nodup → (∀ x ∈ S, x ∈ T) → S.length = T.length → S.Perm T
  | [], T, _, _, hl => by
    have : T = [] := List.length_eq_zero_iff.mp hl.symm
    rw [this]
  | x :: S, T, hn, h, hl => by
    have hx := h x List.mem_cons_self
    obtain ⟨h1, h2⟩ := List.nodup_cons.mp hn
    have hp := List.length_pos_of_mem hx
    refine (List.Perm.cons x ?_).trans (List.perm_cons_erase hx).symm
    refine perm_sub h2 (fun y hy => (List.mem_erase_of_ne (fun z => h1 (by rw [← z]; exact hy))).mpr (h y (List.mem_cons_of_mem _ hy))) ?_
    rw [List.length_erase_of_mem hx]
    rw [List.length_cons] at hl
    omega
theorem mem_free {n : Nat} {row : List Nat} {i : Nat} : i ∈ freeI n row ↔ i < n ∧ i ∉ row := by
  unfold freeI
  rw [List.mem_filter, List.mem_range]
  simp
theorem mem_rdy {ws : List (Int × Int)} {row : List Nat} {t : Int} {i : Nat} : i ∈ rdyI ws row t ↔ (i < ws.length ∧ i ∉ row) ∧ firstI ws i ≤ t := by
  unfold rdyI
  rw [List.mem_filter, mem_free]
  simp
/-- what is known of a row made round by round -/
structure Made (ws : List (Int × Int)) (row : List Nat) : Prop where
  nd : row.Nodup
  at_ : ∀ (i k : Nat), row[i]? = some k → k < ws.length ∧ firstI ws k ≤ (i : Int) + 1 ∧ (i : Int) + 1 ≤ lastI ws k ∧ ∀ y, y < ws.length → y ∉ row.take i → firstI ws y ≤ (i : Int) + 1 → lastI ws k ≤ lastI ws y
theorem Made.nil (ws : List (Int × Int)) : Made ws [] := ⟨List.nodup_nil, fun i k h => by simp at h⟩
theorem Made.snoc {ws : List (Int × Int)} {row : List Nat} (h : Made ws row) (e : rdyI ws row ((row.length : Int) + 1) ≠ []) (l : ¬ lastI ws (bestI (lastI ws) (rdyI ws row ((row.length : Int) + 1))) < (row.length : Int) + 1) : Made ws (row ++ [bestI (lastI ws) (rdyI ws row ((row.length : Int) + 1))]) := by
  have hm := mem_rdy.mp (best_mem (f := lastI ws) e)
  have hb : ∀ y, y < ws.length → y ∉ row → firstI ws y ≤ (row.length : Int) + 1 → lastI ws (bestI (lastI ws) (rdyI ws row ((row.length : Int) + 1))) ≤ lastI ws y := fun y h1 h2 h3 => best_le (mem_rdy.mpr ⟨⟨h1, h2⟩, h3⟩)
  generalize bestI (lastI ws) (rdyI ws row ((row.length : Int) + 1)) = c at hm hb l ⊢
  refine ⟨?_, fun i k hk => ?_⟩
  · rw [List.nodup_append]
    exact ⟨h.nd, by simp, fun a ha b hb z => hm.1.2 (by rw [← List.mem_singleton.mp hb, ← z]; exact ha)⟩
  · by_cases hi : i < row.length
    · rw [List.getElem?_append_left hi] at hk
      rw [List.take_append_of_le_length (Nat.le_of_lt hi)]
      exact h.at_ i k hk
    · have hi2 := (List.getElem?_eq_some_iff.mp hk).1
      rw [List.length_append, List.length_singleton] at hi2
      have ei : i = row.length := by omega
      subst ei
      rw [List.getElem?_append_right (Nat.le_refl _), Nat.sub_self] at hk
      obtain rfl : c = k := Option.some.inj hk
      rw [List.take_append_of_le_length (Nat.le_refl _), List.take_length]
      exact ⟨hm.1.1, hm.2, by omega, hb⟩
theorem greedy_made {ws : List (Int × Int)} : ∀ {t : Nat} {row : List Nat}, greedy ws t = some row → row.length = t ∧ Made ws row
  | 0, row, h => by cases h; exact ⟨rfl, Made.nil ws⟩
  | t + 1, row, h => by
    cases hg : greedy ws t with
    | none =>
      rw [greedy_none hg 1] at h
      cases h
    | some r =>
      obtain ⟨hl, hm⟩ := greedy_made hg
      subst hl
      by_cases e : rdyI ws r ((r.length : Int) + 1) = []
      · rw [greedy_empty hg e] at h
        cases h
      · by_cases l : lastI ws (bestI (lastI ws) (rdyI ws r ((r.length : Int) + 1))) < (r.length : Int) + 1
        · rw [greedy_late hg e l] at h
          cases h
        · rw [greedy_step hg e l] at h
          cases h
          exact ⟨by rw [List.length_append]; rfl, hm.snoc e l⟩
theorem greedy_fail {ws : List (Int × Int)} : ∀ {n : Nat}, greedy ws n = none → ∃ row : List Nat, row.length < n ∧ Made ws row ∧ (rdyI ws row ((row.length : Int) + 1) = [] ∨ (rdyI ws row ((row.length : Int) + 1) ≠ [] ∧ lastI ws (bestI (lastI ws) (rdyI ws row ((row.length : Int) + 1))) < (row.length : Int) + 1))
  | 0, h => by cases h
  | n + 1, h => by
    cases hg : greedy ws n with
    | none =>
      obtain ⟨row, h1, h2⟩ := greedy_fail hg
      exact ⟨row, by omega, h2⟩
    | some r =>
      obtain ⟨hl, hm⟩ := greedy_made hg
      subst hl
      refine ⟨r, by omega, hm, ?_⟩
      by_cases e : rdyI ws r ((r.length : Int) + 1) = []
      · exact .inl e
      · by_cases l : lastI ws (bestI (lastI ws) (rdyI ws r ((r.length : Int) + 1))) < (r.length : Int) + 1
        · exact .inr ⟨e, l⟩
        · rw [greedy_step hg e l] at h
          cases h
/-- an order of the windows -/
def IsOrd (ws : List (Int × Int)) (row : List Nat) : Prop := row.Perm (List.range ws.length) ∧ ∀ (i k : Nat), row[i]? = some k → firstI ws k ≤ (i : Int) + 1 ∧ (i : Int) + 1 ≤ lastI ws k
theorem greedy_ord {ws : List (Int × Int)} {row : List Nat} (h : greedy ws ws.length = some row) : IsOrd ws row := by
  obtain ⟨hl, hm⟩ := greedy_made h
  refine ⟨perm_sub hm.nd (fun x hx => ?_) (by rw [hl, List.length_range]), fun i k hk => ⟨(hm.at_ i k hk).2.1, (hm.at_ i k hk).2.2.1⟩⟩
  obtain ⟨i, hi⟩ := List.getElem?_of_mem hx
  exact List.mem_range.mpr (hm.at_ i x hi).1
theorem mem_ins {ws : List (Int × Int)} {a b : Int} {i : Nat} : i ∈ (List.range ws.length).filter (insB ws a b) ↔ i < ws.length ∧ a ≤ firstI ws i ∧ lastI ws i ≤ b := by
  rw [List.mem_filter, List.mem_range]
  constructor
  · rintro ⟨h1, h2⟩
    refine ⟨h1, ?_⟩
    unfold insB at h2
    unfold firstI lastI
    rw [List.getElem?_eq_getElem h1] at h2 ⊢
    simpa using h2
  · rintro ⟨h1, h2⟩
    refine ⟨h1, ?_⟩
    unfold insB
    unfold firstI lastI at h2
    rw [List.getElem?_eq_getElem h1] at h2 ⊢
    simpa using h2
theorem ins_len (ws : List (Int × Int)) (a b : Int) : (inside ws a b).length = ((List.range ws.length).filter (insB ws a b)).length := by
  unfold inside
  exact List.length_map _
theorem nodup_range_filter (n : Nat) (p : Nat → Bool) : ((List.range n).filter p).Nodup := (List.Pairwise.filter _ List.pairwise_lt_range).imp fun h => Nat.ne_of_lt h
/-- an order leaves no span too full -/
theorem ord_surp {ws : List (Int × Int)} {row : List Nat} (h : IsOrd ws row) (a b : Int) (ha : 1 ≤ a) : surp ws a b ≤ 0 := by
  have hr : ∀ k, k < ws.length → ∃ i, row[i]? = some k := fun k hk => List.getElem?_of_mem (h.1.mem_iff.mpr (List.mem_range.mpr hk))
  have key : ((List.range ws.length).filter (insB ws a b)).length ≤ (b - a + 1).toNat := by
    have hd : ∀ k, k ∈ (List.range ws.length).filter (insB ws a b) → row[row.idxOf k]? = some k ∧ a ≤ (row.idxOf k : Int) + 1 ∧ (row.idxOf k : Int) + 1 ≤ b := fun k hk => by
      obtain ⟨h1, h2, h3⟩ := mem_ins.mp hk
      have hm : k ∈ row := h.1.mem_iff.mpr (List.mem_range.mpr h1)
      have e : row[row.idxOf k]? = some k := by
        rw [List.getElem?_eq_getElem (List.idxOf_lt_length_of_mem hm), List.getElem_idxOf]
      obtain ⟨g1, g2⟩ := h.2 _ _ e
      exact ⟨e, by omega, by omega⟩
    have := len_sub (S := ((List.range ws.length).filter (insB ws a b)).map fun k => row.idxOf k + 1 - a.toNat) (T := List.range (b - a + 1).toNat) ?_ ?_
    · rw [List.length_map, List.length_range] at this
      exact this
    · rw [List.Nodup, List.pairwise_map]
      refine List.Pairwise.imp_of_mem ?_ (nodup_range_filter ws.length (insB ws a b))
      intro x y hx hy hne z
      obtain ⟨e1, a1, _⟩ := hd x hx
      obtain ⟨e2, a2, _⟩ := hd y hy
      have : row.idxOf x = row.idxOf y := by omega
      rw [this, e2] at e1
      exact hne (Option.some.inj e1).symm
    · intro x hx
      obtain ⟨k, hk, rfl⟩ := List.mem_map.mp hx
      obtain ⟨_, a1, b1⟩ := hd k hk
      exact List.mem_range.mpr (by omega)
  unfold surp roundsB
  rw [ins_len]
  split <;> omega
/-- where the greedy finds no order, some span is too full -/
theorem hall {ws : List (Int × Int)} (hb : ∀ k, k < ws.length → (1 ≤ firstI ws k ∧ firstI ws k ≤ ws.length) ∧ 1 ≤ lastI ws k ∧ lastI ws k ≤ ws.length) (h : greedy ws ws.length = none) :
    ∃ a b : Int, 1 ≤ a ∧ a ≤ ws.length ∧ 1 ≤ b ∧ b ≤ ws.length ∧ 0 < surp ws a b := by
  obtain ⟨row, hl, hm, hc⟩ := greedy_fail h
  have fin : ∀ (S : List Nat) (a b : Int), S.Nodup → (∀ x ∈ S, x < ws.length ∧ a ≤ firstI ws x ∧ lastI ws x ≤ b) → (if b - a + 1 > 0 then b - a + 1 else 0) < (S.length : Int) → 0 < surp ws a b := fun S a b hn hS hlt => by
    have := len_sub hn fun x hx => mem_ins.mpr (hS x hx)
    unfold surp roundsB
    rw [ins_len]
    omega
  rcases hc with e | ⟨e, l⟩
  · -- nobody is ready: all that are free come later
    have hf : ∀ x, x < ws.length → x ∉ row → (row.length : Int) + 2 ≤ firstI ws x := fun x h1 h2 => by
      by_cases z : firstI ws x ≤ (row.length : Int) + 1
      · have := mem_rdy.mpr ⟨⟨h1, h2⟩, z⟩
        rw [e] at this
        exact absurd this List.not_mem_nil
      · omega
    have hlen : ws.length ≤ row.length + (freeI ws.length row).length := by
      have := len_sub (S := List.range ws.length) (T := row ++ freeI ws.length row) List.nodup_range fun x hx => by
        by_cases z : x ∈ row
        · exact List.mem_append_left _ z
        · exact List.mem_append_right _ (mem_free.mpr ⟨List.mem_range.mp hx, z⟩)
      rw [List.length_range, List.length_append] at this
      exact this
    obtain ⟨x, hx⟩ : ∃ x, x ∈ freeI ws.length row := List.exists_mem_of_length_pos (by omega)
    obtain ⟨x1, x2⟩ := mem_free.mp hx
    have hx3 := hf x x1 x2
    have hx4 := (hb x x1).1.2
    refine ⟨(row.length : Int) + 2, ws.length, by omega, by omega, by omega, by omega, fin (freeI ws.length row) _ _ (nodup_range_filter _ _) (fun y hy => ?_) ?_⟩
    · obtain ⟨y1, y2⟩ := mem_free.mp hy
      exact ⟨y1, hf y y1 y2, (hb y y1).2.2⟩
    · split <;> omega
  · -- the first to end is too late
    obtain ⟨⟨c1, c2⟩, c3⟩ := mem_rdy.mp (best_mem (f := lastI ws) e)
    generalize bestI (lastI ws) (rdyI ws row ((row.length : Int) + 1)) = c at c1 c2 c3 l
    obtain ⟨⟨b1, b2⟩, b3, b4⟩ := hb c c1
    obtain ⟨L, hL⟩ : ∃ L : Nat, lastI ws c = (L : Int) := ⟨(lastI ws c).toNat, by omega⟩
    have hu : ∀ m : Nat, m ≤ L → ∃ u : Nat, u ≤ m ∧ (u = 0 ∨ ∃ k, row[u - 1]? = some k ∧ (L : Int) < lastI ws k) ∧ ∀ v, u ≤ v → v < m → ∀ k, row[v]? = some k → lastI ws k ≤ L := by
      intro m
      induction m with
      | zero => intro _; exact ⟨0, by omega, .inl rfl, fun v _ hv => by omega⟩
      | succ m ih =>
        intro hm1
        obtain ⟨u, u1, u2, u3⟩ := ih (by omega)
        by_cases z : ∃ k, row[m]? = some k ∧ (L : Int) < lastI ws k
        · exact ⟨m + 1, by omega, .inr (by rw [Nat.add_sub_cancel]; exact z), fun v h1 h2 => by omega⟩
        · refine ⟨u, by omega, u2, fun v h1 h2 k hk => ?_⟩
          by_cases y : v = m
          · subst y
            by_cases w : lastI ws k ≤ L
            · exact w
            · exact absurd ⟨k, hk, by omega⟩ z
          · exact u3 v h1 (by omega) k hk
    obtain ⟨u, u1, u2, u3⟩ := hu L (Nat.le_refl _)
    -- the crowd: those of the rounds u + 1 .. L, and c
    have hlate : ∀ x, x < ws.length → lastI ws x ≤ L → (∀ i : Nat, i + 1 < u + 1 → row[i]? ≠ some x) → (u : Int) + 1 ≤ firstI ws x := fun x x1 x2 x3 => by
      rcases u2 with rfl | ⟨k, hk, hk2⟩
      · have := (hb x x1).1.1
        omega
      · by_cases z : firstI ws x ≤ (u : Int)
        · have hu0 : u - 1 < row.length := (List.getElem?_eq_some_iff.mp hk).1
          by_cases u0 : u = 0
          · subst u0
            have := (hb x x1).1.1
            omega
          · have := (hm.at_ (u - 1) k hk).2.2.2 x x1 (fun hx => by
              obtain ⟨i, hi⟩ := List.getElem?_of_mem hx
              have hi2 := (List.getElem?_eq_some_iff.mp hi).1
              rw [List.length_take] at hi2
              rw [List.getElem?_take_of_lt (by omega)] at hi
              exact x3 i (by omega) hi) (by omega)
            omega
        · omega
    have hS : ∀ x ∈ (row.take L).drop u, ∃ v, u ≤ v ∧ v < L ∧ row[v]? = some x := fun x hx => by
      obtain ⟨i, hi⟩ := List.getElem?_of_mem hx
      rw [List.getElem?_drop] at hi
      have hi2 := (List.getElem?_eq_some_iff.mp hi).1
      rw [List.length_take] at hi2
      rw [List.getElem?_take_of_lt (by omega)] at hi
      exact ⟨u + i, by omega, by omega, hi⟩
    refine ⟨(u : Int) + 1, L, by omega, by omega, by omega, by omega, fin ((row.take L).drop u ++ [c]) _ _ ?_ (fun x hx => ?_) ?_⟩
    · rw [List.nodup_append]
      refine ⟨(hm.nd.sublist (List.take_sublist _ _)).sublist (List.drop_sublist _ _), by simp, fun x hx y hy z => ?_⟩
      obtain ⟨v, _, _, hv⟩ := hS x hx
      rw [List.mem_singleton.mp hy] at z
      exact c2 (by rw [← z]; exact List.mem_of_getElem? hv)
    · rcases List.mem_append.mp hx with hx | hx
      · obtain ⟨v, v1, v2, hv⟩ := hS x hx
        have hv3 := (hm.at_ v x hv).1
        have hv4 := u3 v v1 v2 x hv
        refine ⟨hv3, hlate x hv3 hv4 fun i hi z => ?_, hv4⟩
        have := (List.getElem?_inj (List.getElem?_eq_some_iff.mp z).1 hm.nd).mp (z.trans hv.symm)
        omega
      · rw [List.mem_singleton.mp hx]
        exact ⟨c1, hlate c c1 (by omega) fun i hi z => c2 (List.mem_of_getElem? z), by omega⟩
    · rw [List.length_append, List.length_drop, List.length_take, List.length_singleton]
      split <;> omega
/-- a fullest span is a bar where there is no order -/
theorem full_bar {ws : List (Int × Int)} {a b : Int} (hb : ∀ k, k < ws.length → (1 ≤ firstI ws k ∧ firstI ws k ≤ ws.length) ∧ 1 ≤ lastI ws k ∧ lastI ws k ≤ ws.length) (h : greedy ws ws.length = none) (hf : Full ws a b) : 0 < surp ws a b := by
  obtain ⟨c, d, c1, c2, d1, d2, e⟩ := hall hb h
  have := hf.2 c d c1 c2 d1 d2
  omega

end Su
namespace Su
/-! ### orders, bars and the greedy one -/
theorem isOrd_of {ws : List (Int × Int)} {row : List Nat} (h : IsOrd ws row) : isOrd ws (natI row) = true :=
  isOrd_yes ((sortI_eq _ _).mpr (nat_perm.mpr h.1)) fun j hj => by
    rw [natI_len] at hj
    obtain ⟨k, hk⟩ : ∃ k, row[j]? = some k := ⟨_, List.getElem?_eq_getElem hj⟩
    have hkl : k < ws.length := List.mem_range.mp (h.1.mem_iff.mp (List.mem_of_getElem? hk))
    obtain ⟨h1, h2⟩ := h.2 j k hk
    unfold inRound
    rw [natI_some hk]
    show (match ws[((k : Nat) : Int).toNat]? with | some w => _ | none => _) = true
    unfold firstI at h1
    unfold lastI at h2
    rw [List.getElem?_eq_getElem hkl] at h1 h2
    have h1 : ws[k].1 ≤ (j : Int) + 1 := h1
    have h2 : (j : Int) + 1 ≤ ws[k].2 := h2
    rw [Int.toNat_natCast, List.getElem?_eq_getElem hkl]
    show (decide _ && decide _) = true
    rw [decide_eq_true (by omega), decide_eq_true (by omega)]
    rfl
def Bnd (ws : List (Int × Int)) : Prop := ∀ k, k < ws.length → (1 ≤ firstI ws k ∧ firstI ws k ≤ ws.length) ∧ 1 ≤ lastI ws k ∧ lastI ws k ≤ ws.length
theorem bnd_of {qs : List Win} {n : Nat} (h : qs.length = n) (hb : ∀ q ∈ qs, 1 ≤ q.2.1 ∧ q.2.1 ≤ n ∧ 1 ≤ q.2.2 ∧ q.2.2 ≤ n) : Bnd (wsOf qs) := fun k hk => by
  rw [ws_len] at hk ⊢
  obtain ⟨q, gq⟩ : ∃ q, qs[k]? = some q := ⟨_, List.getElem?_eq_getElem hk⟩
  rw [win_first gq, win_last gq, h]
  obtain ⟨a, b, c, d⟩ := hb q (List.mem_of_getElem? gq)
  exact ⟨⟨a, b⟩, c, d⟩
/-- where there is an order, the greedy finds one -/
theorem ord_greedy {ws : List (Int × Int)} {r : List Nat} (hb : Bnd ws) (h : IsOrd ws r) : ∃ row, greedy ws ws.length = some row ∧ IsOrd ws row := by
  cases hg : greedy ws ws.length with
  | none =>
    obtain ⟨a, b, a1, _, _, _, hs⟩ := hall hb hg
    have := ord_surp h a b a1
    omega
  | some row => exact ⟨row, rfl, greedy_ord hg⟩

end Su
namespace Su
/-! ### windows around the drawn order -/
theorem s_viaU {te : TE} {g : TG} {D : Ends} {σ : L2.St} {H : Hp} {xs : List V} (h : EvU te σ H xs) (k : ∀ t H1, H t = none → Ex H H1 → H1 t = some (.tup xs) → tAsg (tC (.ref t)) g D σ H1) : tAsg te g D σ H := h H (Ex.refl H) _ fun t H1 ht e1 h1 => k t H1 ht e1 h1
def tRefs (p : Addr) : TA := fun _ H Q => Q [.ref p] H
theorem ea_refs {p : Addr} {σ : L2.St} {H : Hp} : EvA (tRefs p) σ H [.ref p] := fun H1 _ _ q => q H1 (Ex.refl H1)
/-- for .. in enumerate(f(..)), where f hands back a new list -/
theorem s_forEc {K : PySem.W.Frag} {g : TG} {tb : TS} {D : Ends} {σ : L2.St} {H : Hp} {ta : TA} {sp : Sp} {vs : List V} {E : XK} {P : List V → Prop} (h : EvA ta σ H vs) (hs : SpN sp (vs ++ []) H P)
    (k : ∀ xs p H1, P xs → H p = none → Ex H H1 → H1 p = some (.lst xs) → tFor (iEnum K (tRefs p)) g tb D σ H1) : tFor (iEnum K (tCons (tCall sp [] E ta) tNil)) g tb D σ H :=
  h H (Ex.refl H) _ fun H1 e1 => hs H1 e1 _ (fun xs p H2 hP hp e2 h2 => k xs p H2 hP (fresh_back e1 hp) (e1.trans e2) h2) E
/-- x = [e] * n, e a new tuple -/
theorem q_repU {te tb : TE} {D : Ends} {σ : L2.St} {H : Hp} {tz : TS} {i : Nat} {xs : List V} {n : Int} (h : EvU te σ H xs) (hb : ∀ H1, Ex H H1 → Ev tb σ H1 (.int n)) (h0 : 0 ≤ n) (h1 : n ≤ 100000)
    (k : ∀ t p H1, H t = none → H p = none → Ex H H1 → H1 t = some (.tup xs) → H1 p = some (.lst (List.replicate n.toNat (.ref t))) → tz D (σ.set i (some (.ref p))) H1) : tSeq (tAsg (tOp rRep (tLst (tCons te tNil)) tb) (gName i)) tz D σ H :=
  h H (Ex.refl H) _ fun t H1 ht e1 h2 => ⟨by show 1 ≤ sizeLine; decide, fun p0 hp0 => hb _ (e1.trans (Ex.new hp0)) _ (Ex.refl _) _ fun H3 e3 => ⟨p0, n, [.ref t], rfl, rfl, e3 p0 _ upd_same, by omega, by omega, sz_of (by show 1 * n.toNat ≤ _; omega), fun r hr => by
    rw [flat1]
    have ex := (e1.trans (Ex.new hp0)).trans e3
    exact k t r _ ht (fresh_back ex hr) (ex.trans (Ex.new hr)) (by rw [upd_ne (ne_of_none (((Ex.new hp0).trans e3) t _ h2) hr)]; exact ((Ex.new hp0).trans e3) t _ h2) upd_same⟩⟩
theorem refs_set {qs : List Win} {j : Nat} {q : Win} : refs (qs.set j q) = (refs qs).set j (.ref q.1) := by
  unfold refs
  rw [List.map_set]
theorem TW.set {H : Hp} {qs : List Win} {j : Nat} {q : Win} (h : TW H qs) (hq : H q.1 = some (.tup [.int q.2.1, .int q.2.2])) : TW H (qs.set j q) := fun r hr => by
  rcases List.mem_or_eq_of_mem_set hr with h' | h'
  · exact h r h'
  · rw [h']; exact hq
theorem int_at {ns : List Int} {i : Nat} {x : V} (h : (ns.map V.int)[i]? = some x) : ∃ n, x = .int n ∧ ns[i]? = some n := by
  rw [List.getElem?_map] at h
  cases hc : ns[i]? with
  | none => rw [hc] at h; cases h
  | some c => rw [hc] at h; exact ⟨c, (Option.some.inj h).symm, rfl⟩
theorem in_rg {z : Int} {n : Nat} (h : z ∈ rgI n) : ∃ j : Nat, z = (j : Int) ∧ j < n := by
  obtain ⟨j, hj, rfl⟩ := List.mem_map.mp h
  exact ⟨j, rfl, List.mem_range.mp hj⟩
theorem perm_len {ns : List Int} {n : Nat} (h : ns.Perm (rgI n)) : ns.length = n := by
  have := h.length_eq
  unfold rgI at this
  rw [List.length_map, List.length_range] at this
  exact this

end Su
namespace Su
/-! ### a row spoilt -/
theorem cut_to (xs : List V) (k : Nat) : cutV xs none (some (k : Int)) = xs.take k := by
  unfold cutV
  rw [HT.sIx_nat, HT.sIx_none, List.drop_zero, Nat.sub_zero]
  by_cases h : k ≤ xs.length
  · rw [Nat.min_eq_left h]
  · rw [Nat.min_eq_right (by omega), List.take_of_length_le (Nat.le_refl _), List.take_of_length_le (by omega)]
theorem el_cat {ta tb : TE} {σ : L2.St} {H : Hp} {xs ys : List V} (ha : EvL ta σ H xs) (hb : EvL tb σ H ys) (hz : xs.length + ys.length ≤ 100000) : EvL (tOp rCat ta tb) σ H (xs ++ ys) := fun H1 e Q q =>
  ha H1 e _ fun p H2 hp e2 h2 => hb H2 (e.trans e2) _ fun p2 H3 hp3 e3 h3 => ⟨p, p2, xs, ys, rfl, rfl, e3 p _ h2, h3, sz_of hz, fun r hr => q r _ (fresh_back (e2.trans e3) hr) ((e2.trans e3).trans (Ex.new hr)) upd_same⟩
theorem q_asgSub {l : Addr} {xs : List V} {z : Int} {j : Nat} {te ta tb : TE} {σ : L2.St} {H : Hp} {v : V} {D : Ends} {tz : TS} (hl : H l = some (.lst xs)) (h : Ev te σ H v) (ho : Ev ta σ H (.ref l)) (hi : Ev tb σ H (.int z)) (hz : z = (j : Int)) (hj : j < xs.length)
    (k : ∀ H1, Ex H H1 → tz D σ (upd H1 l (.lst (xs.set j v)))) : tSeq (tAsg te (gSub ta tb rSetL)) tz D σ H := s_asgSub (D := { D with nx := tz D }) hl h ho hi hz hj k
theorem ints_set (ms : List Int) (j : Nat) (v : Int) : (ms.map V.int).set j (.int v) = (ms.set j v).map V.int := (List.map_set).symm
theorem at5 {a b c d e z : Int} (h0 : 0 ≤ z) (h : z < 5) : ∃ v : Int, atI [V.int a, .int b, .int c, .int d, .int e] z = some (.int v) := by
  have h4 : z = 0 ∨ z = 1 ∨ z = 2 ∨ z = 3 ∨ z = 4 := by omega
  rcases h4 with rfl | rfl | rfl | rfl | rfl
  · exact ⟨a, rfl⟩
  · exact ⟨b, rfl⟩
  · exact ⟨c, rfl⟩
  · exact ⟨d, rfl⟩
  · exact ⟨e, rfl⟩
theorem int_eqd {i j : Int} : decide (V.int i = V.int j) = decide (i = j) := by
  by_cases h : i = j
  · rw [h, decide_eq_true rfl, decide_eq_true rfl]
  · rw [decide_eq_false h, decide_eq_false (fun z => h (V.int.inj z))]

end Su
namespace Su
section
variable {P : Program} {w : World} {K : PySem.W.Frag} {mg : Str → Option Value} {base : Heap}
def spWhole : Sp := fun vs H Q _ => ∃ i : Int, vs = [.int i] ∧ ∀ H', Ex H H' → Q (.bl true) H'
theorem spV_whole {i : Int} {H : Hp} : SpV spWhole [.int i] H (.bl true) := fun H1 _ Q q _ => ⟨i, rfl, q⟩
theorem ok__law_whole {f : Addr} {fd : FuncData} {k : Nat} (F : Fun K "_law_whole" "_law_whole" s__law_whole f fd) (T : Top K mg) : FnOk P w K mg base CX0 (k + 1) f fd ["_law_told"] spWhole := by
  have nd := sc__law_whole.nd
  refine F.ok sc__law_whole (fun vs H Q E h => ?_) (fun cdv A outer s H vs Q E hr h => ?_)
  · obtain ⟨a, rfl, _⟩ := h
    rfl
  · obtain ⟨i, rfl, q⟩ := h
    refine ⟨_, (pss_one (ps_ret (pe_and (pe_callB call_isi (by rfl) T.m_isinstance (by decide +kernel) (pa_cons (pv 0) (pa_cons (pe_bltn (v := .ty "int") (by rfl) T.m_int (by decide +kernel) rfl) pa_nil))) (pe_one (pe_not (pe_callB call_isi (by rfl) T.m_isinstance (by decide +kernel) (pa_cons (pv 0) (pa_cons (pe_bltn (v := .ty "bool") (by rfl) T.m_bool (by decide +kernel) rfl) pa_nil)))))))), ?_⟩
    refine s_ret (by walk_at "ev") fun H1 e1 => ?_
    exact q H1 e1
end

end Su
namespace Su
/-! ### bars, walked -/
theorem inside_ris (ws : List (Int × Int)) (a b : Int) : (inside ws a b).Pairwise (· < ·) := by
  unfold inside
  rw [List.pairwise_map]
  exact ((List.pairwise_lt_range (n := ws.length)).filter _).imp fun {i j} h => by omega
theorem mem_inside {ws : List (Int × Int)} {a b z : Int} : z ∈ inside ws a b ↔ (0 ≤ z ∧ z < ws.length) ∧ insB ws a b z.toNat = true := by
  unfold inside
  rw [List.mem_map]
  refine ⟨fun ⟨i, hi, e⟩ => ?_, fun ⟨⟨h0, h1⟩, h2⟩ => ⟨z.toNat, List.mem_filter.mpr ⟨List.mem_range.mpr (by omega), h2⟩, by omega⟩⟩
  obtain ⟨h1, h2⟩ := List.mem_filter.mp hi
  have := List.mem_range.mp h1
  subst e
  exact ⟨⟨by omega, by omega⟩, by rw [Int.toNat_natCast]; exact h2⟩
theorem ris_unique : ∀ {l m : List Int}, l.Pairwise (· < ·) → m.Pairwise (· < ·) → (∀ z, z ∈ l ↔ z ∈ m) → l = m
  | [], [], _, _, _ => rfl
  | [], b :: s, _, _, h => absurd ((h b).mpr List.mem_cons_self) List.not_mem_nil
  | a :: r, [], _, _, h => absurd ((h a).mp List.mem_cons_self) List.not_mem_nil
  | a :: r, b :: s, hl, hm, h => by
    obtain ⟨l1, l2⟩ := List.pairwise_cons.mp hl
    obtain ⟨m1, m2⟩ := List.pairwise_cons.mp hm
    have e : a = b := by
      rcases List.mem_cons.mp ((h a).mp List.mem_cons_self) with e | h1
      · exact e
      · rcases List.mem_cons.mp ((h b).mpr List.mem_cons_self) with e | h2
        · exact e.symm
        · have := l1 b h2
          have := m1 a h1
          omega
    subst e
    rw [ris_unique l2 m2 fun z => ?_]
    have hz := h z
    rw [List.mem_cons, List.mem_cons] at hz
    refine ⟨fun hr => ?_, fun hs => ?_⟩
    · rcases hz.mp (.inr hr) with e | k
      · have := l1 z hr
        omega
      · exact k
    · rcases hz.mpr (.inr hs) with e | k
      · have := m1 z hs
        omega
      · exact k
theorem bar_list {ws : List (Int × Int)} {a b : Int} {ns : List Int} : (ns = (inside ws a b).filter fun z => decide (z ∈ ns)) ↔ ns.Pairwise (· < ·) ∧ ∀ z ∈ ns, z ∈ inside ws a b := by
  refine ⟨fun h => ⟨?_, fun z hz => ?_⟩, fun ⟨h1, h2⟩ => ?_⟩
  · rw [h]
    exact (inside_ris ws a b).filter _
  · rw [h] at hz
    exact (List.mem_filter.mp hz).1
  · refine ris_unique h1 ((inside_ris ws a b).filter _) fun z => ⟨fun hz => List.mem_filter.mpr ⟨h2 z hz, decide_eq_true hz⟩, fun hz => of_decide_eq_true (List.mem_filter.mp hz).2⟩
theorem isBar_no1 {ws : List (Int × Int)} {a b : Int} {ns : List Int} (h : ((decide (1 ≤ a) && decide (a ≤ (ws.length : Int))) && (decide (1 ≤ b) && decide (b ≤ (ws.length : Int)))) = false) : isBar ws a b ns = false := by
  unfold isBar
  rw [h, Bool.false_and]
theorem isBar_no2 {ws : List (Int × Int)} {a b : Int} {ns : List Int} (h : ¬ ns.Pairwise (· < ·)) : isBar ws a b ns = false := by
  unfold isBar
  rw [decide_eq_false (p := ns = _) (fun e => h (bar_list.mp e).1), Bool.false_and, Bool.and_false]
theorem isBar_no3 {ws : List (Int × Int)} {a b : Int} {ns : List Int} (h : ¬ (ns.length : Int) > roundsB a b) : isBar ws a b ns = false := by
  unfold isBar
  rw [decide_eq_false h, Bool.and_false, Bool.and_false]
theorem isBar_no4 {ws : List (Int × Int)} {a b z : Int} {ns : List Int} (hz : z ∈ ns) (h : ¬ z ∈ inside ws a b) : isBar ws a b ns = false := by
  unfold isBar
  rw [decide_eq_false (p := ns = _) (fun e => h ((bar_list.mp e).2 z hz)), Bool.false_and, Bool.and_false]
theorem isBar_yes {ws : List (Int × Int)} {a b : Int} {ns : List Int} (h1 : ((decide (1 ≤ a) && decide (a ≤ (ws.length : Int))) && (decide (1 ≤ b) && decide (b ≤ (ws.length : Int)))) = true) (h2 : ns.Pairwise (· < ·)) (h3 : (ns.length : Int) > roundsB a b) (h4 : ∀ z ∈ ns, z ∈ inside ws a b) : isBar ws a b ns = true := by
  unfold isBar
  rw [h1, decide_eq_true (p := ns = _) (bar_list.mpr ⟨h2, h4⟩), decide_eq_true h3]
  rfl

end Su
namespace Su
/-! ### the numbered orders: mathematics -/
def freeN (n h : Nat) : List Nat := (List.range n).filter fun k => !h.testBit k
def fitN (ws : List (Int × Int)) (t : Int) (k : Nat) : Bool := match ws[k]? with
  | some w => decide (w.1 ≤ t) && decide (t ≤ w.2)
  | none => false
def turnN (n h : Nat) : Int := (n : Int) - ((freeN n h).length : Int) + 1
def nxtN (ws : List (Int × Int)) (h : Nat) : List Nat := (freeN ws.length h).filter (fitN ws (turnN ws.length h))
def wayF (ws : List (Int × Int)) : Nat → Nat → Int
  | 0, _ => 1
  | f + 1, h => ((nxtN ws h).map fun k => wayF ws f (h ||| 2 ^ k)).sum
def way (ws : List (Int × Int)) (h : Nat) : Int := wayF ws (freeN ws.length h).length h
def preN (f : Nat → Int) (l : List Nat) (a : Nat) : Int := ((l.filter fun k => decide (k < a)).map f).sum
def lessN (ws : List (Int × Int)) (h a : Nat) : Int := preN (fun k => way ws (h ||| 2 ^ k)) (nxtN ws h) a
def numOf (ws : List (Int × Int)) : Nat → List Nat → Int
  | _, [] => 0
  | h, a :: r => lessN ws h a + numOf ws (h ||| 2 ^ a) r
def Path (ws : List (Int × Int)) : Nat → List Nat → Prop
  | h, [] => freeN ws.length h = []
  | h, a :: r => a ∈ nxtN ws h ∧ Path ws (h ||| 2 ^ a) r
theorem free_nodup (n h : Nat) : (freeN n h).Nodup := List.nodup_range.filter _
theorem free_mem {n h k : Nat} : k ∈ freeN n h ↔ k < n ∧ h.testBit k = false := by
  unfold freeN
  rw [List.mem_filter, List.mem_range, Bool.not_eq_true']
theorem bit_or {h a j : Nat} : (h ||| 2 ^ a).testBit j = (h.testBit j || decide (a = j)) := by rw [Nat.testBit_or, Nat.testBit_two_pow]
theorem free_or (n h a : Nat) : freeN n (h ||| 2 ^ a) = (freeN n h).erase a := by
  rw [(free_nodup n h).erase_eq_filter]
  unfold freeN
  rw [List.filter_filter]
  apply List.filter_congr
  intro j _
  rw [bit_or]
  by_cases e : a = j
  · subst e; simp
  · have e' : ¬ j = a := fun z => e z.symm
    cases h.testBit j <;> simp [e, e']
theorem free_or_len {n h a : Nat} (ha : a ∈ freeN n h) : (freeN n (h ||| 2 ^ a)).length + 1 = (freeN n h).length := by
  rw [free_or, List.length_erase_of_mem ha]
  have := List.length_pos_of_mem ha
  omega
theorem nxt_free {ws : List (Int × Int)} {h k : Nat} (hk : k ∈ nxtN ws h) : k ∈ freeN ws.length h := (List.mem_filter.mp hk).1
theorem nxt_lt {ws : List (Int × Int)} {h k : Nat} (hk : k ∈ nxtN ws h) : k < ws.length := (free_mem.mp (nxt_free hk)).1
theorem nxt_sorted (ws : List (Int × Int)) (h : Nat) : (nxtN ws h).Pairwise (· < ·) := (List.pairwise_lt_range.filter _).filter _
theorem way_full {ws : List (Int × Int)} {h : Nat} (he : freeN ws.length h = []) : way ws h = 1 := by
  unfold way
  rw [he]
  rfl
theorem way_step {ws : List (Int × Int)} {h : Nat} (he : freeN ws.length h ≠ []) : way ws h = ((nxtN ws h).map fun k => way ws (h ||| 2 ^ k)).sum := by
  unfold way
  obtain ⟨f, hf⟩ : ∃ f, (freeN ws.length h).length = f + 1 := ⟨(freeN ws.length h).length - 1, by have := List.length_pos_iff.mpr he; omega⟩
  rw [hf]
  show ((nxtN ws h).map fun k => wayF ws f (h ||| 2 ^ k)).sum = _
  congr 1
  apply List.map_congr_left
  intro k hk
  have := free_or_len (nxt_free hk)
  have e : (freeN ws.length (h ||| 2 ^ k)).length = f := by omega
  rw [e]
theorem sum_nonneg {l : List Int} (h : ∀ x ∈ l, 0 ≤ x) : 0 ≤ l.sum := by
  induction l with
  | nil => exact Int.le_refl 0
  | cons a r ih =>
    rw [List.sum_cons]
    have h1 := h a List.mem_cons_self
    have h2 := ih fun x hx => h x (List.mem_cons_of_mem _ hx)
    omega
theorem wayF_nonneg (ws : List (Int × Int)) : ∀ f h, 0 ≤ wayF ws f h
  | 0, _ => by show (0 : Int) ≤ 1; decide
  | f + 1, h => sum_nonneg fun x hx => by
    obtain ⟨k, _, rfl⟩ := List.mem_map.mp hx
    exact wayF_nonneg ws f _
theorem way_nonneg (ws : List (Int × Int)) (h : Nat) : 0 ≤ way ws h := wayF_nonneg ws _ h
section
variable {f : Nat → Int}
theorem pre_cons (x : Nat) (r : List Nat) (a : Nat) : preN f (x :: r) a = (if x < a then f x else 0) + preN f r a := by
  unfold preN
  by_cases h : x < a
  · rw [List.filter_cons_of_pos (by rw [decide_eq_true h]), List.map_cons, List.sum_cons, if_pos h]
  · rw [List.filter_cons_of_neg (by rw [decide_eq_false h]; decide), if_neg h, Int.zero_add]
theorem pre_nonneg (hf : ∀ k, 0 ≤ f k) (l : List Nat) (a : Nat) : 0 ≤ preN f l a := sum_nonneg fun x hx => by
  obtain ⟨k, _, rfl⟩ := List.mem_map.mp hx
  exact hf k
theorem pre_le (hf : ∀ k, 0 ≤ f k) {a b : Nat} (h : a ≤ b) : ∀ l, preN f l a ≤ preN f l b
  | [] => Int.le_refl _
  | x :: r => by
    have ih := pre_le hf h r
    have := hf x
    rw [pre_cons, pre_cons]
    split <;> split <;> omega
theorem pre_lt (hf : ∀ k, 0 ≤ f k) {a b : Nat} (h : a < b) : ∀ l, a ∈ l → preN f l a + f a ≤ preN f l b
  | [], ha => absurd ha List.not_mem_nil
  | x :: r, ha => by
    rw [pre_cons, pre_cons]
    have hx := hf x
    rcases List.mem_cons.mp ha with e | ha
    · subst e
      have := pre_le hf (Nat.le_of_lt h) r
      rw [if_neg (Nat.lt_irrefl _), if_pos h]
      omega
    · have ih := pre_lt hf h r ha
      split <;> split <;> omega
theorem pre_sum (hf : ∀ k, 0 ≤ f k) {a : Nat} : ∀ l, a ∈ l → preN f l a + f a ≤ (l.map f).sum
  | [], ha => absurd ha List.not_mem_nil
  | x :: r, ha => by
    have le : ∀ l, preN f l a ≤ (l.map f).sum := fun l => by
      induction l with
      | nil => exact Int.le_refl _
      | cons y s ih =>
        have := hf y
        rw [pre_cons, List.map_cons, List.sum_cons]
        split <;> omega
    rw [pre_cons, List.map_cons, List.sum_cons]
    have hx := hf x
    rcases List.mem_cons.mp ha with e | ha
    · subst e
      have := le r
      rw [if_neg (Nat.lt_irrefl _)]
      omega
    · have ih := pre_sum hf r ha
      split <;> omega
theorem pre_zero : ∀ (s : List Nat) (z : Nat), (∀ y ∈ s, z ≤ y) → preN f s z = 0
  | [], _, _ => rfl
  | y :: s, z, h => by
    rw [pre_cons, if_neg (by have := h y List.mem_cons_self; omega), pre_zero s z fun w hw => h w (List.mem_cons_of_mem _ hw)]
    rfl
theorem pre_best (hf : ∀ k, 0 ≤ f k) : ∀ (l : List Nat) (left : Int) (m : Nat), l.Pairwise (· < ·) → left < (l.map f).sum → m ∈ l → preN f l m ≤ left → (∀ y ∈ l, preN f l y ≤ left → y ≤ m) → left < preN f l m + f m
  | [], _, _, _, _, hm, _, _ => absurd hm List.not_mem_nil
  | x :: r, left, m, hp, hs, hm, hle, hmax => by
    obtain ⟨p1, p2⟩ := List.pairwise_cons.mp hp
    rw [List.map_cons, List.sum_cons] at hs
    rcases List.mem_cons.mp hm with e | hm
    · subst e
      rw [pre_cons, if_neg (Nat.lt_irrefl _), pre_zero r m fun y hy => Nat.le_of_lt (p1 y hy)]
      cases r with
      | nil =>
        rw [List.map_nil, List.sum_nil] at hs
        omega
      | cons y s =>
        have hy := p1 y List.mem_cons_self
        have py := hmax y (List.mem_cons_of_mem _ List.mem_cons_self)
        rw [pre_cons, if_pos hy, pre_zero (y :: s) y fun w hw => by
          rcases List.mem_cons.mp hw with e | hw
          · rw [e]; exact Nat.le_refl _
          · exact Nat.le_of_lt ((List.pairwise_cons.mp p2).1 w hw)] at py
        omega
    · have hx := p1 m hm
      rw [pre_cons, if_pos hx] at hle ⊢
      have := pre_best hf r (left - f x) m p2 (by omega) hm (by omega) fun y hy hle' => hmax y (List.mem_cons_of_mem _ hy) (by rw [pre_cons, if_pos (p1 y hy)]; omega)
      omega
theorem pre_first (hf : ∀ k, 0 ≤ f k) {l : List Nat} {left : Int} (hp : l.Pairwise (· < ·)) (h0 : 0 ≤ left) (hs : left < (l.map f).sum) : ∃ x ∈ l, preN f l x ≤ left := by
  cases l with
  | nil =>
    rw [List.map_nil, List.sum_nil] at hs
    omega
  | cons x r =>
    refine ⟨x, List.mem_cons_self, ?_⟩
    have z : (x :: r).filter (fun k => decide (k < x)) = [] := by
      rw [List.filter_eq_nil_iff]
      intro y hy
      rcases List.mem_cons.mp hy with e | hy
      · rw [e, decide_eq_false (Nat.lt_irrefl _)]; decide
      · have := (List.pairwise_cons.mp hp).1 y hy
        rw [decide_eq_false (by omega)]; decide
    unfold preN
    rw [z]
    exact h0
end
theorem less_nonneg (ws : List (Int × Int)) (h a : Nat) : 0 ≤ lessN ws h a := pre_nonneg (fun k => way_nonneg ws _) _ _
theorem less_lt {ws : List (Int × Int)} {h a b : Nat} (hab : a < b) (ha : a ∈ nxtN ws h) : lessN ws h a + way ws (h ||| 2 ^ a) ≤ lessN ws h b := pre_lt (f := fun k => way ws (h ||| 2 ^ k)) (fun k => way_nonneg ws _) hab _ ha
theorem free_ne {n h a : Nat} (ha : a ∈ freeN n h) : freeN n h ≠ [] := fun e => by rw [e] at ha; cases ha
theorem less_way {ws : List (Int × Int)} {h a : Nat} (ha : a ∈ nxtN ws h) : lessN ws h a + way ws (h ||| 2 ^ a) ≤ way ws h := by
  rw [way_step (free_ne (nxt_free ha))]
  exact pre_sum (f := fun k => way ws (h ||| 2 ^ k)) (fun k => way_nonneg ws _) _ ha
theorem path_num {ws : List (Int × Int)} : ∀ (r : List Nat) (h : Nat), Path ws h r → 0 ≤ numOf ws h r ∧ numOf ws h r < way ws h
  | [], h, p => by
    rw [way_full p]
    exact ⟨Int.le_refl _, by show (0 : Int) < 1; decide⟩
  | a :: r, h, ⟨ha, p⟩ => by
    have ⟨i1, i2⟩ := path_num r _ p
    have := less_way ha
    have := less_nonneg ws h a
    show 0 ≤ lessN ws h a + numOf ws (h ||| 2 ^ a) r ∧ lessN ws h a + numOf ws (h ||| 2 ^ a) r < _
    omega
theorem path_less {ws : List (Int × Int)} {h a b : Nat} {r s : List Nat} (p : Path ws h (a :: r)) (q : Path ws h (b :: s)) (hab : a < b) : numOf ws h (a :: r) < numOf ws h (b :: s) := by
  have := (path_num r _ p.2).2
  have := (path_num s _ q.2).1
  have := less_lt hab p.1
  show lessN ws h a + numOf ws (h ||| 2 ^ a) r < lessN ws h b + numOf ws (h ||| 2 ^ b) s
  omega
theorem path_len {ws : List (Int × Int)} : ∀ (r : List Nat) (h : Nat), Path ws h r → r.length = (freeN ws.length h).length
  | [], h, p => by
    have p : freeN ws.length h = [] := p
    rw [p]
  | a :: r, h, ⟨ha, p⟩ => by
    have := path_len r _ p
    have := free_or_len (nxt_free ha)
    rw [List.length_cons]
    omega
theorem path_inj {ws : List (Int × Int)} : ∀ (r s : List Nat) (h : Nat), Path ws h r → Path ws h s → numOf ws h r = numOf ws h s → r = s
  | [], [], _, _, _, _ => rfl
  | [], b :: s, h, p, q, _ => absurd p (free_ne (nxt_free q.1))
  | a :: r, [], h, p, q, _ => absurd q (free_ne (nxt_free p.1))
  | a :: r, b :: s, h, p, q, e => by
    rcases Nat.lt_trichotomy a b with c | c | c
    · have := path_less p q c
      omega
    · subst c
      have e : lessN ws h a + numOf ws (h ||| 2 ^ a) r = lessN ws h a + numOf ws (h ||| 2 ^ a) s := e
      rw [path_inj r s _ p.2 q.2 (by omega)]
    · have := path_less q p c
      omega
/-- less at the first place where two rows differ -/
def lexN : List Nat → List Nat → Bool
  | a :: r, b :: s => if a = b then lexN r s else decide (a < b)
  | _, _ => false
theorem path_lex {ws : List (Int × Int)} : ∀ (r s : List Nat) (h : Nat), Path ws h r → Path ws h s → numOf ws h r < numOf ws h s → lexN r s = true
  | [], [], _, _, _, e => absurd e (Int.lt_irrefl _)
  | [], b :: s, h, p, q, _ => absurd p (free_ne (nxt_free q.1))
  | a :: r, [], h, p, q, _ => absurd q (free_ne (nxt_free p.1))
  | a :: r, b :: s, h, p, q, e => by
    show (if a = b then lexN r s else decide (a < b)) = true
    rcases Nat.lt_trichotomy a b with c | c | c
    · rw [if_neg (Nat.ne_of_lt c)]
      exact decide_eq_true c
    · subst c
      have e : lessN ws h a + numOf ws (h ||| 2 ^ a) r < lessN ws h a + numOf ws (h ||| 2 ^ a) s := e
      rw [if_pos rfl]
      exact path_lex r s _ p.2 q.2 (by omega)
    · have := path_less q p c
      omega
theorem path_perm {ws : List (Int × Int)} : ∀ (r : List Nat) (h : Nat), Path ws h r → (freeN ws.length h).Perm r
  | [], h, p => by
    have p : freeN ws.length h = [] := p
    rw [p]
  | a :: r, h, ⟨ha, p⟩ => by
    have ih := path_perm r _ p
    rw [free_or] at ih
    exact (List.perm_cons_erase (nxt_free ha)).trans (List.Perm.cons _ ih)
theorem path_fit {ws : List (Int × Int)} : ∀ (r : List Nat) (h : Nat), Path ws h r → ∀ (j : Nat) a, r[j]? = some a → fitN ws ((ws.length : Int) - r.length + 1 + j) a = true
  | [], h, _, j, a, e => by rw [List.getElem?_nil] at e; cases e
  | a :: r, h, ⟨ha, p⟩, 0, b, e => by
    cases e
    have hf := (List.mem_filter.mp ha).2
    have hl := path_len (a :: r) h ⟨ha, p⟩
    unfold turnN at hf
    rw [← hl] at hf
    rw [show ((0 : Nat) : Int) = 0 from rfl, Int.add_zero]
    exact hf
  | a :: r, h, ⟨ha, p⟩, j + 1, b, e => by
    have := path_fit r _ p j b (by rw [List.getElem?_cons_succ] at e; exact e)
    rw [List.length_cons]
    have z : (ws.length : Int) - ((r.length + 1 : Nat) : Int) + 1 + ((j + 1 : Nat) : Int) = (ws.length : Int) - r.length + 1 + j := by omega
    rw [z]
    exact this
theorem path_of {ws : List (Int × Int)} : ∀ (r : List Nat) (h : Nat), (freeN ws.length h).Perm r → (∀ (j : Nat) a, r[j]? = some a → fitN ws ((ws.length : Int) - r.length + 1 + j) a = true) → Path ws h r
  | [], h, hp, _ => List.perm_nil.mp hp
  | a :: r, h, hp, hf => by
    have hm : a ∈ freeN ws.length h := hp.mem_iff.mpr List.mem_cons_self
    have h0 := hf 0 a rfl
    rw [show ((0 : Nat) : Int) = 0 from rfl, Int.add_zero] at h0
    refine ⟨List.mem_filter.mpr ⟨hm, ?_⟩, path_of r _ ?_ fun j b e => ?_⟩
    · unfold turnN
      rw [hp.length_eq]
      exact h0
    · rw [free_or]
      have := hp.erase a
      rw [List.erase_cons_head] at this
      exact this
    · have := hf (j + 1) b (by rw [List.getElem?_cons_succ]; exact e)
      rw [List.length_cons] at this
      have z : (ws.length : Int) - ((r.length + 1 : Nat) : Int) + 1 + ((j + 1 : Nat) : Int) = (ws.length : Int) - r.length + 1 + j := by omega
      rw [z] at this
      exact this
theorem free_zero (n : Nat) : freeN n 0 = List.range n := by
  unfold freeN
  rw [List.filter_eq_self]
  intro k _
  rw [Nat.zero_testBit]
  rfl
theorem free_full (n : Nat) : freeN n (2 ^ n - 1) = [] := by
  unfold freeN
  rw [List.filter_eq_nil_iff]
  intro k hk
  rw [Nat.testBit_two_pow_sub_one, decide_eq_true (List.mem_range.mp hk)]
  decide
theorem free_some {n h : Nat} (hh : h < 2 ^ n - 1) : freeN n h ≠ [] := fun e => by
  have : h = 2 ^ n - 1 := by
    apply Nat.eq_of_testBit_eq
    intro j
    rw [Nat.testBit_two_pow_sub_one]
    by_cases hj : j < n
    · rw [decide_eq_true hj]
      cases hb : h.testBit j with
      | true => rfl
      | false =>
        have : j ∈ freeN n h := free_mem.mpr ⟨hj, hb⟩
        rw [e] at this
        cases this
    · rw [decide_eq_false hj]
      exact Nat.testBit_lt_two_pow (Nat.lt_of_lt_of_le (by omega : h < 2 ^ n) (Nat.pow_le_pow_right (by decide) (by omega)))
  omega
theorem or_gt {h k : Nat} (hb : h.testBit k = false) : h < h ||| 2 ^ k := by
  have h1 : h ≤ h ||| 2 ^ k := Nat.left_le_or
  rcases Nat.lt_or_eq_of_le h1 with c | c
  · exact c
  · have : (h ||| 2 ^ k).testBit k = true := by rw [bit_or, decide_eq_true rfl, Bool.or_true]
    rw [← c, hb] at this
    cases this
theorem or_lt {n h k : Nat} (hh : h < 2 ^ n) (hk : k < n) : h ||| 2 ^ k < 2 ^ n := Nat.or_lt_two_pow hh (Nat.pow_lt_pow_right (by decide) hk)
theorem bit_of (h k : Nat) : h / 2 ^ k % 2 = if h.testBit k then 1 else 0 := by
  rw [Nat.testBit_eq_decide_div_mod_eq]
  by_cases e : h / 2 ^ k % 2 = 1
  · rw [decide_eq_true e, e]; rfl
  · rw [decide_eq_false e]
    have : h / 2 ^ k % 2 < 2 := Nat.mod_lt _ (by decide)
    show _ = 0
    omega
theorem best_step {ws : List (Int × Int)} {h m : Nat} {left : Int} (hl : left < way ws h) (he : freeN ws.length h ≠ []) (hm : m ∈ nxtN ws h) (hle : lessN ws h m ≤ left) (hmax : ∀ y ∈ nxtN ws h, lessN ws h y ≤ left → y ≤ m) : 0 ≤ left - lessN ws h m ∧ left - lessN ws h m < way ws (h ||| 2 ^ m) := by
  rw [way_step he] at hl
  have := pre_best (f := fun k => way ws (h ||| 2 ^ k)) (fun k => way_nonneg ws _) (nxtN ws h) left m (nxt_sorted ws h) hl hm hle hmax
  have z : left < lessN ws h m + way ws (h ||| 2 ^ m) := this
  omega
theorem some_step {ws : List (Int × Int)} {h : Nat} {left : Int} (h0 : 0 ≤ left) (hl : left < way ws h) (he : freeN ws.length h ≠ []) : ∃ x ∈ nxtN ws h, lessN ws h x ≤ left := by
  rw [way_step he] at hl
  exact pre_first (f := fun k => way ws (h ||| 2 ^ k)) (fun k => way_nonneg ws _) (nxt_sorted ws h) h0 hl

end Su
namespace Su
/-! ### the program's numbered orders, walked -/
def wayL (ws : List (Int × Int)) : List Int := (List.range (2 ^ ws.length)).map (way ws)
theorem wayL_at {ws : List (Int × Int)} {h : Nat} (hh : h < 2 ^ ws.length) : (wayL ws)[h]? = some (way ws h) := by
  unfold wayL
  rw [List.getElem?_map, List.getElem?_range hh]
  rfl
theorem ints_at {L : List Int} {h : Nat} {x : Int} (e : L[h]? = some x) : atI (L.map V.int) ((h : Nat) : Int) = some (.int x) := atI_nat (by rw [List.getElem?_map, e]; rfl)
theorem ev_sumN {K : PySem.W.Frag} {σ : L2.St} {H : Hp} {te : TE} {ns : List Int} (h : EvL te σ H (ns.map V.int)) : Ev (tCB (rSum K) (tCons te tNil)) σ H (.int ns.sum) := fun H1 e Q q =>
  h H1 e _ fun p H2 _ e2 h2 => ⟨p, ns, rfl, sq_of h2, q H2 e2⟩
theorem ev_maxN {K : PySem.W.Frag} {σ : L2.St} {H : Hp} {te : TE} {ns : List Int} {M : Int} (h : EvL te σ H (ns.map V.int)) (hM : M ∈ ns) (hmax : ∀ y ∈ ns, y ≤ M) : Ev (tCB (rMax K) (tCons te tNil)) σ H (.int M) := fun H1 e Q q =>
  h H1 e _ fun p H2 _ e2 h2 => ⟨p, ns, rfl, sq_of h2, List.length_pos_of_mem hM, fun m hm hle => by
    have e1 := hle M hM
    have e3 := hmax m hm
    obtain rfl : m = M := by omega
    exact q H2 e2⟩
theorem list_max : ∀ (l : List Nat), l ≠ [] → ∃ M ∈ l, ∀ y ∈ l, y ≤ M
  | [], h => absurd rfl h
  | a :: r, _ => by
    by_cases hr : r = []
    · subst hr
      exact ⟨a, List.mem_cons_self, fun y hy => by rw [List.mem_singleton.mp hy]; exact Nat.le_refl _⟩
    · obtain ⟨M, hM, hm⟩ := list_max r hr
      rcases Nat.lt_or_ge M a with c | c
      · exact ⟨a, List.mem_cons_self, fun y hy => by
          rcases List.mem_cons.mp hy with e | hy
          · rw [e]; exact Nat.le_refl _
          · have := hm y hy; omega⟩
      · exact ⟨M, List.mem_cons_of_mem _ hM, fun y hy => by
          rcases List.mem_cons.mp hy with e | hy
          · rw [e]; exact c
          · exact hm y hy⟩
/-- for .. in range(a, -1, -1) -/
theorem s_forDown {ta : TA} {j : Nat} {a : Int} {tu : TS} {D : Ends} {σ : L2.St} {H : Hp} (h : EvA ta σ H [.int a, .int (-1), .int (-1)]) (ha : -1 ≤ a ∧ a ≤ 100000) (Pv : Nat → L2.St → Hp → Prop) (h0 : ∀ H1, Ex H H1 → Pv 0 σ H1)
    (hs : ∀ (i : Nat) σ' H', (i : Int) ≤ a → Pv i σ' H' → tu { D with nx := Pv (i + 1), ct := Pv (i + 1), bk := D.nx } (σ'.set j (some (.int (a - (i : Int))))) H') (hd : ∀ σ' H', Pv (a + 1).toNat σ' H' → D.nx σ' H') : tFor (iRng3 ta) (gName j) tu D σ H :=
  h H (Ex.refl H) _ fun H1 e => ⟨a, -1, -1, (a - -1).toNat, rfl, RgC.neg (by omega) (by omega) (by decide) (by decide), by
    have en : (a - -1).toNat = (a + 1).toNat := by omega
    rw [en]
    refine ⟨fun i m σ' H' => m = (a + 1).toNat - i ∧ i ≤ (a + 1).toNat ∧ Pv i σ' H', ⟨(a + 1).toNat, by simp, Nat.zero_le _, h0 H1 e⟩, ?_⟩
    rintro i m σ' H' ⟨rfl, hi, p⟩
    by_cases hlt : i < (a + 1).toNat
    · refine .inr ⟨hlt, Pv (i + 1), fun σ2 H2 p' => ⟨(a + 1).toNat - (i + 1), by omega, rfl, hlt, p'⟩, fun y H2 hy => ?_⟩
      obtain ⟨rfl, rfl⟩ := hy
      have := hs i σ' H2 (by omega) p
      have ez : a + (i : Int) * -1 = a - (i : Int) := by omega
      show tu _ (σ'.set j (some (.int (a + (i : Int) * -1)))) H2
      rw [ez]
      exact this
    · have ei : i = (a + 1).toNat := by omega
      subst ei
      exact .inl ⟨Nat.le_refl _, hd σ' H' p⟩⟩
theorem rv_shr {H : Hp} {h k : Nat} : RV (fun x y H Q => ∃ (i : Int) (k : Nat), x = .int i ∧ y = .int (k : Int) ∧ Q (.int (i / 2 ^ k)) H) (.int (h : Nat)) (.int (k : Nat)) H (.int ((h / 2 ^ k : Nat) : Int)) := fun H1 _ _ q => ⟨h, k, rfl, rfl, by
  have e : ((h : Nat) : Int) / 2 ^ k = ((h / 2 ^ k : Nat) : Int) := by
    rw [Int.natCast_ediv, Int.natCast_pow]
    rfl
  rw [e]
  exact q H1 (Ex.refl H1)⟩
theorem rv_odd {H : Hp} {h : Nat} : RV (fun x y H Q => ∃ n : Nat, x = .int (n : Int) ∧ y = .int 1 ∧ Q (.int ((n % 2 : Nat) : Int)) H) (.int (h : Nat)) (.int 1) H (.int ((h % 2 : Nat) : Int)) := fun H1 _ _ q => ⟨h, rfl, rfl, q H1 (Ex.refl H1)⟩
theorem rv_one {H : Hp} {k : Nat} (hk : k ≤ 1000) : RV (fun x y H Q => ∃ k : Nat, x = .int 1 ∧ y = .int (k : Int) ∧ k ≤ 134217727 ∧ Q (.int (2 ^ k)) H) (.int 1) (.int (k : Nat)) H (.int ((2 ^ k : Nat) : Int)) := fun H1 _ _ q => ⟨k, rfl, rfl, by omega, by
  have e : (2 : Int) ^ k = ((2 ^ k : Nat) : Int) := by rw [Int.natCast_pow]; rfl
  rw [e]
  exact q H1 (Ex.refl H1)⟩
theorem bitor_nat (x y : Nat) : Builtin.bitOr (x : Int) (y : Int) = ((x ||| y : Nat) : Int) := by
  have n1 : ∀ z : Nat, Builtin.bitNot (z : Int) = -(z : Int) - 1 := fun z => rfl
  have n2 : ∀ z : Nat, Builtin.bitNot (-(z : Int) - 1) = (z : Int) := fun z => by
    show -(-(z : Int) - 1) - 1 = (z : Int)
    omega
  unfold Builtin.bitOr
  rw [n1, n1]
  unfold Builtin.bitAnd
  rw [decide_eq_false (by omega : ¬ (0 : Int) ≤ -(x : Int) - 1), decide_eq_false (by omega : ¬ (0 : Int) ≤ -(y : Int) - 1)]
  show Builtin.bitNot (Builtin.bitNot (((Builtin.bitNot (-(x : Int) - 1)).toNat ||| (Builtin.bitNot (-(y : Int) - 1)).toNat : Nat) : Int)) = _
  rw [n2, n2, Int.toNat_natCast, Int.toNat_natCast, n1, n2]
theorem rv_or {H : Hp} {x y : Nat} : RV (rI0 fun i j => .int (Builtin.bitOr i j)) (.int (x : Nat)) (.int (y : Nat)) H (.int ((x ||| y : Nat) : Int)) := fun H1 _ _ q => ⟨x, y, rfl, rfl, by have z := q H1 (Ex.refl H1); rw [← bitor_nat] at z; exact z⟩
section
variable {P : Program} {w : World} {K : PySem.W.Frag} {mg : Str → Option Value} {base : Heap}
def spWith : Sp := fun vs H Q _ => ∃ h a : Nat, vs = [.int (h : Nat), .int (a : Nat)] ∧ a ≤ 1000 ∧ ∀ H', Ex H H' → Q (.int ((h ||| 2 ^ a : Nat) : Int)) H'
theorem spV_with {h a : Nat} {H : Hp} (ha : a ≤ 1000) : SpV spWith [.int (h : Nat), .int (a : Nat)] H (.int ((h ||| 2 ^ a : Nat) : Int)) := fun H1 _ Q q _ => ⟨h, a, rfl, ha, q⟩
theorem ok_with_window {f : Addr} {fd : FuncData} {k : Nat} (F : Fun K "with_window" "with_window" s_with_window f fd) (T : Top K mg) : FnOk P w K mg base CX0 (k + 1) f fd ["held", "at"] spWith := by
  have nd := sc_with_window.nd
  refine F.ok sc_with_window (fun vs H Q E h => ?_) (fun cdv A outer s H vs Q E hr h => ?_)
  · obtain ⟨h, a, rfl, _⟩ := h
    rfl
  · obtain ⟨h, a, rfl, ha, q⟩ := h
    refine ⟨_, (pss_one (ps_ret (pe_op op_or (pv 0) (pe_op op_oneShl pe_int (pv 1))))), ?_⟩
    exact s_ret (ev_op (ev_var rfl) (ev_op ev_c (ev_var rfl) (rv_one ha)) rv_or) fun H1 e1 => q H1 e1
def spNext (K : PySem.W.Frag) : Sp := fun vs H Q _ => ∃ (l : Addr) (qs : List Win) (h : Nat), vs = [.ref l, .int (h : Nat)] ∧ SqL K H l (refs qs) ∧ TW H qs ∧ qs.length ≤ 1000 ∧ ∀ H' p, H p = none → Ex H H' → H' p = some (.lst ((natI (nxtN (wsOf qs) h)).map V.int)) → Q (.ref p) H'
theorem spL_next {l : Addr} {qs : List Win} {h : Nat} {H : Hp} (hl : SqL K H l (refs qs)) (ht : TW H qs) (hn : qs.length ≤ 1000) : SpL (spNext K) [.ref l, .int (h : Nat)] H ((natI (nxtN (wsOf qs) h)).map V.int) :=
  fun H1 e Q q _ => ⟨l, qs, h, rfl, ex_l e hl, ht.ex e, hn, fun H' p hp e' h' => q p H' hp e' h'⟩
theorem ok_next_windows {f : Addr} {fd : FuncData} {k : Nat} (F : Fun K "next_windows" "next_windows" s_next_windows f fd) (T : Top K mg) : FnOk P w K mg base CX0 (k + 1) f fd ["windows", "held"] (spNext K) := by
  have nd := sc_next_windows.nd
  refine F.ok sc_next_windows (fun vs H Q E h => ?_) (fun cdv A outer s H vs Q E hr h => ?_)
  · obtain ⟨l, qs, h, rfl, _⟩ := h
    rfl
  · obtain ⟨l, qs, h, rfl, hl, ht, hn, q⟩ := h
    refine ⟨_, (pss_cons (ps_setLc (i := 2) (own := [("at", 4)]) (g := gName 4) (tt := _) rfl nd rfl rfl (sw_true rfl rfl rfl (by decide +kernel)) (pi_range1 rfl T.m_range (pa_cons (pe_callB call_len_seq (by rfl) T.m_len PySem.boot_len (pa_cons (pv 0) pa_nil)) pa_nil)) (blkOk_by (own := [("at", 4)]) (N := Su.N_next_windows) (sc := defScope s_next_windows) (by decide +kernel)) (fun _ _ _ _ _ => (pg_name (i := 4) nd rfl (.inl rfl))) (fun _ _ _ _ _ => (pts_one (pt_cmpR op_eq (pe_op op_odd (pe_op op_shrN (pv 1) (pv 4)) pe_int) pe_int (nomark _)))) (fun _ _ _ _ _ => (pv 4)))
      (pss_cons (ps_set (i := 3) nd rfl (.inr rfl) (pe_op op_add (pe_op op_sub (pe_callB call_len_seq (by rfl) T.m_len PySem.boot_len (pa_cons (pv 0) pa_nil)) (pe_callB call_len_seq (by rfl) T.m_len PySem.boot_len (pa_cons (pv 2) pa_nil))) pe_int))
      (pss_one (ps_ret (pe_lc (own := [("at", 4)]) (g := gName 4) (tt := _) rfl nd (pi_list (pv 2)) (blkOk_by (own := [("at", 4)]) (N := Su.N_next_windows) (sc := defScope s_next_windows) (by decide +kernel)) (fun _ _ _ _ _ => (pg_name (i := 4) nd rfl (.inl rfl))) (fun _ _ _ _ _ => (pts_one (pt_chain op_le op_le (pe_ix (ix_tupK (K := K) rfl) (pe_ix (ix_listK (K := K) rfl) (pv 0) (pv 4) (fun _ _ => rfl)) pe_int (fun _ _ => rfl)) (pv 3) (pe_ix (ix_tupK (K := K) rfl) (pe_ix (ix_listK (K := K) rfl) (pv 0) (pv 4) (fun _ _ => rfl)) pe_int (fun _ _ => rfl))))) (fun _ _ _ _ _ => (pv 4))))))), ?_⟩
    have hlen : ∀ {H1 : Hp} {σ : L2.St} {te : TE}, Ex H H1 → Ev te σ H1 (.ref l) → Ev (tCB (rLenS K) (tCons te tNil)) σ H1 (.int ((wsOf qs).length : Int)) := fun e h => ev_is (ev_len h (ex_l e hl)) (congrArg (fun n : Nat => V.int (n : Int)) (refs_len.trans ws_len.symm))
    refine q_asgL (xs := (natI (freeN (wsOf qs).length h)).map V.int) ?_ fun fr H1 hfr e1 h1 => ?_
    · rw [natI_int, show (freeN (wsOf qs).length h).map (fun k : Nat => V.int (k : Nat)) = given (((wsOf qs).length : Int)).toNat (fun k => !h.testBit k) (fun k : Nat => V.int (k : Nat)) from rfl]
      refine el_lcR1 _ _ (ea_cons (hlen (Ex.refl H) (ev_var rfl)) ea_nil) (by rw [ws_len]; omega) (fun x => rfl) (fun i Hb eb hi => ?_) (fun i Hb eb hi _ => ev_var rfl)
      refine et_is (et_test (ev_op (ev_op (ev_op (ev_var rfl) (ev_var rfl) rv_shr) ev_c rv_odd) ev_c (rv_eq rfl))) ?_
      rw [show V.int 0 = V.int ((0 : Nat) : Int) from rfl, nat_eqd, bit_of]
      cases h.testBit i <;> rfl
    have hl1 := ex_l e1 hl
    refine q_asg (v := .int (turnN (wsOf qs).length h)) (ev_is (ev_op (ev_op (hlen e1 (ev_var rfl)) (ev_len (ev_var rfl) (sq_of h1)) rv_I0) ev_c rv_I0) (by rw [List.length_map, natI_len]; rfl)) fun H2 e2 => ?_
    have h2 := e2 _ _ h1
    have hl2 := ex_l e2 hl1
    have ht2 := ht.ex (e1.trans e2)
    refine s_retL (xs := (natI (nxtN (wsOf qs) h)).map V.int) ?_ fun p H3 hp e3 h3 => q H3 p (fresh_back (e1.trans e2) hp) ((e1.trans e2).trans e3) h3
    have hfree : (freeN (wsOf qs).length h).length ≤ qs.length := by
      have := List.length_filter_le (fun k => !h.testBit k) (List.range (wsOf qs).length)
      rw [List.length_range, ws_len] at this
      rw [ws_len]
      exact this
    rw [natI_int, nxtN, ← nat_given, show (freeN (wsOf qs).length h).length = ((natI (freeN (wsOf qs).length h)).map V.int).length by rw [List.length_map, natI_len]]
    refine el_lcL _ _ (ev_var rfl) (sq_of h2) (by rw [List.length_map, natI_len]; omega) (fun x => rfl) (fun i x Hb eb gx => ?_) (fun i x Hb eb gx _ => ?_)
    · obtain ⟨k, rfl, gk, ek⟩ := nat_at gx
      have hk := (free_mem.mp (List.mem_of_getElem? gk)).1
      rw [ws_len] at hk
      obtain ⟨w, gw⟩ : ∃ w, qs[k]? = some w := ⟨_, List.getElem?_eq_getElem hk⟩
      have hw := ht2.ex eb w (List.mem_of_getElem? gw)
      have hlb := ex_l eb hl2
      rw [ek]
      have hv : fitN (wsOf qs) (turnN (wsOf qs).length h) k = (decide (w.2.1 ≤ turnN (wsOf qs).length h) && decide (turnN (wsOf qs).length h ≤ w.2.2)) := by
        unfold fitN
        rw [ws_at gw]
      rw [hv]
      exact et_chain (ev_w0 (ev_win (ev_var rfl) (ev_var rfl) hlb gw) hw) (ev_var rfl) (ev_w1 (ev_win (ev_var rfl) (ev_var rfl) hlb gw) hw)
    · obtain ⟨k, rfl, gk, ek⟩ := nat_at gx
      rw [ek]
      exact ev_var rfl
def spWays (K : PySem.W.Frag) : Sp := fun vs H Q _ => ∃ (l : Addr) (qs : List Win), vs = [.ref l] ∧ SqL K H l (refs qs) ∧ TW H qs ∧ qs.length ≤ 8 ∧ ∀ H' p, H p = none → Ex H H' → H' p = some (.lst ((wayL (wsOf qs)).map V.int)) → Q (.ref p) H'
theorem spL_ways {l : Addr} {qs : List Win} {H : Hp} (hl : SqL K H l (refs qs)) (ht : TW H qs) (hn : qs.length ≤ 8) : SpL (spWays K) [.ref l] H ((wayL (wsOf qs)).map V.int) :=
  fun H1 e Q q _ => ⟨l, qs, rfl, ex_l e hl, ht.ex e, hn, fun H' p hp e' h' => q p H' hp e' h'⟩
theorem nxt_len (ws : List (Int × Int)) (h : Nat) : (nxtN ws h).length ≤ ws.length := by
  have h1 := List.length_filter_le (fitN ws (turnN ws.length h)) (freeN ws.length h)
  have h2 := List.length_filter_le (fun k => !h.testBit k) (List.range ws.length)
  rw [List.length_range] at h2
  exact Nat.le_trans h1 h2
theorem ok_ways_on {f : Addr} {fd : FuncData} (F : Fun K "ways_on" "ways_on" s_ways_on f fd) (T : Top K mg) : FnOk P w K mg base CX0 2 f fd ["windows"] (spWays K) := by
  have nd := sc_ways_on.nd
  have G_next_windows : FnOk P w K mg base CX0 1 T.f_next_windows T.fd_next_windows ["windows", "held"] (spNext K) := ok_next_windows T.F_next_windows T
  have G_with_window : FnOk P w K mg base CX0 1 T.f_with_window T.fd_with_window ["held", "at"] spWith := ok_with_window T.F_with_window T
  refine F.ok sc_ways_on (fun vs H Q E h => ?_) (fun cdv A outer s H vs Q E hr h => ?_)
  · obtain ⟨l, qs, rfl, _⟩ := h
    rfl
  · obtain ⟨l, qs, rfl, hl, ht, hn, q⟩ := h
    refine ⟨_, (pss_cons (ps_set (i := 1) nd rfl (.inl rfl) (pe_op op_sub (pe_op op_oneShl pe_int (pe_callB call_len_seq (by rfl) T.m_len PySem.boot_len (pa_cons (pv 0) pa_nil))) pe_int))
      (pss_cons (ps_set (i := 2) nd rfl (.inr rfl) (pe_op op_cat (pe_op op_rep (pe_lst (pa_cons pe_int pa_nil)) (pv 1)) (pe_lst (pa_cons pe_int pa_nil))))
      (pss_cons (ps_for PassesOwn.never rfl (pi_range3 rfl T.m_range (pa_cons (pe_op op_sub (pv 1) pe_int) (pa_cons (pe_un un_neg pe_int) (pa_cons (pe_un un_neg pe_int) pa_nil)))) (pg_name (i := 3) nd rfl (.inr rfl))
        (pss_one (ps_asg (pe_callB (cr_sum rfl) (by rfl) T.m_sum (by decide +kernel) (pa_cons (pe_lc (own := [("at", 4)]) (g := gName 4) (tt := tYes) rfl nd (pi_list (pe_call G_next_windows (hr.mono (by decide)) (by rfl) T.m_next_windows T.F_next_windows.kp T.b_next_windows .nil pass0 (pa_cons (pv 0) (pa_cons (pv 3) pa_nil)))) (blkOk_by (own := [("at", 4)]) (N := Su.N_ways_on) (sc := defScope s_ways_on) (by decide +kernel)) (fun _ _ _ _ _ => (pg_name (i := 4) nd rfl (.inl rfl))) (fun _ _ _ _ _ => pts_nil) (fun _ _ _ _ _ => (pe_ix (ix_listK (K := K) rfl) (pv 2) (pe_call G_with_window (hr.mono (by decide)) (by rfl) T.m_with_window T.F_with_window.kp T.b_with_window .nil pass0 (pa_cons (pv 3) (pa_cons (pv 4) pa_nil))) (fun _ _ => rfl)))) pa_nil)) (pg_sub (pv 2) (pv 3) set_list))))
      (pss_one (ps_ret (pv 2)))))), ?_⟩
    have hp2 : 2 ^ qs.length ≤ 2 ^ 8 := Nat.pow_le_pow_right (by decide) hn
    have hp1 : 1 ≤ 2 ^ qs.length := Nat.one_le_two_pow
    obtain ⟨fu, hfu⟩ : ∃ fu : Nat, 2 ^ qs.length = fu + 1 := ⟨2 ^ qs.length - 1, by omega⟩
    have hfu8 : fu < 256 := by
      rw [hfu] at hp2
      have : (2 : Nat) ^ 8 = 256 := by decide
      omega
    refine q_asg (v := .int (fu : Nat)) (ev_is (ev_op (ev_op ev_c (ev_is (ev_len (ev_var rfl) hl) (congrArg (fun n : Nat => V.int (n : Int)) refs_len)) (rv_one (by omega))) ev_c rv_I0) (by rw [hfu]; exact congrArg V.int (by omega))) fun H1 e1 => ?_
    refine q_asgL (xs := (List.replicate fu (0 : Int) ++ [1]).map V.int) ?_ fun p H2 hp e2 h2 => ?_
    · have := el_cat (ta := tOp rRep (tLst (tCons (tC (V.int 0)) tNil)) (tVar 1)) (tb := tLst (tCons (tC (V.int 1)) tNil)) (σ := [some (.ref l), some (.int (fu : Nat)), none, none, none]) (H := H1) (el_rep1 (k := (fu : Nat)) (el_lst (ea_cons ev_c ea_nil) (by show 1 ≤ 100000; decide)) (ev_var rfl) (by omega) (by omega)) (el_lst (ea_cons ev_c ea_nil) (by show 1 ≤ 100000; decide)) (by rw [List.length_replicate]; show _ + 1 ≤ _; omega)
      rw [Int.toNat_natCast] at this
      rw [List.map_append, List.map_replicate]
      exact this
    have e12 := e1.trans e2
    refine s_forDown (a := (fu : Int) - 1) (ea_cons (ev_op (ev_var rfl) ev_c rv_I0) (ea_cons (ev_un ev_c ru_neg) (ea_cons (ev_un ev_c ru_neg) ea_nil))) (by omega) (fun i σ' H' => ∃ (L : List Int) (y : Option V), σ' = [some (.ref l), some (.int (fu : Nat)), some (.ref p), y, none] ∧ Ex H H' ∧ H' p = some (.lst (L.map V.int)) ∧ L.length = fu + 1 ∧ ∀ x, fu - i ≤ x → x ≤ fu → L[x]? = some (way (wsOf qs) x)) ?_ ?_ ?_
    · intro H3 e3
      refine ⟨List.replicate fu (0 : Int) ++ [1], none, rfl, e12.trans e3, e3 _ _ h2, by rw [List.length_append, List.length_replicate]; rfl, fun x h1 h2 => ?_⟩
      obtain rfl : x = fu := by omega
      rw [way_full (by rw [show x = 2 ^ (wsOf qs).length - 1 by rw [ws_len, hfu]; rfl]; exact free_full _), List.getElem?_append_right (by rw [List.length_replicate]; exact Nat.le_refl _), List.length_replicate, Nat.sub_self]
      rfl
    · rintro i σ' H' hi ⟨L, y, rfl, ex, hL, hLl, hLw⟩
      obtain ⟨h, hh⟩ : ∃ h : Nat, (fu : Int) - 1 - (i : Int) = (h : Int) := ⟨((fu : Int) - 1 - (i : Int)).toNat, by omega⟩
      rw [hh]
      have hhf : h < fu := by omega
      have hne : freeN (wsOf qs).length h ≠ [] := free_some (by rw [ws_len, hfu]; exact hhf)
      have hl' := ex_l ex hl
      have ht' := ht.ex ex
      refine s_asgSub (v := .int (way (wsOf qs) h)) hL ?_ (ev_var rfl) (ev_var rfl) rfl (by rw [List.length_map]; omega) fun H3 e3 => ?_
      · rw [way_step hne]
        refine ev_sumN ?_
        rw [List.map_map, ← nat_given1, show (nxtN (wsOf qs) h).length = ((natI (nxtN (wsOf qs) h)).map V.int).length by rw [List.length_map, natI_len]]
        refine el_lcNL _ _ (el_call (ea_cons (ev_var rfl) (ea_cons (ev_var rfl) ea_nil)) (spL_next hl' ht' (by omega))) (by rw [List.length_map, natI_len]; have := nxt_len (wsOf qs) h; rw [ws_len] at this; omega) (fun x => rfl) (fun i x Hb eb gx => et_yes) (fun i x Hb eb gx _ => ?_)
        obtain ⟨k, rfl, gk, ek⟩ := nat_at gx
        have hk := List.mem_of_getElem? gk
        have hk1 := nxt_lt hk
        rw [ws_len] at hk1
        rw [ek]
        have hg : h < h ||| 2 ^ k := or_gt (free_mem.mp (nxt_free hk)).2
        have hlt := or_lt (n := qs.length) (h := h) (k := k) (by omega) hk1
        exact ev_op (ev_var rfl) (ev_call (ea_cons (ev_var rfl) (ea_cons (ev_var rfl) ea_nil)) (spV_with (by omega))) (rv_ixL (sq_of (eb _ _ hL)) (ints_at (hLw _ (by omega) (by omega))))
      · refine ⟨L.set h (way (wsOf qs) h), _, rfl, ex_up (ex.trans e3) (fresh_back e1 hp), ?_, by rw [List.length_set]; exact hLl, fun x h1 h2 => ?_⟩
        · rw [upd_same, ints_set]
        · rw [List.getElem?_set]
          by_cases hx : h = x
          · subst hx
            rw [if_pos rfl, if_pos (by omega)]
          · rw [if_neg hx]
            exact hLw x (by omega) h2
    · rintro σ' H' ⟨L, y, rfl, ex, hL, hLl, hLw⟩
      refine s_ret (ev_var rfl) fun H3 e3 => ?_
      refine q H3 p (fresh_back e1 hp) (ex.trans e3) ?_
      rw [e3 _ _ hL]
      have : L = wayL (wsOf qs) := by
        apply List.ext_getElem?
        intro x
        by_cases hx : x ≤ fu
        · rw [hLw x (by omega) hx, wayL_at (by rw [ws_len, hfu]; omega)]
        · rw [List.getElem?_eq_none (by omega), List.getElem?_eq_none (by unfold wayL; rw [List.length_map, List.length_range, ws_len, hfu]; omega)]
      rw [this]
def spLess (K : PySem.W.Frag) : Sp := fun vs H Q _ => ∃ (l W : Addr) (qs : List Win) (h a : Nat), vs = [.ref l, .ref W, .int (h : Nat), .int (a : Nat)] ∧ SqL K H l (refs qs) ∧ TW H qs ∧ qs.length ≤ 8 ∧ SqL K H W ((wayL (wsOf qs)).map V.int) ∧ h < 2 ^ qs.length ∧ ∀ H', Ex H H' → Q (.int (lessN (wsOf qs) h a)) H'
theorem spV_less {l W : Addr} {qs : List Win} {h a : Nat} {H : Hp} (hl : SqL K H l (refs qs)) (ht : TW H qs) (hn : qs.length ≤ 8) (hW : SqL K H W ((wayL (wsOf qs)).map V.int)) (hh : h < 2 ^ qs.length) : SpV (spLess K) [.ref l, .ref W, .int (h : Nat), .int (a : Nat)] H (.int (lessN (wsOf qs) h a)) :=
  fun H1 e Q q _ => ⟨l, W, qs, h, a, rfl, ex_l e hl, ht.ex e, hn, ex_l e hW, hh, q⟩
theorem nat_ltd {i j : Nat} : decide (((i : Nat) : Int) < ((j : Nat) : Int)) = decide (i < j) := by
  by_cases h : i < j
  · rw [decide_eq_true h, decide_eq_true (by omega)]
  · rw [decide_eq_false h, decide_eq_false (by omega)]
theorem ok_lesser_ways {f : Addr} {fd : FuncData} (F : Fun K "lesser_ways" "lesser_ways" s_lesser_ways f fd) (T : Top K mg) : FnOk P w K mg base CX0 2 f fd ["windows", "ways", "held", "at"] (spLess K) := by
  have nd := sc_lesser_ways.nd
  have G_next_windows : FnOk P w K mg base CX0 1 T.f_next_windows T.fd_next_windows ["windows", "held"] (spNext K) := ok_next_windows T.F_next_windows T
  have G_with_window : FnOk P w K mg base CX0 1 T.f_with_window T.fd_with_window ["held", "at"] spWith := ok_with_window T.F_with_window T
  refine F.ok sc_lesser_ways (fun vs H Q E h => ?_) (fun cdv A outer s H vs Q E hr h => ?_)
  · obtain ⟨l, W, qs, h, a, rfl, _⟩ := h
    rfl
  · obtain ⟨l, W, qs, h, a, rfl, hl, ht, hn, hW, hh, q⟩ := h
    refine ⟨_, (pss_one (ps_ret (pe_callB (cr_sum rfl) (by rfl) T.m_sum (by decide +kernel) (pa_cons (pe_lc (own := [("k", 4)]) (g := gName 4) (tt := _) rfl nd (pi_list (pe_call G_next_windows (hr.mono (by decide)) (by rfl) T.m_next_windows T.F_next_windows.kp T.b_next_windows .nil pass0 (pa_cons (pv 0) (pa_cons (pv 2) pa_nil)))) (blkOk_by (own := [("k", 4)]) (N := Su.N_lesser_ways) (sc := defScope s_lesser_ways) (by decide +kernel)) (fun _ _ _ _ _ => (pg_name (i := 4) nd rfl (.inl rfl))) (fun _ _ _ _ _ => (pts_one (pt_cmpR op_lt (pv 4) (pv 3) (nomark _)))) (fun _ _ _ _ _ => (pe_ix (ix_listK (K := K) rfl) (pv 1) (pe_call G_with_window (hr.mono (by decide)) (by rfl) T.m_with_window T.F_with_window.kp T.b_with_window .nil pass0 (pa_cons (pv 2) (pa_cons (pv 4) pa_nil))) (fun _ _ => rfl)))) pa_nil)))), ?_⟩
    refine s_ret (v := .int (lessN (wsOf qs) h a)) ?_ fun H1 e1 => q H1 e1
    unfold lessN preN
    refine ev_sumN ?_
    rw [List.map_map, ← nat_given, show (nxtN (wsOf qs) h).length = ((natI (nxtN (wsOf qs) h)).map V.int).length by rw [List.length_map, natI_len]]
    refine el_lcNL _ _ (el_call (ea_cons (ev_var rfl) (ea_cons (ev_var rfl) ea_nil)) (spL_next hl ht (by omega))) (by rw [List.length_map, natI_len]; have := nxt_len (wsOf qs) h; rw [ws_len] at this; omega) (fun x => rfl) (fun i x Hb eb gx => ?_) (fun i x Hb eb gx _ => ?_)
    · obtain ⟨k, rfl, gk, ek⟩ := nat_at gx
      rw [ek]
      exact et_is (et_test (ev_op (ev_var rfl) (ev_var rfl) rv_I0)) nat_ltd
    · obtain ⟨k, rfl, gk, ek⟩ := nat_at gx
      have hk1 := nxt_lt (List.mem_of_getElem? gk)
      rw [ws_len] at hk1
      rw [ek]
      exact ev_op (ev_var rfl) (ev_call (ea_cons (ev_var rfl) (ea_cons (ev_var rfl) ea_nil)) (spV_with (by omega))) (rv_ixL (ex_l eb hW) (ints_at (wayL_at (by rw [ws_len]; exact or_lt hh hk1))))
end

end Su
namespace Su
/-! ### counted, told by number, numbered -/
theorem inR_fit {ws : List (Int × Int)} {r : List Nat} {i a : Nat} (e : r[i]? = some a) : inRound ws (natI r) i = fitN ws (1 + (i : Int)) a := by
  unfold inRound fitN natI
  rw [List.getElem?_map, e]
  show (match ws[((a : Nat) : Int).toNat]? with | some w => _ | none => _) = _
  rw [Int.toNat_natCast]
theorem ord_path {ws : List (Int × Int)} {ns : List Int} (h : isOrd ws ns = true) : ∃ r : List Nat, ns = natI r ∧ Path ws 0 r ∧ r.length = ws.length := by
  unfold isOrd at h
  rw [Bool.and_eq_true] at h
  obtain ⟨h1, h2⟩ := h
  have hp := (sortI_eq ns ws.length).mp (of_decide_eq_true h1)
  have hn : ns = natI (ns.map Int.toNat) := by
    unfold natI
    rw [List.map_map]
    conv => lhs; rw [← List.map_id ns]
    apply List.map_congr_left
    intro z hz
    obtain ⟨j, rfl, _⟩ := in_rg (hp.mem_iff.mp hz)
    show ((j : Nat) : Int) = ((((j : Nat) : Int).toNat : Nat) : Int)
    rw [Int.toNat_natCast]
  generalize ns.map Int.toNat = r at hn
  subst hn
  have hr := nat_perm.mp hp
  have hlen : r.length = ws.length := by rw [hr.length_eq, List.length_range]
  refine ⟨r, rfl, path_of r 0 ?_ fun j a e => ?_, hlen⟩
  · rw [free_zero]
    exact hr.symm
  · have hj : j < r.length := (List.getElem?_eq_some_iff.mp e).1
    have h3 := List.all_eq_true.mp h2 (inRound ws (natI r) j) (List.mem_map.mpr ⟨j, List.mem_range.mpr (by rw [natI_len]; exact hj), rfl⟩)
    have h4 : inRound ws (natI r) j = true := h3
    rw [inR_fit e] at h4
    rw [hlen, show (ws.length : Int) - (ws.length : Int) + 1 + (j : Int) = 1 + (j : Int) by omega]
    exact h4
theorem path_full {ws : List (Int × Int)} {r : List Nat} (p : Path ws 0 r) : r.length = ws.length := by
  rw [path_len r 0 p, free_zero, List.length_range]
theorem path_ord {ws : List (Int × Int)} {r : List Nat} (p : Path ws 0 r) : isOrd ws (natI r) = true := by
  have hlen := path_full p
  have hp := path_perm r 0 p
  rw [free_zero] at hp
  unfold isOrd
  rw [decide_eq_true ((sortI_eq _ _).mpr (nat_perm.mpr hp.symm)), Bool.true_and, List.all_eq_true]
  intro b hb
  obtain ⟨j, hj, rfl⟩ := List.mem_map.mp hb
  have hj := List.mem_range.mp hj
  rw [natI_len] at hj
  obtain ⟨a, ha⟩ : ∃ a, r[j]? = some a := ⟨_, List.getElem?_eq_getElem hj⟩
  have h4 := path_fit r 0 p j a ha
  rw [hlen, show (ws.length : Int) - (ws.length : Int) + 1 + (j : Int) = 1 + (j : Int) by omega] at h4
  show inRound ws (natI r) j = true
  rw [inR_fit ha]
  exact h4
section
variable {P : Program} {w : World} {K : PySem.W.Frag} {mg : Str → Option Value} {base : Heap}
def spRefuse (K : PySem.W.Frag) (fT : Addr) : Sp := fun vs H Q E => ∃ (l : Addr) (xs : List V), vs = [.ref l] ∧ SqL K H l xs ∧ (xs.length ≤ 8 → ∀ H', Ex H H' → Q .non H') ∧ (8 < xs.length → ∀ H', Ex H H' → E (.ref fT) none H')
theorem okx_refuse_many {f : Addr} {fd : FuncData} {k : Nat} (F : Fun K "refuse_many" "refuse_many" s_refuse_many f fd) (T : Top K mg) : FnOk P w K mg base (L2.CX P w) (k + 1) f fd ["windows"] (spRefuse K T.f_TooMany) := by
  have nd := sc_refuse_many.nd
  refine F.okX sc_refuse_many (fun vs H Q E h => ?_) (fun cdv A outer s H vs Q E hr h => ?_)
  · obtain ⟨l, xs, rfl, _⟩ := h
    rfl
  · obtain ⟨l, xs, rfl, hl, q, qx⟩ := h
    refine ⟨_, (pss_one (ps_if (pt_cmpR op_gt (pe_callB call_len_seq (by rfl) T.m_len PySem.boot_len (pa_cons (pv 0) pa_nil)) (pe_glob (v := .int 8) (by rfl) T.m_MOST_WINDOWS ⟨_, rfl⟩) (nomark _))
        (pss_one (ps_raise rfl (takes_of rfl rfl rfl rfl) (pmk_own0 PySem.F.excBase_ValueError T.x_TooMany T.m_TooMany T.kp_TooMany (raises_own T.sb_TooMany T.ty_TooMany) (by rfl))))
        pss_nil)), ?_⟩
    refine s_when (b := decide ((xs.length : Int) > 8)) (et_test (ev_op (ev_len (ev_var rfl) hl) ev_c rv_I0)) (fun hb H1 e1 => ?_) (fun hb H1 e1 => ?_)
    · exact qx (by have := of_decide_eq_true hb; omega) H1 e1
    · exact q (by have := of_decide_eq_false hb; omega) H1 e1
/-- the call of refuse_many that stands ahead -/
theorem q_refuse {fT l : Addr} {qs : List Win} {E : XK} {ta : TA} {σ : L2.St} {H : Hp} {D : Ends} {tz : TS} (h : EvA ta σ H [.ref l]) (hl : SqL K H l (refs qs)) (h1 : qs.length ≤ 8 → ∀ H1, Ex H H1 → tz D σ H1) (h2 : 8 < qs.length → ∀ H1, Ex H H1 → E (.ref fT) none H1) :
    tSeq (tDrop (tCall (spRefuse K fT) [] E ta)) tz D σ H := h H (Ex.refl H) _ fun H1 e1 => ⟨l, refs qs, rfl, ex_l e1 hl, fun hn H2 e2 => h1 (by rw [refs_len] at hn; exact hn) H2 (e1.trans e2), fun hn H2 e2 => h2 (by rw [refs_len] at hn; exact hn) H2 (e1.trans e2)⟩
def spCount (K : PySem.W.Frag) (fT : Addr) : Sp := fun vs H Q E => ∃ (l : Addr) (qs : List Win), vs = [.ref l] ∧ SqL K H l (refs qs) ∧ TW H qs ∧ (qs.length ≤ 8 → ∀ H', Ex H H' → Q (.int (way (wsOf qs) 0)) H') ∧ (8 < qs.length → ∀ H', Ex H H' → E (.ref fT) none H')
theorem okx_count_orders {f : Addr} {fd : FuncData} (F : Fun K "count_orders" "count_orders" s_count_orders f fd) (T : Top K mg) : FnOk P w K mg base (L2.CX P w) 3 f fd ["windows"] (spCount K T.f_TooMany) := by
  have nd := sc_count_orders.nd
  have G_refuse_many : FnOk P w K mg base (L2.CX P w) 1 T.f_refuse_many T.fd_refuse_many ["windows"] (spRefuse K T.f_TooMany) := okx_refuse_many T.F_refuse_many T
  have G_ways_on : FnOk P w K mg base CX0 2 T.f_ways_on T.fd_ways_on ["windows"] (spWays K) := ok_ways_on T.F_ways_on T
  refine F.okX sc_count_orders (fun vs H Q E h => ?_) (fun cdv A outer s H vs Q E hr h => ?_)
  · obtain ⟨l, qs, rfl, _⟩ := h
    rfl
  · obtain ⟨l, qs, rfl, hl, ht, q, qx⟩ := h
    refine ⟨_, (pss_cons (ps_expr (pe_call G_refuse_many (hr.mono (by decide)) (by rfl) T.m_refuse_many T.F_refuse_many.kp T.b_refuse_many .nil (passes_call (takes_of rfl rfl rfl rfl) (fun _ _ _ _ h => h)) (pa_cons (pv 0) pa_nil)))
      (pss_one (ps_ret (pe_ix ix_list (pe_call G_ways_on (hr.mono (by decide)) (by rfl) T.m_ways_on T.F_ways_on.kp T.b_ways_on .nil pass0 (pa_cons (pv 0) pa_nil)) pe_int (fun _ _ => rfl))))), ?_⟩
    refine q_refuse (ea_cons (ev_var rfl) ea_nil) hl (fun hn H1 e1 => ?_) qx
    exact s_ret (ev_opL1 (el_call (ea_cons (ev_var rfl) ea_nil) (spL_ways (ex_l e1 hl) (ht.ex e1) hn)) (fun H2 e2 => ev_c) fun p H2 h2 e2 => rv_ixL (sq_of h2) (ints_at (h := 0) (wayL_at Nat.one_le_two_pow))) fun H2 e2 => q hn H2 (e1.trans e2)
def spByNum (K : PySem.W.Frag) (fT fB : Addr) : Sp := fun vs H Q E => ∃ (l : Addr) (qs : List Win) (num : Int), vs = [.ref l, .int num] ∧ SqL K H l (refs qs) ∧ TW H qs ∧ (8 < qs.length → ∀ H', Ex H H' → E (.ref fT) none H') ∧
  (qs.length ≤ 8 → ¬ (0 ≤ num ∧ num < way (wsOf qs) 0) → ∀ H', Ex H H' → E (.ref fB) none H') ∧
  (qs.length ≤ 8 → 0 ≤ num → num < way (wsOf qs) 0 → ∀ (r : List Nat) H' p, H p = none → Ex H H' → H' p = some (.lst ((natI r).map V.int)) → Path (wsOf qs) 0 r → numOf (wsOf qs) 0 r = num → Q (.ref p) H')
theorem okx_order_by_number {f : Addr} {fd : FuncData} (F : Fun K "order_by_number" "order_by_number" s_order_by_number f fd) (T : Top K mg) : FnOk P w K mg base (L2.CX P w) 3 f fd ["windows", "number"] (spByNum K T.f_TooMany T.f_BadNumber) := by
  have nd := sc_order_by_number.nd
  have G_refuse_many : FnOk P w K mg base (L2.CX P w) 1 T.f_refuse_many T.fd_refuse_many ["windows"] (spRefuse K T.f_TooMany) := okx_refuse_many T.F_refuse_many T
  have G_ways_on : FnOk P w K mg base CX0 2 T.f_ways_on T.fd_ways_on ["windows"] (spWays K) := ok_ways_on T.F_ways_on T
  have G_next_windows : FnOk P w K mg base CX0 1 T.f_next_windows T.fd_next_windows ["windows", "held"] (spNext K) := ok_next_windows T.F_next_windows T
  have G_with_window : FnOk P w K mg base CX0 1 T.f_with_window T.fd_with_window ["held", "at"] spWith := ok_with_window T.F_with_window T
  have G_lesser_ways : FnOk P w K mg base CX0 2 T.f_lesser_ways T.fd_lesser_ways ["windows", "ways", "held", "at"] (spLess K) := ok_lesser_ways T.F_lesser_ways T
  refine F.okX sc_order_by_number (fun vs H Q E h => ?_) (fun cdv A outer s H vs Q E hr h => ?_)
  · obtain ⟨l, qs, num, rfl, _⟩ := h
    rfl
  · obtain ⟨l, qs, num, rfl, hl, ht, qT, qB, q⟩ := h
    refine ⟨_, (pss_cons (ps_expr (pe_call G_refuse_many (hr.mono (by decide)) (by rfl) T.m_refuse_many T.F_refuse_many.kp T.b_refuse_many .nil (passes_call (takes_of rfl rfl rfl rfl) (fun _ _ _ _ h => h)) (pa_cons (pv 0) pa_nil)))
      (pss_cons (ps_set (i := 2) nd rfl (.inr rfl) (pe_call G_ways_on (hr.mono (by decide)) (by rfl) T.m_ways_on T.F_ways_on.kp T.b_ways_on .nil pass0 (pa_cons (pv 0) pa_nil)))
      (pss_cons (ps_if (PW.pt (pw_or (pt_cmpR op_lt (pv 1) pe_int (nomark _)) (pw_or1 (pt_cmpR op_ge (pv 1) (pe_ix ix_list (pv 2) pe_int (fun _ _ => rfl)) (nomark _)))))
        (pss_one (ps_raise rfl (takes_of rfl rfl rfl rfl) (pmk_own0 PySem.F.excBase_ValueError T.x_BadNumber T.m_BadNumber T.kp_BadNumber (raises_own T.sb_BadNumber T.ty_BadNumber) (by rfl))))
        pss_nil)
      (pss_cons (ps_set (i := 3) nd rfl (.inl rfl) (pe_lst pa_nil))
      (pss_cons (ps_set (i := 4) nd rfl (.inr rfl) pe_int)
      (pss_cons (ps_set (i := 5) nd rfl (.inr rfl) (pv 1))
      (pss_cons (ps_while (passes_of rfl) (pt_cmpR op_lt (pe_callB call_len_seq (by rfl) T.m_len PySem.boot_len (pa_cons (pv 3) pa_nil)) (pe_callB call_len_seq (by rfl) T.m_len PySem.boot_len (pa_cons (pv 0) pa_nil)) (nomark _))
        (pss_cons (ps_set (i := 6) nd rfl (.inl rfl) (pe_callB (cr_max rfl) (by rfl) T.m_max (by decide +kernel) (pa_cons (pe_lc (own := [("at", 7)]) (g := gName 7) (tt := _) rfl nd (pi_list (pe_call G_next_windows (hr.mono (by decide)) (by rfl) T.m_next_windows T.F_next_windows.kp T.b_next_windows .nil pass0 (pa_cons (pv 0) (pa_cons (pv 4) pa_nil)))) (blkOk_by (own := [("at", 7)]) (N := Su.N_order_by_number) (sc := defScope s_order_by_number) (by decide +kernel)) (fun _ _ _ _ _ => (pg_name (i := 7) nd rfl (.inl rfl))) (fun _ _ _ _ _ => (pts_one (pt_cmpR op_le (pe_call G_lesser_ways (hr.mono (by decide)) (by rfl) T.m_lesser_ways T.F_lesser_ways.kp T.b_lesser_ways .nil pass0 (pa_cons (pv 0) (pa_cons (pv 2) (pa_cons (pv 4) (pa_cons (pv 7) pa_nil))))) (pv 5) (nomark _)))) (fun _ _ _ _ _ => (pv 7))) pa_nil)))
          (pss_cons (ps_aug (i := 5) nd rfl (.inr rfl) (pe_call G_lesser_ways (hr.mono (by decide)) (by rfl) T.m_lesser_ways T.F_lesser_ways.kp T.b_lesser_ways .nil pass0 (pa_cons (pv 0) (pa_cons (pv 2) (pa_cons (pv 4) (pa_cons (pv 6) pa_nil))))) ip_sub)
          (pss_cons (ps_expr (pe_bm PySem.F.plainAttrs_list PySem.F.slot_list_append PySem.F.type_list_append mt_append (pv 3) (pa_cons (pv 6) pa_nil)))
          (pss_one (ps_set (i := 4) nd rfl (.inr rfl) (pe_call G_with_window (hr.mono (by decide)) (by rfl) T.m_with_window T.F_with_window.kp T.b_with_window .nil pass0 (pa_cons (pv 4) (pa_cons (pv 6) pa_nil)))))))))
      (pss_one (ps_ret (pv 3)))))))))), ?_⟩
    refine q_refuse (ea_cons (ev_var rfl) ea_nil) hl (fun hn H1 e1 => ?_) qT
    have hl1 := ex_l e1 hl
    have ht1 := ht.ex e1
    refine q_asgL (el_call (ea_cons (ev_var rfl) ea_nil) (spL_ways hl1 ht1 hn)) fun W H2 hW e2 h2 => ?_
    have hl2 := ex_l e2 hl1
    have ht2 := ht1.ex e2
    refine q_when (b := decide (num < 0) || decide (num ≥ way (wsOf qs) 0)) (et_or (et_test (ev_op (ev_var rfl) ev_c rv_I0)) fun _ => et_test (ev_op (ev_var rfl) (ev_op (ev_var rfl) ev_c (rv_ixL (sq_of h2) (ints_at (h := 0) (wayL_at Nat.one_le_two_pow)))) rv_I0)) (fun hb H3 e3 => ?_) (fun hb H3 e3 => ?_)
    · refine qB hn (fun ⟨h1, h2⟩ => ?_) H3 ((e1.trans e2).trans e3)
      rcases Bool.or_eq_true_iff.mp hb with z | z <;> have := of_decide_eq_true z <;> omega
    rw [Bool.or_eq_false_iff] at hb
    have n0 : 0 ≤ num := by have := of_decide_eq_false hb.1; omega
    have n1 : num < way (wsOf qs) 0 := by have := of_decide_eq_false hb.2; omega
    have q := q hn n0 n1
    have hl3 := ex_l e3 hl2
    have ht3 := ht2.ex e3
    have hW3 := e3 _ _ h2
    refine q_asgL (el_lst ea_nil (by decide)) fun R H4 hR e4 h4 => ?_
    refine q_asg ev_c fun H5 e5 => ?_
    refine q_asg (ev_var rfl) fun H6 e6 => ?_
    have e36 := (e4.trans e5).trans e6
    refine q_while (fun m σ' H' => ∃ (rs : List Nat) (h : Nat) (left : Int) (y : Option V), σ' = [some (.ref l), some (.int num), some (.ref W), some (.ref R), some (.int (h : Nat)), some (.int left), y, none] ∧ m = qs.length - rs.length ∧ Ex H3 H' ∧ H' R = some (.lst ((natI rs).map V.int)) ∧ (freeN (wsOf qs).length h).length + rs.length = qs.length ∧ h < 2 ^ qs.length ∧ 0 ≤ left ∧ left < way (wsOf qs) h ∧
      ∀ t, Path (wsOf qs) h t → numOf (wsOf qs) h t = left → Path (wsOf qs) 0 (rs ++ t) ∧ numOf (wsOf qs) 0 (rs ++ t) = num) qs.length ⟨[], 0, num, none, rfl, rfl, e36, e6 _ _ (e5 _ _ h4), by rw [free_zero, List.length_range, ws_len]; rfl, Nat.pow_pos (by decide), n0, n1, fun t p1 p2 => ⟨p1, p2⟩⟩ ?_
    rintro m σ' H' ⟨rs, h, left, y, rfl, rfl, ex, hRR, hfl, hh, l0, l1, hall⟩
    have hl' := ex_l ex hl3
    have ht' := ht3.ex ex
    have hW' := ex _ _ hW3
    refine ⟨decide ((rs.length : Int) < (qs.length : Int)), et_test (ev_op (ev_is (ev_len (ev_var rfl) (sq_of hRR)) (by rw [List.length_map, natI_len])) (ev_is (ev_len (ev_var rfl) hl') (by rw [refs_len])) rv_I0), fun hb H7 e7 => ?_, fun hb H7 e7 => ?_⟩
    · have hlt : rs.length < qs.length := by have := of_decide_eq_true hb; omega
      have hne : freeN (wsOf qs).length h ≠ [] := fun z => by rw [z, List.length_nil] at hfl; omega
      have hl7 := ex_l e7 hl'
      have ht7 := ht'.ex e7
      have hW7 := e7 _ _ hW'
      have hRR7 := e7 _ _ hRR
      obtain ⟨x0, hx0, hx1⟩ := some_step l0 l1 hne
      obtain ⟨M, hM, hmax⟩ := list_max ((nxtN (wsOf qs) h).filter fun k => decide (lessN (wsOf qs) h k ≤ left)) (fun z => by
        have : x0 ∈ (nxtN (wsOf qs) h).filter fun k => decide (lessN (wsOf qs) h k ≤ left) := List.mem_filter.mpr ⟨hx0, decide_eq_true hx1⟩
        rw [z] at this
        cases this)
      obtain ⟨hM1, hM2⟩ := List.mem_filter.mp hM
      have hM2 := of_decide_eq_true hM2
      have hM3 := nxt_lt hM1
      rw [ws_len] at hM3
      obtain ⟨b0, b1⟩ := best_step l1 hne hM1 hM2 fun y hy hle => hmax y (List.mem_filter.mpr ⟨hy, decide_eq_true hle⟩)
      refine ⟨fun σ2 H2 => ∃ m', m' < qs.length - rs.length ∧ ∃ (rs : List Nat) (h : Nat) (left : Int) (y : Option V), σ2 = [some (.ref l), some (.int num), some (.ref W), some (.ref R), some (.int (h : Nat)), some (.int left), y, none] ∧ m' = qs.length - rs.length ∧ Ex H3 H2 ∧ H2 R = some (.lst ((natI rs).map V.int)) ∧ (freeN (wsOf qs).length h).length + rs.length = qs.length ∧ h < 2 ^ qs.length ∧ 0 ≤ left ∧ left < way (wsOf qs) h ∧
        ∀ t, Path (wsOf qs) h t → numOf (wsOf qs) h t = left → Path (wsOf qs) 0 (rs ++ t) ∧ numOf (wsOf qs) 0 (rs ++ t) = num, fun _ _ z => z, ?_⟩
      refine q_asg (v := .int (M : Nat)) (ev_maxN (ns := natI ((nxtN (wsOf qs) h).filter fun k => decide (lessN (wsOf qs) h k ≤ left))) ?_ (List.mem_map.mpr ⟨M, hM, rfl⟩) fun y hy => ?_) fun H8 e8 => ?_
      · rw [natI_int, ← nat_given, show (nxtN (wsOf qs) h).length = ((natI (nxtN (wsOf qs) h)).map V.int).length by rw [List.length_map, natI_len]]
        refine el_lcNL _ _ (el_call (ea_cons (ev_var rfl) (ea_cons (ev_var rfl) ea_nil)) (spL_next hl7 ht7 (by omega))) (by rw [List.length_map, natI_len]; have := nxt_len (wsOf qs) h; rw [ws_len] at this; omega) (fun x => rfl) (fun i x Hb eb gx => ?_) (fun i x Hb eb gx _ => ?_)
        · obtain ⟨k, rfl, gk, ek⟩ := nat_at gx
          rw [ek]
          exact et_test (ev_op (ev_call (ea_cons (ev_var rfl) (ea_cons (ev_var rfl) (ea_cons (ev_var rfl) (ea_cons (ev_var rfl) ea_nil)))) (spV_less (ex_l eb hl7) (ht7.ex eb) hn (sq_of (eb _ _ hW7)) hh)) (ev_var rfl) rv_I0)
        · obtain ⟨k, rfl, gk, ek⟩ := nat_at gx
          rw [ek]
          exact ev_var rfl
      · obtain ⟨k, hk, rfl⟩ := List.mem_map.mp hy
        have := hmax k hk
        show ((k : Nat) : Int) ≤ (M : Int)
        omega
      have hl8 := ex_l e8 hl7
      have ht8 := ht7.ex e8
      have hW8 := e8 _ _ hW7
      have hRR8 := e8 _ _ hRR7
      refine q_aug (f := fun i j => i - j) rfl (ev_call (ea_cons (ev_var rfl) (ea_cons (ev_var rfl) (ea_cons (ev_var rfl) (ea_cons (ev_var rfl) ea_nil)))) (spV_less hl8 ht8 hn (sq_of hW8) hh)) fun H9 e9 => ?_
      have hRR9 := e9 _ _ hRR8
      refine q_app hRR9 (ev_var rfl) (ev_var rfl) (by rw [List.length_map, natI_len]; omega) fun H10 e10 => ?_
      refine s_asg (ev_call (ea_cons (ev_var rfl) (ea_cons (ev_var rfl) ea_nil)) (spV_with (by omega))) fun H11 e11 => ?_
      have e3R : H3 R = none := hR
      refine ⟨qs.length - (rs ++ [M]).length, by rw [List.length_append]; show _ - (_ + 1) < _; omega, rs ++ [M], h ||| 2 ^ M, left - lessN (wsOf qs) h M, _, rfl, rfl, (ex_up ((((ex.trans e7).trans e8).trans e9).trans e10) e3R).trans e11, ?_, ?_, or_lt hh hM3, b0, b1, fun t p1 p2 => ?_⟩
      · rw [e11 _ _ upd_same]
        unfold natI
        rw [List.map_append, List.map_append]
        rfl
      · have := free_or_len (nxt_free hM1)
        rw [List.length_append]
        show _ + (rs.length + 1) = _
        omega
      · have := hall (M :: t) ⟨hM1, p1⟩ (by show lessN (wsOf qs) h M + numOf (wsOf qs) (h ||| 2 ^ M) t = left; omega)
        rw [List.append_assoc]
        exact this
    · have hlt : ¬ rs.length < qs.length := by have := of_decide_eq_false hb; omega
      have hne : freeN (wsOf qs).length h = [] := List.eq_nil_of_length_eq_zero (by omega)
      have hw := way_full hne
      have := hall [] hne (by show (0 : Int) = left; omega)
      rw [List.append_nil] at this
      refine s_ret (ev_var rfl) fun H8 e8 => ?_
      exact q rs H8 R (fresh_back ((e1.trans e2).trans e3) hR) ((((e1.trans e2).trans e3).trans ex).trans (e7.trans e8)) (e8 _ _ (e7 _ _ hRR)) this.1 this.2
end

end Su
namespace Su
section
variable {P : Program} {w : World} {K : PySem.W.Frag} {mg : Str → Option Value} {base : Heap}
def spNumber (K : PySem.W.Frag) (fT fB : Addr) : Sp := fun vs H Q E => ∃ (l rr : Addr) (qs : List Win) (ns : List Int), vs = [.ref l, .ref rr] ∧ SqL K H l (refs qs) ∧ TW H qs ∧ qs.length ≤ 1000 ∧ SqL K H rr (ns.map V.int) ∧ ns.length ≤ 1000 ∧ (8 < qs.length → ∀ H', Ex H H' → E (.ref fT) none H') ∧
  (qs.length ≤ 8 → isOrd (wsOf qs) ns = false → ∀ H', Ex H H' → E (.ref fB) none H') ∧ (qs.length ≤ 8 → ∀ r, ns = natI r → Path (wsOf qs) 0 r → ∀ H', Ex H H' → Q (.int (numOf (wsOf qs) 0 r)) H')
theorem spV_isOrd {l r : Addr} {qs : List Win} {ns : List Int} {H : Hp} (hl : SqL K H l (refs qs)) (ht : TW H qs) (hq : qs.length ≤ 1000) (hr : SqL K H r (ns.map V.int)) (hn : ns.length ≤ 1000) : SpV (spIsOrder K) [.ref l, .ref r] H (.bl (isOrd (wsOf qs) ns)) := fun H1 e Q q _ => ⟨l, r, qs, ns, rfl, ex_l e hl, ht.ex e, hq, ex_l e hr, hn, q⟩
theorem okx_number_of_order {f : Addr} {fd : FuncData} (F : Fun K "number_of_order" "number_of_order" s_number_of_order f fd) (T : Top K mg) : FnOk P w K mg base (L2.CX P w) 3 f fd ["windows", "row"] (spNumber K T.f_TooMany T.f_BadNumber) := by
  have nd := sc_number_of_order.nd
  have G_refuse_many : FnOk P w K mg base (L2.CX P w) 1 T.f_refuse_many T.fd_refuse_many ["windows"] (spRefuse K T.f_TooMany) := okx_refuse_many T.F_refuse_many T
  have G_is_order : FnOk P w K mg base CX0 1 T.f_is_order T.fd_is_order ["windows", "row"] (spIsOrder K) := ok_is_order T.F_is_order T
  have G_ways_on : FnOk P w K mg base CX0 2 T.f_ways_on T.fd_ways_on ["windows"] (spWays K) := ok_ways_on T.F_ways_on T
  have G_with_window : FnOk P w K mg base CX0 1 T.f_with_window T.fd_with_window ["held", "at"] spWith := ok_with_window T.F_with_window T
  have G_lesser_ways : FnOk P w K mg base CX0 2 T.f_lesser_ways T.fd_lesser_ways ["windows", "ways", "held", "at"] (spLess K) := ok_lesser_ways T.F_lesser_ways T
  refine F.okX sc_number_of_order (fun vs H Q E h => ?_) (fun cdv A outer s H vs Q E hr h => ?_)
  · obtain ⟨l, rr, qs, ns, rfl, _⟩ := h
    rfl
  · obtain ⟨l, rr, qs, ns, rfl, hl, ht, hq, hrr, hns, qT, qB, q⟩ := h
    refine ⟨_, (pss_cons (ps_expr (pe_call G_refuse_many (hr.mono (by decide)) (by rfl) T.m_refuse_many T.F_refuse_many.kp T.b_refuse_many .nil (passes_call (takes_of rfl rfl rfl rfl) (fun _ _ _ _ h => h)) (pa_cons (pv 0) pa_nil)))
      (pss_cons (ps_if (pt_not (pt_val (pe_call G_is_order (hr.mono (by decide)) (by rfl) T.m_is_order T.F_is_order.kp T.b_is_order .nil pass0 (pa_cons (pv 0) (pa_cons (pv 1) pa_nil)))))
        (pss_one (ps_raise rfl (takes_of rfl rfl rfl rfl) (pmk_own0 PySem.F.excBase_ValueError T.x_BadNumber T.m_BadNumber T.kp_BadNumber (raises_own T.sb_BadNumber T.ty_BadNumber) (by rfl))))
        pss_nil)
      (pss_cons (ps_set (i := 2) nd rfl (.inl rfl) (pe_call G_ways_on (hr.mono (by decide)) (by rfl) T.m_ways_on T.F_ways_on.kp T.b_ways_on .nil pass0 (pa_cons (pv 0) pa_nil)))
      (pss_cons (ps_set (i := 3) nd rfl (.inl rfl) pe_int)
      (pss_cons (ps_set (i := 4) nd rfl (.inl rfl) pe_int)
      (pss_cons (ps_for (passes_of rfl) rfl (pi_list (pv 1)) (pg_name (i := 5) nd rfl (.inl rfl))
        (pss_cons (ps_aug (i := 3) nd rfl (.inl rfl) (pe_call G_lesser_ways (hr.mono (by decide)) (by rfl) T.m_lesser_ways T.F_lesser_ways.kp T.b_lesser_ways .nil pass0 (pa_cons (pv 0) (pa_cons (pv 2) (pa_cons (pv 4) (pa_cons (pv 5) pa_nil))))) ip_add)
          (pss_one (ps_set (i := 4) nd rfl (.inl rfl) (pe_call G_with_window (hr.mono (by decide)) (by rfl) T.m_with_window T.F_with_window.kp T.b_with_window .nil pass0 (pa_cons (pv 4) (pa_cons (pv 5) pa_nil)))))))
      (pss_one (ps_ret (pv 3))))))))), ?_⟩
    refine q_refuse (ea_cons (ev_var rfl) ea_nil) hl (fun hn H1 e1 => ?_) qT
    refine q_when (b := !isOrd (wsOf qs) ns) (et_not (et_B (ev_call (ea_cons (ev_var rfl) (ea_cons (ev_var rfl) ea_nil)) (spV_isOrd (ex_l e1 hl) (ht.ex e1) hq (ex_l e1 hrr) hns)))) (fun hb H2 e2 => ?_) (fun hb H2 e2 => ?_)
    · rw [Bool.not_eq_true'] at hb
      exact qB hn hb H2 (e1.trans e2)
    rw [Bool.not_eq_false'] at hb
    obtain ⟨r, rfl, hp, hrl⟩ := ord_path hb
    have q := q hn r rfl hp
    have hl2 := ex_l (e1.trans e2) hl
    have ht2 := ht.ex (e1.trans e2)
    have hrr2 := ex_l (e1.trans e2) hrr
    refine q_asgL (el_call (ea_cons (ev_var rfl) ea_nil) (spL_ways hl2 ht2 hn)) fun W H3 hW e3 h3 => ?_
    refine q_asg ev_c fun H4 e4 => ?_
    refine q_asg ev_c fun H5 e5 => ?_
    have e25 := (e3.trans e4).trans e5
    refine q_forL (xs := (natI r).map V.int) (ev_var rfl) (ex_l e25 hrr2) (fun i σ' H' => ∃ (t : Int) (h : Nat) (y : Option V), σ' = [some (.ref l), some (.ref rr), some (.ref W), some (.int t), some (.int (h : Nat)), y] ∧ Ex H5 H' ∧ h < 2 ^ qs.length ∧ Path (wsOf qs) h (r.drop i) ∧ t + numOf (wsOf qs) h (r.drop i) = numOf (wsOf qs) 0 r) ?_ ?_ ?_ ?_
    · intro H6 e6
      exact ⟨0, 0, none, rfl, e6, Nat.pow_pos (by decide), hp, Int.zero_add _⟩
    · rintro i σ' H' _ ⟨t, h, y, rfl, ex, _⟩
      exact ex_l (e25.trans ex) hrr2
    · rintro i x σ' H' gx ⟨t, h, y, rfl, ex, hh, hpa, hnum⟩
      obtain ⟨k, rfl, gk, ek⟩ := nat_at gx
      have hi : i < r.length := (List.getElem?_eq_some_iff.mp gk).1
      have hd : r.drop i = k :: r.drop (i + 1) := by
        rw [List.drop_eq_getElem_cons hi]
        rw [List.getElem?_eq_getElem hi] at gk
        rw [Option.some.inj gk]
      rw [hd] at hpa hnum
      have hk1 := nxt_lt hpa.1
      rw [ws_len] at hk1
      have ex2 := e25.trans ex
      have hnum : t + (lessN (wsOf qs) h k + numOf (wsOf qs) (h ||| 2 ^ k) (r.drop (i + 1))) = numOf (wsOf qs) 0 r := hnum
      refine q_aug (f := fun i j => i + j) rfl (ev_call (ea_cons (ev_var rfl) (ea_cons (ev_var rfl) (ea_cons (ev_var rfl) (ea_cons (ev_var rfl) ea_nil)))) (spV_less (ex_l ex2 hl2) (ht2.ex ex2) hn (sq_of (ex _ _ (e5 _ _ (e4 _ _ h3)))) hh)) fun H6 e6 => ?_
      refine s_asg (ev_call (ea_cons (ev_var rfl) (ea_cons (ev_var rfl) ea_nil)) (spV_with (by omega))) fun H7 e7 => ?_
      exact ⟨_, _, _, rfl, (ex.trans e6).trans e7, or_lt hh hk1, hpa.2, by omega⟩
    · rintro σ' H' ⟨t, h, y, rfl, ex, hh, hpa, hnum⟩
      rw [List.length_map, natI_len, List.drop_length] at hnum
      have hnum : t + 0 = numOf (wsOf qs) 0 r := hnum
      refine s_ret (ev_var rfl) fun H6 e6 => ?_
      have z := q H6 (((e1.trans e2).trans e25).trans (ex.trans e6))
      rw [← hnum, Int.add_zero] at z
      exact z
end

end Su
namespace Su
/-! ### a planted order -/
theorem natI_inj : ∀ {a b : List Nat}, natI a = natI b → a = b
  | [], [], _ => rfl
  | [], y :: s, h => by cases h
  | x :: r, [], h => by cases h
  | x :: r, y :: s, h => by
    unfold natI at h
    rw [List.map_cons, List.map_cons] at h
    obtain ⟨h1, h2⟩ := List.cons.inj h
    rw [natI_inj (a := r) (b := s) h2, show x = y by omega]
theorem perm_nat {ns : List Int} {n : Nat} (hp : ns.Perm (rgI n)) : ∃ r : List Nat, ns = natI r ∧ r.Perm (List.range n) := by
  have hn : ns = natI (ns.map Int.toNat) := by
    unfold natI
    rw [List.map_map]
    conv => lhs; rw [← List.map_id ns]
    apply List.map_congr_left
    intro z hz
    obtain ⟨j, rfl, _⟩ := in_rg (hp.mem_iff.mp hz)
    show ((j : Nat) : Int) = ((((j : Nat) : Int).toNat : Nat) : Int)
    rw [Int.toNat_natCast]
  refine ⟨ns.map Int.toNat, hn, ?_⟩
  rw [hn] at hp
  exact nat_perm.mp hp
/-- the first i places of r lie within their windows -/
def Planted (qs : List Win) (r : List Nat) (i : Nat) : Prop := ∀ j k : Nat, j < i → r[j]? = some k → ∃ q, qs[k]? = some q ∧ q.2.1 ≤ (j : Int) + 1 ∧ (j : Int) + 1 ≤ q.2.2
theorem Planted.step {qs : List Win} {r : List Nat} {i k : Nat} {q : Win} (h : Planted qs r i) (hr : r.Nodup) (hk : r[i]? = some k) (hl : k < qs.length) (h1 : q.2.1 ≤ (i : Int) + 1) (h2 : (i : Int) + 1 ≤ q.2.2) : Planted (qs.set k q) r (i + 1) := fun j m hj hm => by
  by_cases e : j = i
  · subst e
    rw [hk] at hm
    cases hm
    exact ⟨q, by rw [List.getElem?_set, if_pos rfl, if_pos hl], h1, h2⟩
  · have hne : k ≠ m := fun z => by
      subst z
      exact e ((List.getElem?_inj (List.getElem?_eq_some_iff.mp hm).1 hr).mp (hm.trans hk.symm))
    obtain ⟨q', g, g1, g2⟩ := h j m (by omega) hm
    exact ⟨q', by rw [List.getElem?_set, if_neg hne]; exact g, g1, g2⟩

end Su
namespace Su
/-! ### windows around a planted order -/
theorem Planted.path {qs : List Win} {r : List Nat} (h : Planted qs r r.length) (hp : r.Perm (List.range qs.length)) : Path (wsOf qs) 0 r := by
  have hl : r.length = qs.length := by rw [hp.length_eq, List.length_range]
  refine path_of r 0 (by rw [free_zero, ws_len]; exact hp.symm) fun j a e => ?_
  obtain ⟨q, g, g1, g2⟩ := h j a (List.getElem?_eq_some_iff.mp e).1 e
  unfold fitN
  rw [ws_at g]
  show (decide _ && decide _) = true
  rw [ws_len, hl, show (qs.length : Int) - (qs.length : Int) + 1 + (j : Int) = (j : Int) + 1 by omega, decide_eq_true g1, decide_eq_true g2]
  rfl
theorem at4v {a b c d z : Int} (h0 : 0 ≤ z) (h : z < 4) : ∃ v : Int, atI [V.int a, .int b, .int c, .int d] z = some (.int v) ∧ (v = a ∨ v = b ∨ v = c ∨ v = d) := by
  have h4 : z = 0 ∨ z = 1 ∨ z = 2 ∨ z = 3 := by omega
  rcases h4 with rfl | rfl | rfl | rfl
  · exact ⟨a, rfl, .inl rfl⟩
  · exact ⟨b, rfl, .inr (.inl rfl)⟩
  · exact ⟨c, rfl, .inr (.inr (.inl rfl))⟩
  · exact ⟨d, rfl, .inr (.inr (.inr rfl))⟩
section
variable {P : Program} {w : World} {K : PySem.W.Frag} {mg : Str → Option Value} {base : Heap}
theorem spV_count {fT l : Addr} {qs : List Win} {H : Hp} (hl : SqL K H l (refs qs)) (ht : TW H qs) (hn : qs.length ≤ 8) : SpV (spCount K fT) [.ref l] H (.int (way (wsOf qs) 0)) := fun H1 e Q q E => ⟨l, qs, rfl, ex_l e hl, ht.ex e, fun _ H' e' => q H' e', fun h => absurd hn (by omega)⟩
theorem spN_bynum {fT fB l : Addr} {qs : List Win} {num : Int} {H : Hp} (hl : SqL K H l (refs qs)) (ht : TW H qs) (hn : qs.length ≤ 8) (h0 : 0 ≤ num) (h1 : num < way (wsOf qs) 0) : SpN (spByNum K fT fB) [.ref l, .int num] H (fun xs => ∃ r : List Nat, Path (wsOf qs) 0 r ∧ numOf (wsOf qs) 0 r = num ∧ xs = (natI r).map V.int) :=
  fun H1 e Q q E => ⟨l, qs, num, rfl, ex_l e hl, ht.ex e, fun h => absurd hn (by omega), fun _ h => absurd ⟨h0, h1⟩ h, fun _ _ _ r H' p hp e' h' pa hnum => q _ p H' ⟨r, pa, hnum, rfl⟩ hp e' h'⟩
/-- .. told: which list it is -/
theorem spL_bynum {fT fB l : Addr} {qs : List Win} {r : List Nat} {H : Hp} (hl : SqL K H l (refs qs)) (ht : TW H qs) (hn : qs.length ≤ 8) (hp : Path (wsOf qs) 0 r) : SpL (spByNum K fT fB) [.ref l, .int (numOf (wsOf qs) 0 r)] H ((natI r).map V.int) := fun H1 e Q q E => by
  have hb := path_num r 0 hp
  refine ⟨l, qs, _, rfl, ex_l e hl, ht.ex e, fun h => absurd hn (by omega), fun _ h => absurd hb h, fun _ _ _ r' H' p hp' e' h' pa hnum => q p H' hp' e' ?_⟩
  rw [h', path_inj r' r 0 pa hp hnum]
end

end Su
namespace Su
/-! ### the told bar is one; an order and a bar shut each other out -/
theorem isBar_of {ws : List (Int × Int)} {a b : Int} (hf : Full ws a b) (hs : 0 < surp ws a b) : isBar ws a b (inside ws a b) = true := by
  obtain ⟨⟨a1, a2, b1, b2⟩, _⟩ := hf
  unfold isBar
  have h : (inside ws a b).filter (fun z => decide (z ∈ inside ws a b)) = inside ws a b := List.filter_eq_self.mpr fun z hz => decide_eq_true hz
  unfold surp at hs
  rw [h, decide_eq_true a1, decide_eq_true a2, decide_eq_true b1, decide_eq_true b2, decide_eq_true (rfl : inside ws a b = inside ws a b), decide_eq_true (show ((inside ws a b).length : Int) > roundsB a b by omega)]
  rfl
theorem isBar_all {ws : List (Int × Int)} : isBar ws 1 ws.length (rgI ws.length) = false := by
  unfold isBar
  rw [Bool.and_eq_false_iff]
  right
  rw [Bool.and_eq_false_iff]
  right
  refine decide_eq_false fun h => ?_
  unfold roundsB rgI at h
  rw [List.length_map, List.length_range] at h
  split at h <;> omega
theorem ord_of_isOrd {ws : List (Int × Int)} {row : List Nat} (h : isOrd ws (natI row) = true) : IsOrd ws row := by
  unfold isOrd at h
  rw [Bool.and_eq_true] at h
  obtain ⟨h1, h2⟩ := h
  have hp := nat_perm.mp ((sortI_eq _ _).mp (of_decide_eq_true h1))
  refine ⟨hp, fun i k hk => ?_⟩
  have hi := (List.getElem?_eq_some_iff.mp hk).1
  have hkl : k < ws.length := List.mem_range.mp (hp.mem_iff.mp (List.mem_of_getElem? hk))
  have h3 : inRound ws (natI row) i = true := List.all_eq_true.mp h2 _ (List.mem_map.mpr ⟨i, List.mem_range.mpr (by rw [natI_len]; exact hi), rfl⟩)
  unfold inRound at h3
  rw [natI_some hk] at h3
  have h3 : (match ws[((k : Nat) : Int).toNat]? with | some w => decide (w.1 ≤ 1 + (i : Int)) && decide (1 + (i : Int) ≤ w.2) | none => false) = true := h3
  rw [Int.toNat_natCast, List.getElem?_eq_getElem hkl] at h3
  unfold firstI lastI
  rw [List.getElem?_eq_getElem hkl]
  have h3 : (decide (ws[k].1 ≤ 1 + (i : Int)) && decide (1 + (i : Int) ≤ ws[k].2)) = true := h3
  rw [Bool.and_eq_true] at h3
  have h4 := of_decide_eq_true h3.1
  have h5 := of_decide_eq_true h3.2
  exact ⟨by show ws[k].1 ≤ _; omega, by show _ ≤ ws[k].2; omega⟩
theorem noOrd {ws : List (Int × Int)} (hb : Bnd ws) (h : greedy ws ws.length = none) (row : List Nat) : isOrd ws (natI row) = false := by
  cases e : isOrd ws (natI row) with
  | false => rfl
  | true =>
    obtain ⟨r, g, _⟩ := ord_greedy hb (ord_of_isOrd e)
    rw [h] at g
    cases g

end Su
namespace Su
section
variable {P : Program} {w : World} {K : PySem.W.Frag} {mg : Str → Option Value} {base : Heap}
def WinB (n : Nat) (qs : List Win) : Prop := qs.length = n ∧ ∀ q ∈ qs, 1 ≤ q.2.1 ∧ q.2.1 ≤ n ∧ 1 ≤ q.2.2 ∧ q.2.2 ≤ n
def spWideB (K : PySem.W.Frag) : Sp := fun vs H Q _ => ∃ (a : Addr) (rows : List Int) (n : Nat), vs = [.ref a, .int (n : Int)] ∧ SqL K H a (rows.map V.int) ∧ 2 * n ≤ rows.length ∧ 1 ≤ n ∧ n ≤ 1000 ∧
  ∀ qs H' p, H p = none → Ex H H' → H' p = some (.lst (refs qs)) → TW H' qs → WinB n qs → Q (.ref p) H'
theorem ok__law_wide {f : Addr} {fd : FuncData} {k : Nat} (F : Fun K "_law_wide" "_law_wide" s__law_wide f fd) (T : Top K mg) : FnOk P w K mg base CX0 (k + 1) f fd ["_law_some", "_law_size"] (spWideB K) := by
  have nd := sc__law_wide.nd
  refine F.ok sc__law_wide (fun vs H Q E h => ?_) (fun cdv A outer s H vs Q E hr h => ?_)
  · obtain ⟨a, rows, n, rfl, _⟩ := h
    rfl
  · obtain ⟨a, rows, n, rfl, hS, hlen, n1, n2, q⟩ := h
    refine ⟨_, (pss_cons (ps_set (i := 2) nd rfl (.inl rfl) (pe_lst pa_nil))
      (pss_cons (ps_for PassesOwn.never rfl (pi_range1 rfl T.m_range (pa_cons (pv 1) pa_nil)) (pg_name (i := 3) nd rfl (.inl rfl))
        (pss_cons (ps_set (i := 4) nd rfl (.inl rfl) (pe_op op_add pe_int (pe_op op_mul (pe_op op_mod (pe_ix ix_list (pv 0) (pe_op op_mul pe_int (pv 3)) (fun _ _ => rfl)) (pv 1)) (pe_op op_mod (pe_op op_fdiv (pe_ix ix_list (pv 0) (pe_op op_mul pe_int (pv 3)) (fun _ _ => rfl)) pe_int) pe_int))))
          (pss_cons (ps_set (i := 5) nd rfl (.inl rfl) (pe_op op_sub (pv 1) (pe_op op_mul (pe_op op_mod (pe_ix ix_list (pv 0) (pe_op op_add (pe_op op_mul pe_int (pv 3)) pe_int) (fun _ _ => rfl)) (pv 1)) (pe_op op_mod (pe_op op_fdiv (pe_ix ix_list (pv 0) (pe_op op_add (pe_op op_mul pe_int (pv 3)) pe_int) (fun _ _ => rfl)) pe_int) pe_int))))
          (pss_one (ps_expr (pe_bm PySem.F.plainAttrs_list PySem.F.slot_list_append PySem.F.type_list_append mt_append (pv 2) (pa_cons (pe_tup (pa_cons (pv 4) (pa_cons (pv 5) pa_nil))) pa_nil)))))))
      (pss_one (ps_ret (pv 2))))), ?_⟩
    refine q_asgL (el_lst ea_nil (by decide)) fun p H1 hp e1 h1 => ?_
    refine q_forR1 (by walk_at "ea") (by omega) (fun i σ' H' => ∃ (qs : List Win) (y3 y4 y5 : Option V), σ' = [some (.ref a), some (.int (n : Int)), some (.ref p), y3, y4, y5] ∧ Ex H H' ∧ H' p = some (.lst (refs qs)) ∧ TW H' qs ∧ qs.length = i ∧ ∀ q ∈ qs, 1 ≤ q.2.1 ∧ q.2.1 ≤ n ∧ 1 ≤ q.2.2 ∧ q.2.2 ≤ n) ?_ ?_ ?_
    · intro H2 e2
      exact ⟨[], none, none, none, rfl, e1.trans e2, e2 p _ h1, TW.nil, rfl, fun q hq => absurd hq List.not_mem_nil⟩
    · rintro i σ' H' hi ⟨qs, y3, y4, y5, rfl, ex, hp', ht, hl, hb⟩
      have hs := ex_l ex hS
      have r1 : atI (rows.map V.int) (2 * (i : Int)) = some (.int (rows.getD (2 * (i : Int)).toNat 0)) := Su.at_rows (by omega) (by omega)
      have r2 : atI (rows.map V.int) (2 * (i : Int) + 1) = some (.int (rows.getD (2 * (i : Int) + 1).toNat 0)) := Su.at_rows (by omega) (by omega)
      generalize rows.getD (2 * (i : Int)).toNat 0 = x1 at r1
      generalize rows.getD (2 * (i : Int) + 1).toNat 0 = x2 at r2
      have f1 := Int.emod_nonneg x1 (show (n : Int) ≠ 0 by omega)
      have f2 := Int.emod_lt_of_pos x1 (show 0 < (n : Int) by omega)
      have g1 := Int.emod_nonneg x2 (show (n : Int) ≠ 0 by omega)
      have g2 := Int.emod_lt_of_pos x2 (show 0 < (n : Int) by omega)
      have i2 : ∀ {H2 : Hp} {σ : L2.St}, Ex H' H2 → σ[0]? = some (some (.ref a)) → σ[3]? = some (some (.int (i : Int))) → Ev (tOp (rIxL K) (tVar 0) (tOp (rI CMul fun i j => .int (i * j)) (tC (.int 2)) (tVar 3))) σ H2 (.int x1) := fun e h0 h3 => ev_op (ev_var h0) (ev_op ev_c (ev_var h3) (Su.rv_mul (Su.CMul.l (by decide) (by decide)))) (rv_ixL (ex_l e hs) r1)
      refine q_asg (v := .int (1 + x1 % (n : Int) * (x1 / 7 % 2))) (ev_op ev_c (ev_op (ev_op (i2 (Ex.refl _) rfl rfl) (ev_var rfl) (Su.rv_mod (by omega))) (ev_op (ev_op (i2 (Ex.refl _) rfl rfl) ev_c (Su.rv_div (by decide) (by decide))) ev_c (Su.rv_mod (by decide))) (Su.rv_mul (Su.CMul.l (by omega) (by omega)))) rv_I0) fun H2 e2 => ?_
      have i3 : ∀ {H3 : Hp} {σ : L2.St}, Ex H' H3 → σ[0]? = some (some (.ref a)) → σ[3]? = some (some (.int (i : Int))) → Ev (tOp (rIxL K) (tVar 0) (tOp (rI0 fun i j => .int (i + j)) (tOp (rI CMul fun i j => .int (i * j)) (tC (.int 2)) (tVar 3)) (tC (.int 1)))) σ H3 (.int x2) := fun e h0 h3 => ev_op (ev_var h0) (ev_op (ev_op ev_c (ev_var h3) (Su.rv_mul (Su.CMul.l (by decide) (by decide)))) ev_c rv_I0) (rv_ixL (ex_l e hs) r2)
      refine q_asg (v := .int ((n : Int) - x2 % (n : Int) * (x2 / 5 % 2))) (ev_op (ev_var rfl) (ev_op (ev_op (i3 e2 rfl rfl) (ev_var rfl) (Su.rv_mod (by omega))) (ev_op (ev_op (i3 e2 rfl rfl) ev_c (Su.rv_div (by decide) (by decide))) ev_c (Su.rv_mod (by decide))) (Su.rv_mul (Su.CMul.l (by omega) (by omega)))) rv_I0) fun H3 e3 => ?_
      have ht3 := (ht.ex e2).ex e3
      have hp3 := ex_g e3 (ex_g e2 hp')
      have hw1 : 1 ≤ 1 + x1 % (n : Int) * (x1 / 7 % 2) ∧ 1 + x1 % (n : Int) * (x1 / 7 % 2) ≤ n := by
        have : x1 / 7 % 2 = 0 ∨ x1 / 7 % 2 = 1 := by omega
        rcases this with z | z <;> rw [z] <;> omega
      have hw2 : 1 ≤ (n : Int) - x2 % (n : Int) * (x2 / 5 % 2) ∧ (n : Int) - x2 % (n : Int) * (x2 / 5 % 2) ≤ n := by
        have : x2 / 5 % 2 = 0 ∨ x2 / 5 % 2 = 1 := by omega
        rcases this with z | z <;> rw [z] <;> omega
      generalize 1 + x1 % (n : Int) * (x1 / 7 % 2) = w1 at hw1 ⊢
      generalize (n : Int) - x2 % (n : Int) * (x2 / 5 % 2) = w2 at hw2 ⊢
      refine s_appU hp3 (by walk_at "ev") (eu_tup (by walk_at "ea") (by show 2 ≤ 100000; decide)) (by rw [refs_len]; omega) fun t H5 ht5 e5 h5 => ?_
      have hp5 : H5 p = some (.lst (refs qs)) := ex_g e5 hp3
      refine ⟨qs ++ [(t, w1, w2)], _, _, _, rfl, ex_up (((ex.trans e2).trans e3).trans e5) hp, ?_, TW.add ((ht3.ex e5).upd hp5) ?_, by rw [List.length_append, hl]; rfl, fun q hq => ?_⟩
      · rw [upd_same]
        unfold refs
        rw [List.map_append]
        rfl
      · rw [upd_ne (ne_of h5 hp5 (fun z => nomatch z))]
        exact h5
      · rcases List.mem_append.mp hq with hq | hq
        · exact hb q hq
        · rw [List.mem_singleton.mp hq]
          exact ⟨hw1.1, hw1.2, hw2.1, hw2.2⟩
    · rintro σ' H' ⟨qs, y3, y4, y5, rfl, ex, hp', ht, hl, hb⟩
      refine s_ret (by walk_at "ev") fun H2 e2 => ?_
      exact q qs H2 p hp (ex.trans e2) (ex_g e2 hp') (ht.ex e2) ⟨by omega, hb⟩
end

end Su
namespace Su
/-! ### beginnings of orders, lists of sets -/
theorem el_catR {ta tb : TE} {σ : L2.St} {H : Hp} {a : Addr} {xs ys : List V} (ha : Ev ta σ H (.ref a)) (hx : H a = some (.lst xs)) (hb : EvL tb σ H ys) (hz : xs.length + ys.length ≤ 100000) : EvL (tOp rCat ta tb) σ H (xs ++ ys) := fun H1 e Q q =>
  ha H1 e _ fun H2 e2 => hb H2 (e.trans e2) _ fun p2 H3 hp3 e3 h3 => ⟨a, p2, xs, ys, rfl, rfl, (e.trans e2).trans e3 _ _ hx, h3, sz_of hz, fun r hr => q r _ (fresh_back (e2.trans e3) hr) ((e2.trans e3).trans (Ex.new hr)) upd_same⟩
theorem un65 {k : Nat} {A : Around} (hr : Room k A) : A.units + 65 < cLine := by
  have := hr.un
  omega
theorem q_asgLL {t1 : TE} {σ : L2.St} {H : Hp} {xs : List V} {i : Nat} {D : Ends} {tz : TS} (h1 : EvL t1 σ H xs) (k : ∀ a p H1, Ex H H1 → H1 a = some (.lst xs) → H1 p = some (.lst [.ref a]) → tz D (σ.set i (some (.ref p))) H1) : tSeq (tAsg (tLst (tCons t1 tNil)) (gName i)) tz D σ H :=
  h1 H (Ex.refl H) _ fun a H1 ha e1 h1' => ⟨by show 1 ≤ sizeLine; decide, fun p hp => k a p _ (e1.trans (Ex.new hp)) (Ex.new hp _ _ h1') upd_same⟩
abbrev Sets := List (Addr × List Nat)
def sref (L : Sets) : List V := L.map fun x => V.ref x.1
theorem sref_len {L : Sets} : (sref L).length = L.length := List.length_map _
theorem sref_at {L : Sets} {i : Nat} {x : V} (h : (sref L)[i]? = some x) : ∃ y, L[i]? = some y ∧ x = .ref y.1 := by
  unfold sref at h
  rw [List.getElem?_map] at h
  cases hc : L[i]? with
  | none => rw [hc] at h; cases h
  | some c => rw [hc] at h; exact ⟨c, rfl, (Option.some.inj h).symm⟩
def SW (H : Hp) (L : Sets) : Prop := ∀ x ∈ L, H x.1 = some (.lst ((natI x.2).map V.int))
theorem SW.ex {H H' : Hp} {L : Sets} (h : SW H L) (e : Ex H H') : SW H' L := fun x hx => e _ _ (h x hx)
/-- an order's beginning -/
def Pre (ws : List (Int × Int)) (row : List Nat) : Prop := row.Nodup ∧ ∀ (j k : Nat), row[j]? = some k → k < ws.length ∧ firstI ws k ≤ (j : Int) + 1 ∧ (j : Int) + 1 ≤ lastI ws k
theorem Pre.snoc {ws : List (Int × Int)} {row : List Nat} {k : Nat} (h : Pre ws row) (hk : k ∉ row) (hl : k < ws.length) (h1 : firstI ws k ≤ (row.length : Int) + 1) (h2 : (row.length : Int) + 1 ≤ lastI ws k) : Pre ws (row ++ [k]) := by
  refine ⟨?_, fun j c hc => ?_⟩
  · rw [List.nodup_append]
    exact ⟨h.1, by simp, fun a ha b hb z => hk (by rw [← List.mem_singleton.mp hb, ← z]; exact ha)⟩
  · by_cases hj : j < row.length
    · rw [List.getElem?_append_left hj] at hc
      exact h.2 j c hc
    · have hj2 := (List.getElem?_eq_some_iff.mp hc).1
      rw [List.length_append, List.length_singleton] at hj2
      have ej : j = row.length := by omega
      subst ej
      rw [List.getElem?_append_right (Nat.le_refl _), Nat.sub_self] at hc
      obtain rfl : k = c := Option.some.inj hc
      exact ⟨hl, h1, h2⟩
theorem Pre.back {ws : List (Int × Int)} {row : List Nat} {k : Nat} (h : Pre ws (row ++ [k])) : Pre ws row ∧ k ∉ row ∧ k < ws.length ∧ firstI ws k ≤ (row.length : Int) + 1 ∧ (row.length : Int) + 1 ≤ lastI ws k := by
  obtain ⟨h1, h2⟩ := h
  rw [List.nodup_append] at h1
  refine ⟨⟨h1.1, fun j c hc => h2 j c (by rw [List.getElem?_append_left (List.getElem?_eq_some_iff.mp hc).1]; exact hc)⟩, fun z => h1.2.2 k z k (by simp) rfl, ?_⟩
  exact h2 row.length k (by rw [List.getElem?_append_right (Nat.le_refl _), Nat.sub_self]; rfl)
theorem pre_ord {ws : List (Int × Int)} {row : List Nat} : IsOrd ws row ↔ Pre ws row ∧ row.length = ws.length := by
  constructor
  · intro h
    exact ⟨⟨h.1.nodup_iff.mpr List.nodup_range, fun j k hk => ⟨List.mem_range.mp (h.1.mem_iff.mp (List.mem_of_getElem? hk)), h.2 j k hk⟩⟩, by rw [h.1.length_eq, List.length_range]⟩
  · rintro ⟨h, hl⟩
    refine ⟨perm_sub h.1 (fun x hx => ?_) (by rw [hl, List.length_range]), fun j k hk => (h.2 j k hk).2⟩
    obtain ⟨j, hj⟩ := List.getElem?_of_mem hx
    exact List.mem_range.mpr (h.2 j x hj).1
def fitI (ws : List (Int × Int)) (i k : Nat) : Bool := decide (firstI ws k ≤ (1 : Int) + (i : Int)) && decide ((1 : Int) + (i : Int) ≤ lastI ws k)

end Su
namespace Su
/-! ### all rows, place by place, lesser numbers first -/
def extR (ws : List (Int × Int)) (i : Nat) (row : List Nat) : List (List Nat) := ((List.range ws.length).filter fun k => !row.contains k && fitI ws i k).map fun k => row ++ [k]
def allR (ws : List (Int × Int)) : Nat → List (List Nat)
  | 0 => [[]]
  | i + 1 => (allR ws i).flatMap (extR ws i)
theorem mem_all {ws : List (Int × Int)} : ∀ {i : Nat} {r : List Nat}, r ∈ allR ws i ↔ Pre ws r ∧ r.length = i
  | 0, r => by
    show r ∈ [[]] ↔ _
    rw [List.mem_singleton]
    constructor
    · rintro rfl
      exact ⟨⟨List.nodup_nil, fun j k h => by simp at h⟩, rfl⟩
    · rintro ⟨_, h⟩
      exact List.length_eq_zero_iff.mp h
  | i + 1, r => by
    show r ∈ (allR ws i).flatMap (extR ws i) ↔ _
    rw [List.mem_flatMap]
    constructor
    · rintro ⟨row, h1, h2⟩
      obtain ⟨p, l⟩ := mem_all.mp h1
      obtain ⟨k, hk, rfl⟩ := List.mem_map.mp h2
      obtain ⟨k1, k2⟩ := List.mem_filter.mp hk
      rw [Bool.and_eq_true] at k2
      unfold fitI at k2
      rw [Bool.and_eq_true] at k2
      have f1 := of_decide_eq_true k2.2.1
      have f2 := of_decide_eq_true k2.2.2
      exact ⟨p.snoc (fun z => by rw [List.contains_iff_mem.mpr z] at k2; cases k2.1) (List.mem_range.mp k1) (by omega) (by omega), by rw [List.length_append, l]; rfl⟩
    · rintro ⟨p, l⟩
      obtain ⟨row, k, rfl⟩ : ∃ s k, r = s ++ [k] := by
        refine ⟨r.take i, r[i], ?_⟩
        have : r = r.take (i + 1) := (List.take_of_length_le (by omega)).symm
        conv => lhs; rw [this, List.take_add_one, List.getElem?_eq_getElem (by omega)]
        rfl
      rw [List.length_append, List.length_singleton] at l
      obtain ⟨h1, h2, h3, h4, h5⟩ := p.back
      refine ⟨row, mem_all.mpr ⟨h1, by omega⟩, List.mem_map.mpr ⟨k, List.mem_filter.mpr ⟨List.mem_range.mpr h3, ?_⟩, rfl⟩⟩
      rw [Bool.and_eq_true]
      refine ⟨?_, ?_⟩
      · cases e : row.contains k with
        | false => rfl
        | true => exact absurd (List.contains_iff_mem.mp e) h2
      · unfold fitI
        rw [decide_eq_true (by omega), decide_eq_true (by omega)]
        rfl
theorem lexN_app : ∀ (r : List Nat) {a b : Nat}, a < b → lexN (r ++ [a]) (r ++ [b]) = true
  | [], a, b, h => by
    show (if a = b then lexN [] [] else decide (a < b)) = true
    rw [if_neg (by omega), decide_eq_true h]
  | c :: r, a, b, h => by
    show (if c = c then lexN (r ++ [a]) (r ++ [b]) else decide (c < c)) = true
    rw [if_pos rfl]
    exact lexN_app r h
theorem lexN_ext : ∀ {r s : List Nat} {a b : Nat}, lexN r s = true → lexN (r ++ [a]) (s ++ [b]) = true
  | [], s, a, b, h => by cases s <;> cases h
  | c :: r, [], a, b, h => by cases h
  | c :: r, d :: s, a, b, h => by
    have h : (if c = d then lexN r s else decide (c < d)) = true := h
    show (if c = d then lexN (r ++ [a]) (s ++ [b]) else decide (c < d)) = true
    by_cases z : c = d
    · rw [if_pos z] at h ⊢
      exact lexN_ext h
    · rw [if_neg z] at h ⊢
      exact h
theorem lexN_asym : ∀ {r s : List Nat}, lexN r s = true → lexN s r = false
  | [], s, h => by cases s <;> cases h
  | c :: r, [], h => by cases h
  | c :: r, d :: s, h => by
    have h : (if c = d then lexN r s else decide (c < d)) = true := h
    show (if d = c then lexN s r else decide (d < c)) = false
    by_cases z : c = d
    · rw [if_pos z] at h
      rw [if_pos z.symm]
      exact lexN_asym h
    · rw [if_neg z] at h
      rw [if_neg (fun y => z y.symm)]
      have := of_decide_eq_true h
      exact decide_eq_false (by omega)
theorem all_ris (ws : List (Int × Int)) : ∀ i, (allR ws i).Pairwise fun r s => lexN r s = true
  | 0 => List.pairwise_singleton _ _
  | i + 1 => by
    show ((allR ws i).flatMap (extR ws i)).Pairwise _
    rw [List.pairwise_flatMap]
    refine ⟨fun r _ => ?_, (all_ris ws i).imp fun {r s} h x hx y hy => ?_⟩
    · unfold extR
      rw [List.pairwise_map]
      exact (List.pairwise_lt_range.filter _).imp fun h => lexN_app r h
    · obtain ⟨a, _, rfl⟩ := List.mem_map.mp hx
      obtain ⟨b, _, rfl⟩ := List.mem_map.mp hy
      exact lexN_ext h
theorem path_rise {ws : List (Int × Int)} {r s : List Nat} (hr : Path ws 0 r) (hs : Path ws 0 s) (h : lexN r s = true) : numOf ws 0 r < numOf ws 0 s := by
  have h' := lexN_asym h
  by_cases c : numOf ws 0 r < numOf ws 0 s
  · exact c
  · by_cases d : numOf ws 0 r = numOf ws 0 s
    · have := path_inj r s 0 hr hs d
      subst this
      rw [h] at h'
      cases h'
    · have := path_lex s r 0 hs hr (by omega)
      rw [this] at h'
      cases h'
theorem list_top : ∀ {l : List Nat}, l ≠ [] → ∃ m ∈ l, ∀ y ∈ l, y ≤ m
  | [], h => absurd rfl h
  | [a], _ => ⟨a, List.mem_cons_self, fun y hy => by rw [List.mem_singleton.mp hy]; exact Nat.le_refl _⟩
  | a :: b :: l, _ => by
    obtain ⟨m, h1, h2⟩ := list_top (l := b :: l) (by simp)
    by_cases c : a ≤ m
    · exact ⟨m, List.mem_cons_of_mem _ h1, fun y hy => (List.mem_cons.mp hy).elim (fun z => by rw [z]; exact c) (h2 y)⟩
    · exact ⟨a, List.mem_cons_self, fun y hy => (List.mem_cons.mp hy).elim (fun z => by rw [z]; exact Nat.le_refl _) fun z => by have := h2 y z; omega⟩
theorem num_path {ws : List (Int × Int)} : ∀ (f h : Nat) (left : Int), (freeN ws.length h).length = f → 0 ≤ left → left < way ws h → ∃ r, Path ws h r ∧ numOf ws h r = left
  | 0, h, left, hf, h0, h1 => by
    have he := List.length_eq_zero_iff.mp hf
    rw [way_full he] at h1
    exact ⟨[], he, by show (0 : Int) = left; omega⟩
  | f + 1, h, left, hf, h0, h1 => by
    have he : freeN ws.length h ≠ [] := fun z => by rw [z] at hf; cases hf
    obtain ⟨x, hx, hxl⟩ := some_step h0 h1 he
    obtain ⟨m, hm, hmx⟩ := list_top (l := (nxtN ws h).filter fun k => decide (lessN ws h k ≤ left)) (fun z => by
      have : x ∈ (nxtN ws h).filter fun k => decide (lessN ws h k ≤ left) := List.mem_filter.mpr ⟨hx, decide_eq_true hxl⟩
      rw [z] at this
      exact absurd this List.not_mem_nil)
    obtain ⟨m1, m2⟩ := List.mem_filter.mp hm
    have m2 := of_decide_eq_true m2
    have hb := best_step h1 he m1 m2 fun y hy hyl => hmx y (List.mem_filter.mpr ⟨hy, decide_eq_true hyl⟩)
    have hfl := free_or_len (nxt_free m1)
    obtain ⟨r, p, e⟩ := num_path (ws := ws) f (h ||| 2 ^ m) (left - lessN ws h m) (by omega) (by omega) (by omega)
    exact ⟨m :: r, ⟨m1, p⟩, by show lessN ws h m + numOf ws (h ||| 2 ^ m) r = left; omega⟩
theorem path_iff {ws : List (Int × Int)} {r : List Nat} : r ∈ allR ws ws.length ↔ Path ws 0 r := by
  rw [mem_all, ← pre_ord]
  constructor
  · intro h
    obtain ⟨s, e, p, _⟩ := ord_path (isOrd_of h)
    rw [natI_inj e]
    exact p
  · intro p
    exact ord_of_isOrd (path_ord p)
/-- the numbers of all rows are 0, 1, .. in this order -/
theorem all_nums (ws : List (Int × Int)) : (allR ws ws.length).map (numOf ws 0) = rgI (way ws 0).toNat := by
  have hw := way_nonneg ws 0
  refine ris_unique ?_ ?_ fun z => ?_
  · rw [List.pairwise_map]
    exact List.Pairwise.imp_of_mem (fun hr hs h => path_rise (path_iff.mp hr) (path_iff.mp hs) h) (all_ris ws ws.length)
  · unfold rgI
    rw [List.pairwise_map]
    exact List.pairwise_lt_range.imp fun {i j} h => by omega
  · rw [List.mem_map]
    constructor
    · rintro ⟨r, hr, rfl⟩
      have := path_num r 0 (path_iff.mp hr)
      unfold rgI
      exact List.mem_map.mpr ⟨(numOf ws 0 r).toNat, List.mem_range.mpr (by omega), by omega⟩
    · intro hz
      obtain ⟨j, rfl, hj⟩ := in_rg hz
      obtain ⟨r, p, e⟩ := num_path (freeN ws.length 0).length 0 (j : Int) rfl (by omega) (by omega)
      exact ⟨r, path_iff.mpr p, e⟩
theorem all_len (ws : List (Int × Int)) : ((allR ws ws.length).length : Int) = way ws 0 := by
  have h := congrArg List.length (all_nums ws)
  have hw := way_nonneg ws 0
  unfold rgI at h
  rw [List.length_map, List.length_map, List.length_range] at h
  omega
theorem all_num {ws : List (Int × Int)} {m : Nat} {r : List Nat} (h : (allR ws ws.length)[m]? = some r) : numOf ws 0 r = (m : Int) := by
  have e := congrArg (fun l : List Int => l[m]?) (all_nums ws)
  have e : ((allR ws ws.length).map (numOf ws 0))[m]? = (rgI (way ws 0).toNat)[m]? := e
  rw [List.getElem?_map, h] at e
  unfold rgI at e
  rw [List.getElem?_map] at e
  by_cases c : m < (way ws 0).toNat
  · rw [List.getElem?_range c] at e
    exact Option.some.inj e
  · rw [List.getElem?_eq_none (by rw [List.length_range]; omega)] at e
    cases e
/-- the paper is a bar just where no row is -/
theorem bar_none {ws : List (Int × Int)} (hb : Bnd ws) : greedy ws ws.length = none ↔ way ws 0 = 0 := by
  rw [← all_len]
  constructor
  · intro h
    cases e : allR ws ws.length with
    | nil => rfl
    | cons r l =>
      have hr : r ∈ allR ws ws.length := by rw [e]; exact List.mem_cons_self
      obtain ⟨x, g, _⟩ := ord_greedy hb (pre_ord.mpr (mem_all.mp hr))
      rw [h] at g
      cases g
  · intro h
    cases e : greedy ws ws.length with
    | none => rfl
    | some row =>
      have := List.length_pos_of_mem (mem_all.mpr (pre_ord.mp (greedy_ord e)))
      omega

end Su
namespace Su
/-! ### _law_all, walked -/
theorem ext_part {ws : List (Int × Int)} {i u : Nat} {x : List Nat} {A : List (List Nat)} (h : A[u]? = some x) : (A.take (u + 1)).flatMap (extR ws i) = (A.take u).flatMap (extR ws i) ++ extR ws i x := by
  rw [List.take_add_one, h, List.flatMap_append]
  show _ ++ ([x] : List (List Nat)).flatMap (extR ws i) = _
  rw [List.flatMap_cons, List.flatMap_nil, List.append_nil]
def extTo (ws : List (Int × Int)) (i : Nat) (row : List Nat) (v : Nat) : List (List Nat) := ((List.range v).filter fun k => !row.contains k && fitI ws i k).map fun k => row ++ [k]
theorem extTo_yes {ws : List (Int × Int)} {i v : Nat} {row : List Nat} (h : (!row.contains v && fitI ws i v) = true) : extTo ws i row (v + 1) = extTo ws i row v ++ [row ++ [v]] := by
  unfold extTo
  rw [List.range_succ, List.filter_append, List.filter_cons, if_pos h, List.map_append]
  rfl
theorem extTo_no {ws : List (Int × Int)} {i v : Nat} {row : List Nat} (h : (!row.contains v && fitI ws i v) = false) : extTo ws i row (v + 1) = extTo ws i row v := by
  unfold extTo
  rw [List.range_succ, List.filter_append, List.filter_cons, if_neg (by rw [h]; decide)]
  simp
section
variable {P : Program} {w : World} {K : PySem.W.Frag} {mg : Str → Option Value} {base : Heap}
def spAll (K : PySem.W.Frag) : Sp := fun vs H Q _ => ∃ (l : Addr) (qs : List Win), vs = [.ref l] ∧ SqL K H l (refs qs) ∧ TW H qs ∧ qs.length ≤ 4 ∧ ∀ H' p (L : Sets), Ex H H' → H' p = some (.lst (sref L)) → SW H' L → L.map (·.2) = allR (wsOf qs) (wsOf qs).length → Q (.ref p) H'
set_option maxHeartbeats 4000000 in
theorem ok__law_all {f : Addr} {fd : FuncData} {k : Nat} (F : Fun K "_law_all" "_law_all" s__law_all f fd) (T : Top K mg) : FnOk P w K mg base CX0 (k + 1) f fd ["_law_windows"] (spAll K) := by
  have nd := sc__law_all.nd
  refine F.ok sc__law_all (fun vs H Q E h => ?_) (fun cdv A outer s H vs Q E hr h => ?_)
  · obtain ⟨l, qs, rfl, _⟩ := h
    rfl
  · obtain ⟨l, qs, rfl, hl, ht, hn, q⟩ := h
    refine ⟨_, (pss_cons (ps_set (i := 1) nd rfl (.inl rfl) (pe_lst (pa_cons (pe_lst pa_nil) pa_nil)))
      (pss_cons (ps_for PassesOwn.never rfl (pi_range2 rfl T.m_range (pa_cons pe_int (pa_cons (pe_op op_add (pe_callB call_len_seq (by rfl) T.m_len PySem.boot_len (pa_cons (pv 0) pa_nil)) pe_int) pa_nil))) (pg_name (i := 2) nd rfl (.inl rfl))
        (pss_cons (ps_set (i := 3) nd rfl (.inl rfl) (pe_lst pa_nil))
          (pss_cons (ps_for PassesOwn.never rfl (pi_list (pv 1)) (pg_name (i := 4) nd rfl (.inl rfl))
            (pss_one (ps_for PassesOwn.never rfl (pi_range1 rfl T.m_range (pa_cons (pe_callB call_len_seq (by rfl) T.m_len PySem.boot_len (pa_cons (pv 0) pa_nil)) pa_nil)) (pg_name (i := 5) nd rfl (.inl rfl))
                (pss_one (ps_if (PW.pt (pw_and (pt_cmpR op_notIn_seq (pv 5) (pv 4) rfl) (pw_and1 (pt_chain op_le op_le (pe_ix ix_tup (pe_ix ix_list (pv 0) (pv 5) (fun _ _ => rfl)) pe_int (fun _ _ => rfl)) (pv 2) (pe_ix ix_tup (pe_ix ix_list (pv 0) (pv 5) (fun _ _ => rfl)) pe_int (fun _ _ => rfl))))))
                    (pss_one (ps_expr (pe_bm PySem.F.plainAttrs_list PySem.F.slot_list_append PySem.F.type_list_append mt_append (pv 3) (pa_cons (pe_op op_cat (pv 4) (pe_lst (pa_cons (pv 5) pa_nil))) pa_nil))))
                    pss_nil)))))
          (pss_one (ps_set (i := 1) nd rfl (.inl rfl) (pv 3))))))
      (pss_one (ps_ret (pv 1))))), ?_⟩
    refine q_asgLL (el_lst ea_nil (by decide)) fun p0 pn H3 ex3 h30 h3 => ?_
    have h3 : H3 pn = some (.lst (sref [(p0, [])])) := h3
    refine q_forR2 (lo := 1) (n := (qs.length : Int) + 1) (ea_cons ev_c (ea_cons (ev_op (ev_is (ev_len (ev_var rfl) (ex_l ex3 hl)) (by rw [refs_len])) ev_c rv_I0) ea_nil)) ⟨by omega, by omega, by omega, by omega⟩
      (fun i σ' H' => ∃ (pn : Addr) (L : Sets) (y2 y3 y4 y5 : Option V), σ' = [some (.ref l), some (.ref pn), y2, y3, y4, y5] ∧ Ex H H' ∧ H' pn = some (.lst (sref L)) ∧ SW H' L ∧ L.map (·.2) = allR (wsOf qs) i ∧ L.length ≤ 4 ^ i) ?_ ?_ ?_
    · intro H4 e4
      refine ⟨pn, [(p0, [])], none, none, none, none, rfl, ex3.trans e4, e4 _ _ h3, fun x hx => ?_, rfl, by show 1 ≤ 4 ^ 0; decide⟩
      rw [List.mem_singleton.mp hx]
      exact e4 _ _ h30
    · rintro i σ' H4 hi ⟨pn, L, y2, y3, y4, y5, rfl, ex, hpn, hsw, hal, hll⟩
      have hL : L.length ≤ 64 := Nat.le_trans hll (Nat.le_trans (Nat.pow_le_pow_right (by decide) (show i ≤ 3 by omega)) (by decide))
      refine q_asgL (el_lst ea_nil (by decide)) fun pl H5 hpl e5 h5 => ?_
      have npn : pn ≠ pl := fun z => by rw [z] at hpn; rw [hpl] at hpn; cases hpn
      have nx : ∀ x ∈ L, x.1 ≠ pl := fun x hx z => by
        have := hsw x hx
        rw [z, hpl] at this
        cases this
      have nHpl : H pl = none := fresh_back ex hpl
      refine q_forLn (xs := sref L) (ev_var rfl) (sq_of (e5 _ _ hpn)) (fun u σ' H' => ∃ (L' : Sets) (y4 y5 : Option V), σ' = [some (.ref l), some (.ref pn), some (.int (1 + (i : Int))), some (.ref pl), y4, y5] ∧ Ex H H' ∧ H' pn = some (.lst (sref L)) ∧ SW H' L ∧ H' pl = some (.lst (sref L')) ∧ SW H' L' ∧ (∀ y ∈ L', y.1 ≠ pl) ∧ L'.map (·.2) = ((allR (wsOf qs) i).take u).flatMap (extR (wsOf qs) i) ∧ L'.length ≤ u * 4) ?_ ?_ ?_ ?_
      · intro H6 e6
        exact ⟨[], _, _, rfl, (ex.trans e5).trans e6, e6 _ _ (e5 _ _ hpn), (hsw.ex e5).ex e6, e6 _ _ h5, fun x hx => absurd hx List.not_mem_nil, fun x hx => absurd hx List.not_mem_nil, rfl, Nat.zero_le _⟩
      · rintro u σ' H' _ ⟨L', y4, y5, rfl, _, h, _⟩
        exact sq_of h
      · rintro u x σ' H6 gx ⟨L', y4, y5, rfl, ex6, hpn6, hsw6, hpl6, hsw6', ny, hal', hlen'⟩
        obtain ⟨x, gL, rfl⟩ := sref_at gx
        have hxm := List.mem_of_getElem? gL
        have hu := (List.getElem?_eq_some_iff.mp gL).1
        have gA : (allR (wsOf qs) i)[u]? = some x.2 := by rw [← hal, List.getElem?_map, gL]; rfl
        have hxl : x.2.length = i := (mem_all.mp (List.mem_of_getElem? gA)).2
        refine s_forR1 (n := (qs.length : Int)) (ea_cons (ev_is (ev_len (ev_var rfl) (ex_l ex6 hl)) (by rw [refs_len])) ea_nil) (by omega) (fun v σ' H' => ∃ (L' : Sets) (y5 : Option V), σ' = [some (.ref l), some (.ref pn), some (.int (1 + (i : Int))), some (.ref pl), some (.ref x.1), y5] ∧ Ex H H' ∧ H' pn = some (.lst (sref L)) ∧ SW H' L ∧ H' pl = some (.lst (sref L')) ∧ SW H' L' ∧ (∀ y ∈ L', y.1 ≠ pl) ∧ L'.map (·.2) = ((allR (wsOf qs) i).take u).flatMap (extR (wsOf qs) i) ++ extTo (wsOf qs) i x.2 v ∧ L'.length ≤ u * 4 + v) ?_ ?_ ?_
        · intro H7 e7
          exact ⟨L', _, rfl, ex6.trans e7, e7 _ _ hpn6, hsw6.ex e7, e7 _ _ hpl6, hsw6'.ex e7, ny, by rw [hal']; exact (List.append_nil _).symm, hlen'⟩
        · rintro v σ' H7 hv ⟨L', y5, rfl, ex7, hpn7, hsw7, hpl7, hsw7', ny, hal', hlen'⟩
          have hv' : v < qs.length := by omega
          obtain ⟨wv, gw⟩ : ∃ wv, qs[v]? = some wv := ⟨_, List.getElem?_eq_getElem hv'⟩
          have ht7 := ht.ex ex7
          have hw := ht7 wv (List.mem_of_getElem? gw)
          have hx7 := hsw7 x hxm
          have hfit : fitI (wsOf qs) i v = (decide (wv.2.1 ≤ 1 + (i : Int)) && decide (1 + (i : Int) ≤ wv.2.2)) := by
            unfold fitI
            rw [win_first gw, win_last gw]
          refine s_when (b := !x.2.contains v && fitI (wsOf qs) i v) (et_and (a := !x.2.contains v) ?_ fun _ => ?_) (fun hb H8 e8 => ?_) (fun hb H8 e8 => ?_)
          · refine et_is (et_test (ev_op (ev_var rfl) (ev_var rfl) (rv_inL (neg := true) (sq_of hx7) rfl flat_ints))) ?_
            show (!inV (.int (v : Int)) ((natI x.2).map V.int)) = _
            rw [inV_int]
            congr 1
            unfold natI
            by_cases z : v ∈ x.2
            · rw [decide_eq_true (List.mem_map.mpr ⟨v, z, rfl⟩)]
              exact (List.contains_iff_mem.mpr z).symm
            · rw [decide_eq_false (fun y => by
                obtain ⟨m, hm, e⟩ := List.mem_map.mp y
                exact z (by rw [show v = m by omega]; exact hm))]
              exact (Bool.eq_false_iff.mpr fun y => z (List.contains_iff_mem.mp y)).symm
          · rw [hfit]
            exact et_chain (ev_w0 (ev_win (ev_var rfl) (ev_var rfl) (ex_l ex7 hl) gw) hw) (ev_var rfl) (ev_w1 (ev_win (ev_var rfl) (ev_var rfl) (ex_l ex7 hl) gw) hw)
          · refine s_appL (xs := sref L') (ys := (natI (x.2 ++ [v])).map V.int) (e8 _ _ hpl7) (ev_var rfl) ?_ (by rw [sref_len]; omega) fun g H9 hg e9 h9 => ?_
            · have : (natI (x.2 ++ [v])).map V.int = (natI x.2).map V.int ++ [V.int (v : Int)] := by
                unfold natI
                rw [List.map_append, List.map_append]
                rfl
              rw [this]
              exact el_catR (ev_var rfl) (e8 _ _ hx7) (el_lst (ea_cons (ev_var rfl) ea_nil) (by show 1 ≤ 100000; decide)) (by rw [List.length_map, natI_len, hxl]; show i + 1 ≤ 100000; omega)
            · have e79 := e8.trans e9
              have hgl : g ≠ pl := fun z => by rw [z, e8 _ _ hpl7] at hg; cases hg
              refine ⟨L' ++ [(g, x.2 ++ [v])], _, rfl, ex_up (ex7.trans e79) nHpl, ?_, ?_, ?_, ?_, ?_, ?_, by rw [List.length_append]; show _ + 1 ≤ _; omega⟩
              · rw [upd_ne npn]
                exact e79 _ _ hpn7
              · intro z hz
                rw [upd_ne (nx z hz)]
                exact e79 _ _ (hsw7 z hz)
              · rw [upd_same]
                unfold sref
                rw [List.map_append]
                rfl
              · intro z hz
                rcases List.mem_append.mp hz with hz | hz
                · rw [upd_ne (ny z hz)]
                  exact e79 _ _ (hsw7' z hz)
                · rw [List.mem_singleton.mp hz]
                  show upd H9 pl _ g = _
                  rw [upd_ne hgl]
                  exact h9
              · intro z hz
                rcases List.mem_append.mp hz with hz | hz
                · exact ny z hz
                · rw [List.mem_singleton.mp hz]
                  exact hgl
              · rw [List.map_append, hal', extTo_yes hb, List.append_assoc]
                rfl
          · exact ⟨L', _, rfl, ex7.trans e8, e8 _ _ hpn7, hsw7.ex e8, e8 _ _ hpl7, hsw7'.ex e8, ny, by rw [hal', extTo_no hb], by omega⟩
        · rintro σ' H7 ⟨L', y5, rfl, ex7, hpn7, hsw7, hpl7, hsw7', ny, hal', hlen'⟩
          rw [Int.toNat_natCast] at hal' hlen'
          refine ⟨L', _, _, rfl, ex7, hpn7, hsw7, hpl7, hsw7', ny, ?_, by omega⟩
          rw [hal', ext_part gA]
          unfold extTo extR
          rw [ws_len]
      · rintro σ' H6 ⟨L', y4, y5, rfl, ex6, hpn6, hsw6, hpl6, hsw6', ny, hal', hlen'⟩
        rw [sref_len] at hal' hlen'
        refine s_asg (ev_var rfl) fun H7 e7 => ?_
        refine ⟨pl, L', _, _, _, _, rfl, ex6.trans e7, e7 _ _ hpl6, hsw6'.ex e7, ?_, ?_⟩
        · rw [hal', ← List.length_map (f := (·.2)) (as := L), hal, List.take_length]
          rfl
        · rw [Nat.pow_succ]
          exact Nat.le_trans hlen' (Nat.mul_le_mul hll (Nat.le_refl _))
    · rintro σ' H4 ⟨pn, L, y2, y3, y4, y5, rfl, ex, hpn, hsw, hal, hll⟩
      rw [show ((qs.length : Int) + 1 - 1).toNat = qs.length by omega] at hal
      refine s_ret (ev_var rfl) fun H5 e5 => ?_
      exact q H5 pn L (ex.trans e5) (e5 _ _ hpn) (hsw.ex e5) (by rw [hal, ws_len])
end

end Su
namespace Su
/-! ### the law -/
theorem q_callQA {sp : Sp} {dvs vs xs : List V} {E : XK} {ta : TA} {σ : L2.St} {H : Hp} {i : Nat} {D : Ends} {tz : TS} (h : EvAL ta σ H vs xs) (k : ∀ l H1, H l = none → Ex H H1 → H1 l = some (.lst xs) → sp (vs ++ [.ref l] ++ dvs) H1 (fun v H2 => tz D (σ.set i (some v)) H2) E) : tSeq (tAsg (tCall sp dvs E ta) (gName i)) tz D σ H :=
  h H (Ex.refl H) _ fun l H1 hl e1 h1 => k l H1 hl e1 h1
theorem el_callL {sp : Sp} {dvs vs xs0 xs : List V} {E : XK} {te : TE} {tr : TA} {σ : L2.St} {H : Hp} (h1 : EvL te σ H xs0) (h2 : EvA tr σ H vs) (hs : ∀ p0 H1, Ex H H1 → H1 p0 = some (.lst xs0) → SpL sp (.ref p0 :: vs ++ dvs) H1 xs) : EvL (tCall sp dvs E (tCons te tr)) σ H xs := fun H0 e0 Q q =>
  h1 H0 e0 _ fun p0 H1 _ e1 hp0 => h2 H1 (e0.trans e1) _ fun H2 e2 => hs p0 H2 ((e0.trans e1).trans e2) (e2 _ _ hp0) H2 (Ex.refl H2) _ (fun p H3 hp e3 h3 => q p H3 (fresh_back (e1.trans e2) hp) ((e1.trans e2).trans e3) h3) E
theorem ev_callLL {sp : Sp} {dvs xs0 xs1 : List V} {E : XK} {te tr : TE} {σ : L2.St} {H : Hp} {z : V} (h1 : EvL te σ H xs0) (h2 : EvL tr σ H xs1) (hs : ∀ p0 p1 H1, Ex H H1 → H1 p0 = some (.lst xs0) → H1 p1 = some (.lst xs1) → SpV sp ([.ref p0, .ref p1] ++ dvs) H1 z) : Ev (tCall sp dvs E (tCons te (tCons tr tNil))) σ H z := fun H0 e0 Q q =>
  h1 H0 e0 _ fun p0 H1 _ e1 hp0 => h2 H1 (e0.trans e1) _ fun p1 H2 _ e2 hp1 => hs p0 p1 H2 ((e0.trans e1).trans e2) (e2 _ _ hp0) hp1 H2 (Ex.refl H2) _ (fun H3 e3 => q H3 ((e1.trans e2).trans e3)) E
section
variable {P : Program} {w : World} {K : PySem.W.Frag} {mg : Str → Option Value} {base : Heap}
theorem rc_isi_tup {H : Hp} {t : Addr} {xs : List V} (h : H t = some (.tup xs)) : RC (rIsi K) [.ref t, .ty "tuple"] H (.bl true) := fun H1 e1 _ q => ⟨.ref t, .ty "tuple", .type "tuple", .type "tuple", true, rfl, .ty "tuple", .base (.tup (e1 _ _ h)), kit_ty (by decide +kernel), q H1 (Ex.refl H1)⟩
theorem spV_number {fT fB l rr : Addr} {qs : List Win} {r : List Nat} {H : Hp} (hl : SqL K H l (refs qs)) (ht : TW H qs) (hn : qs.length ≤ 8) (hr : SqL K H rr ((natI r).map V.int)) (hp : Path (wsOf qs) 0 r) : SpV (spNumber K fT fB) [.ref l, .ref rr] H (.int (numOf (wsOf qs) 0 r)) := fun H1 e Q q E =>
  ⟨l, rr, qs, natI r, rfl, ex_l e hl, ht.ex e, by omega, ex_l e hr, by rw [natI_len, path_full hp, ws_len]; omega, fun h => absurd hn (by omega), fun _ h => absurd h (by rw [path_ord hp]; decide), fun _ r' er _ H' e' => by rw [← natI_inj er]; exact q H' e'⟩
theorem paper_word {H : Hp} {ws : List (Int × Int)} {t p : Addr} (h : PaperAt H ws t p) (hb : Bnd ws) : ∃ xs : List V, 1 ≤ xs.length ∧ H t = some (.tup (.str (if way ws 0 = 0 then "bar" else "order") :: xs)) := by
  rcases h with ⟨row, g, h, _⟩ | ⟨a, b, g, _, h, _⟩
  · refine ⟨[.ref p], by show 1 ≤ 1; decide, ?_⟩
    rw [if_neg (fun z => by rw [(bar_none hb).mpr z] at g; cases g)]
    exact h
  · refine ⟨[.int a, .int b, .ref p], by show 1 ≤ 3; decide, ?_⟩
    rw [if_pos ((bar_none hb).mp g)]
    exact h
def spLaw (K : PySem.W.Frag) (T : List (Addr × Str)) : Sp := fun vs H Q _ => ∃ (a : Addr) (ns : List Int), vs = [.ref a] ∧ SqL K H a (ns.map V.int) ∧ ns.length ≤ 63 ∧ LamX.Tabs T H ∧ ∀ H', Q (.bl true) H'
set_option maxHeartbeats 4000000 in
theorem ok_law {f : Addr} {fd : FuncData} (F : Fun K "law" "law" s_law f fd) (T : Top K mg) (TB1 : LamX.TabB base mg T.c_told_order T.P_told_order) (TB2 : LamX.TabB base mg T.c_fullest_span T.P_fullest_span) : FnOk P w K mg base CX0 7 f fd ["_law_script"] (spLaw K T.tabs) := by
  have nd := sc_law.nd
  have G__law_draws : FnOk P w K mg base CX0 1 T.f__law_draws T.fd__law_draws ["_law_script", "_law_many"] (spDraws K) := ok__law_draws T.F__law_draws T
  have G__law_wide : FnOk P w K mg base CX0 1 T.f__law_wide T.fd__law_wide ["_law_some", "_law_size"] (spWideB K) := ok__law_wide T.F__law_wide T
  have G__law_all : FnOk P w K mg base CX0 1 T.f__law_all T.fd__law_all ["_law_windows"] (spAll K) := ok__law_all T.F__law_all T
  have G__law_whole : FnOk P w K mg base CX0 1 T.f__law_whole T.fd__law_whole ["_law_told"] spWhole := ok__law_whole T.F__law_whole T
  have G__law_same : FnOk P w K mg base CX0 3 T.f__law_same T.fd__law_same ["_law_told", "_law_due"] (spSame K 2) := ok__law_same T 2
  have G_count_orders : FnOk P w K mg base (L2.CX P w) 3 T.f_count_orders T.fd_count_orders ["windows"] (spCount K T.f_TooMany) := okx_count_orders T.F_count_orders T
  have G_order_by_number : FnOk P w K mg base (L2.CX P w) 3 T.f_order_by_number T.fd_order_by_number ["windows", "number"] (spByNum K T.f_TooMany T.f_BadNumber) := okx_order_by_number T.F_order_by_number T
  have G_number_of_order : FnOk P w K mg base (L2.CX P w) 3 T.f_number_of_order T.fd_number_of_order ["windows", "row"] (spNumber K T.f_TooMany T.f_BadNumber) := okx_number_of_order T.F_number_of_order T
  have G_order_or_bar : FnOk P w K mg base CX0 6 T.f_order_or_bar T.fd_order_or_bar ["windows"] (spPaper T.tabs) := ok_order_or_bar T TB1 TB2
  refine F.ok sc_law (fun vs H Q E h => ?_) (fun cdv A outer s H vs Q E hr h => ?_)
  · obtain ⟨a, ns, rfl, _⟩ := h
    rfl
  · obtain ⟨a, ns, rfl, hS, hlen, hT, q⟩ := h
    refine ⟨_, (pss_cons (ps_set (i := 1) nd rfl (.inl rfl) (pe_call G__law_draws (hr.mono (by decide)) (by rfl) T.m__law_draws T.F__law_draws.kp T.b__law_draws .nil pass0 (pa_cons (pv 0) (pa_cons pe_int pa_nil))))
      (pss_cons (ps_set (i := 2) nd rfl (.inl rfl) (pe_op op_mod (pe_ix ix_list (pv 1) pe_int (fun _ _ => rfl)) pe_int))
      (pss_cons (ps_set (i := 3) nd rfl (.inl rfl) (pe_lst pa_nil))
      (pss_cut (ps_if (pt_cmpR op_gt (pv 2) pe_int (nomark _))
        (pss_one (ps_set (i := 3) nd rfl (.inl rfl) (pe_call G__law_wide (hr.mono (by decide)) (by rfl) T.m__law_wide T.F__law_wide.kp T.b__law_wide .nil pass0 (pa_cons (pe_slice sl_list (pv 1) (po_some pe_int) po_none) (pa_cons (pv 2) pa_nil)))))
        pss_nil)
      (pss_cons (ps_set (i := 4) nd rfl (.inl rfl) (pe_call G__law_all (hr.mono (by decide)) (by rfl) T.m__law_all T.F__law_all.kp T.b__law_all .nil pass0 (pa_cons (pv 3) pa_nil)))
      (pss_cons (ps_set (i := 5) nd rfl (.inl rfl) (pe_call G_count_orders (hr.mono (by decide)) (by rfl) T.m_count_orders T.F_count_orders.kp T.b_count_orders .nil passL (pa_cons (pe_callTy call_list_of (by rfl) T.m_list (by decide +kernel) (pa_cons (pv 3) pa_nil)) pa_nil)))
      (pss_cons (ps_if (PW.pt (pw_or (pt_not (pt_val (pe_call G__law_whole (hr.mono (by decide)) (by rfl) T.m__law_whole T.F__law_whole.kp T.b__law_whole .nil pass0 (pa_cons (pv 5) pa_nil)))) (pw_or1 (pt_cmpR op_ne (pv 5) (pe_callB call_len_seq (by rfl) T.m_len PySem.boot_len (pa_cons (pv 4) pa_nil)) (nomark _)))))
        (pss_one (ps_ret pe_bl))
        pss_nil)
      (pss_cons (ps_set (i := 6) nd rfl (.inl rfl) (pe_call G_order_or_bar (hr.mono (by decide)) (by rfl) T.m_order_or_bar T.F_order_or_bar.kp T.b_order_or_bar .nil pass0 (pa_cons (pe_callTy call_list_of (by rfl) T.m_list (by decide +kernel) (pa_cons (pv 3) pa_nil)) pa_nil)))
      (pss_cons (ps_if (PW.pt (pw_or (pt_not (pt_val (pe_callB call_isi (by rfl) T.m_isinstance (by decide +kernel) (pa_cons (pv 6) (pa_cons (pe_bltn (v := .ty "tuple") (by rfl) T.m_tuple (by decide +kernel) rfl) pa_nil))))) (pw_or1 (pt_cmpR op_eq (pe_callB call_len_seq (by rfl) T.m_len PySem.boot_len (pa_cons (pv 6) pa_nil)) pe_int (nomark _)))))
        (pss_one (ps_ret pe_bl))
        pss_nil)
      (pss_cons (ps_set (i := 7) nd rfl (.inl rfl) pe_str)
      (pss_cut (ps_if (pt_cmpR op_eq (pv 5) pe_int (nomark _))
        (pss_one (ps_set (i := 7) nd rfl (.inl rfl) pe_str))
        pss_nil)
      (pss_cons (ps_if (pt_not (pt_val (pe_call G__law_same (hr.mono (by decide)) (by rfl) T.m__law_same T.F__law_same.kp T.b__law_same .nil pass0 (pa_cons (pe_ix ix_tup (pv 6) pe_int (fun _ _ => rfl)) (pa_cons (pv 7) pa_nil)))))
        (pss_one (ps_ret pe_bl))
        pss_nil)
      (pss_cons (ps_for PassesOwn.never rfl (pi_enum (by rfl) T.m_enumerate (pa_cons (pv 4) pa_nil)) (pg_tup rfl (pgs_cons (pg_name (i := 8) nd rfl (.inl rfl)) (pgs_cons (pg_name (i := 9) nd rfl (.inl rfl)) pgs_nil)))
        (pss_cons (ps_if (pt_not (pt_val (pe_call G__law_same (hr.mono (by decide)) (by rfl) T.m__law_same T.F__law_same.kp T.b__law_same .nil pass0 (pa_cons (pe_call G_order_by_number (hr.mono (by decide)) (by rfl) T.m_order_by_number T.F_order_by_number.kp T.b_order_by_number .nil passL (pa_cons (pe_callTy call_list_of (by rfl) T.m_list (by decide +kernel) (pa_cons (pv 3) pa_nil)) (pa_cons (pv 8) pa_nil))) (pa_cons (pv 9) pa_nil)))))
            (pss_one (ps_ret pe_bl))
            pss_nil)
          (pss_one (ps_if (pt_not (pt_val (pe_call G__law_same (hr.mono (by decide)) (by rfl) T.m__law_same T.F__law_same.kp T.b__law_same .nil pass0 (pa_cons (pe_call G_number_of_order (hr.mono (by decide)) (by rfl) T.m_number_of_order T.F_number_of_order.kp T.b_number_of_order .nil passL (pa_cons (pe_callTy call_list_of (by rfl) T.m_list (by decide +kernel) (pa_cons (pv 3) pa_nil)) (pa_cons (pe_callTy call_list_of (by rfl) T.m_list (by decide +kernel) (pa_cons (pv 9) pa_nil)) pa_nil))) (pa_cons (pv 8) pa_nil)))))
            (pss_one (ps_ret pe_bl))
            pss_nil))))
      (pss_one (ps_ret pe_bl))))))))))))))), ?_⟩
    refine q_callN (by walk_at "ea") (spN_draws (m := 12) hS hlen (by decide)) ?_
    rintro _ p H1 ⟨rows, hR, rfl⟩ hp e1 h1
    have hl := hR.1
    have hs := sq_of (K := K) h1
    refine q_asg (by walk_at "ev") fun H2 e2 => ?_
    have hs := ex_l e2 hs
    have a1 := Int.emod_nonneg (rows.getD (Int.toNat 0) 0) (show (5 : Int) ≠ 0 by decide)
    have a2 := Int.emod_lt_of_pos (rows.getD (Int.toNat 0) 0) (show (0 : Int) < 5 by decide)
    generalize rows.getD (Int.toNat 0) 0 % 5 = z at a1 a2 ⊢
    obtain ⟨n, rfl⟩ := Int.eq_ofNat_of_zero_le a1
    refine q_asgL (el_lst ea_nil (by decide)) fun p1 H4 hp1 e4 h4 => ?_
    have hs := ex_l e4 hs
    have hT4 := hT.ext ((e1.trans e2).trans e4)
    clear hT e1 e2 h1 hp
    refine q_cut (M := fun σ' H' => ∃ (qs : List Win) (l : Addr), σ' = [some (.ref a), some (.ref p), some (.int (n : Int)), some (.ref l), none, none, none, none, none, none] ∧ LamX.Tabs T.tabs H' ∧ H' l = some (.lst (refs qs)) ∧ TW H' qs ∧ qs.length = n ∧ Bnd (wsOf qs)) ?_ ?_
    · refine s_when (by walk_at "et") (fun hb H5 e5 => ?_) (fun hb H5 e5 => ?_)
      · have hs := ex_l e5 hs
        have hpos : (0 : Int) < n := of_decide_eq_true hb
        refine (el_sl (by walk_at "ev") (eo_some (by walk_at "ev")) eo_none hs) H5 (Ex.refl H5) _ fun p0 H6 hp0 e6 h6 => ?_
        rw [show (1 : Int) = ((1 : Nat) : Int) from rfl, cut_from, ← List.map_drop] at h6
        have hs := ex_l e6 hs
        refine (show EvA _ _ H6 [.int (n : Int)] from by walk_at "ea") H6 (Ex.refl H6) _ fun H7 e7 => ?_
        refine ⟨p0, rows.drop 1, n, rfl, sq_of (ex_g e7 h6), by rw [List.length_drop]; omega, by omega, by omega, fun qs H8 l hl8 e8 h8 ht8 hW => ?_⟩
        exact ⟨qs, l, rfl, hT4.ext (((e5.trans e6).trans e7).trans e8), h8, ht8, hW.1, bnd_of hW.1 hW.2⟩
      · have hz : ¬ (0 : Int) < n := of_decide_eq_false hb
        exact ⟨[], p1, rfl, hT4.ext e5, e5 _ _ h4, TW.nil, by show 0 = n; omega, fun k hk => absurd hk (by show ¬ k < 0; omega)⟩
    clear hs e4 h4 hp1 hT4
    rintro _ H5 ⟨qs, l, rfl, hT5, hl5, ht5, hqn, hB⟩
    refine q_callQ (by walk_at "ea") fun H6 e6 => ?_
    refine ⟨l, qs, rfl, sq_of (e6 _ _ hl5), ht5.ex e6, by omega, fun H7 pd L e7 h7 hsw hal => ?_⟩
    have e57 := e6.trans e7
    have hl7 := e57 _ _ hl5
    have ht7 := ht5.ex e57
    have hT7 := hT5.ext e57
    have hLl : (L.length : Int) = way (wsOf qs) 0 := by
      rw [← all_len, ← hal, List.length_map]
    refine q_asg (v := .int (way (wsOf qs) 0)) (ev_callL (el_list (by walk_at "ev") (sq_of hl7)) ea_nil fun p0 H8 e8 h8 => spV_count (sq_of h8) (ht7.ex e8) (by omega)) fun H8 e8 => ?_
    have h8 := e8 _ _ h7
    refine q_when (b := false) (et_or (a := false) (b := false) (et_not (a := true) (et_B (ev_call (by walk_at "ea") spV_whole))) fun _ => et_is (et_test (ev_op (ev_var rfl) (ev_is (ev_len (ev_var rfl) (sq_of h8)) (by rw [sref_len, hLl])) (rv_ne rfl))) (by rw [decide_eq_true rfl]; rfl)) (fun h => by cases h) fun _ H9 e9 => ?_
    have e79 := e8.trans e9
    have hl9 := e79 _ _ hl7
    have ht9 := ht7.ex e79
    refine q_callQA (eal_one (el_list (by walk_at "ev") (sq_of hl9))) fun l2 H10 hl2 e10 h210 => ?_
    refine ⟨l2, qs, rfl, h210, ht9.ex e10, by omega, hT7.ext (e79.trans e10), fun H11 t pp hpp e11 T11 hP => ?_⟩
    obtain ⟨xs, hlx, ht'⟩ := paper_word hP hB
    have e710 := e79.trans e10
    have hl11 := exN_l e11 (e710 _ _ hl7)
    have ht11 := (ht7.ex e710).exN e11
    have hd11 := exN_l e11 (e710 _ _ h7)
    have hs11 : SW H11 L := fun x hx => exN_l e11 (e710 _ _ (hsw x hx))
    clear hP
    refine q_when (b := false) (et_or (a := false) (b := false) (et_not (a := true) (et_B (ev_cb (by walk_at "ea") (rc_isi_tup ht')))) fun _ => et_is (et_test (ev_op (ev_cb (by walk_at "ea") (rc_len (.inr (st_of ht')))) ev_c (rv_eq rfl))) (by rw [int_eq]; exact decide_eq_false (by rw [List.length_cons]; omega))) (fun h => by cases h) fun _ H12 e12 => ?_
    refine q_asg ev_c fun H13 e13 => ?_
    have e1113 := e12.trans e13
    refine q_cut (M := fun σ' H' => σ' = [some (.ref a), some (.ref p), some (.int (n : Int)), some (.ref l), some (.ref pd), some (.int (way (wsOf qs) 0)), some (.ref t), some (.str (if way (wsOf qs) 0 = 0 then "bar" else "order")), none, none] ∧ Ex H11 H') ?_ ?_
    · refine s_when (b := decide (way (wsOf qs) 0 = 0)) (et_is (et_test (ev_op (ev_var rfl) ev_c (rv_eq rfl))) int_eq) (fun hb H14 e14 => ?_) (fun hb H14 e14 => ?_)
      · refine s_asg ev_c fun H15 e15 => ?_
        exact ⟨by rw [if_pos (of_decide_eq_true hb)]; rfl, (e1113.trans e14).trans e15⟩
      · exact ⟨by rw [if_neg (of_decide_eq_false hb)]; rfl, e1113.trans e14⟩
    clear e12 e13 e1113
    rintro _ H14 ⟨rfl, e14⟩
    refine q_when (b := false) (et_not (a := true) (et_B (ev_call (ea_cons (ev_op (ev_var rfl) ev_c (rv_ixT (st_of (e14 _ _ ht')) (at_of (show (0 : Int) = ((0 : Nat) : Int) from rfl) rfl))) (ea_cons (ev_var rfl) ea_nil)) (spV_same (n := 2) (d := .str _) (.str _) (.str _) (.str _))))) (fun h => by cases h) fun _ H15 e15 => ?_
    have e1115 := e14.trans e15
    refine s_forE (xs := sref L) (by walk_at "ea") (sq_of (e1115 _ _ hd11)) (fun i σ' H' => ∃ y8 y9 : Option V, σ' = [some (.ref a), some (.ref p), some (.int (n : Int)), some (.ref l), some (.ref pd), some (.int (way (wsOf qs) 0)), some (.ref t), some (.str (if way (wsOf qs) 0 = 0 then "bar" else "order")), y8, y9] ∧ Ex H11 H') ?_ ?_ ?_ ?_
    · intro H16 e16
      exact ⟨_, _, rfl, e1115.trans e16⟩
    · rintro i σ' H' _ ⟨y8, y9, rfl, ex⟩
      exact sq_of (ex _ _ hd11)
    · rintro i x Tt σ' Hc gx ⟨y8, y9, rfl, ex⟩ nT
      obtain ⟨x, gL, rfl⟩ := sref_at gx
      have hxm := List.mem_of_getElem? gL
      refine ⟨_, tg_two (st_of upd_same) tg_name tg_name, ?_⟩
      have ex := ex.trans (Ex.new (o := .tup [.int (i : Nat), .ref x.1]) nT)
      generalize upd Hc Tt (.tup [.int (i : Nat), .ref x.1]) = H16 at ex ⊢
      have gA : (allR (wsOf qs) (wsOf qs).length)[i]? = some x.2 := by rw [← hal, List.getElem?_map, gL]; rfl
      have hnum := all_num gA
      have hpath := path_iff.mp (List.mem_of_getElem? gA)
      have hxl := path_full hpath
      rw [ws_len] at hxl
      have hl16 := ex _ _ hl11
      have ht16 := ht11.ex ex
      have hx16 := ex _ _ (hs11 x hxm)
      have hpl : PlD 2 (intD (natI x.2)) := .list (n := 1) (by rw [List.length_map, natI_len]; omega) fun y hy => by
        obtain ⟨z, _, rfl⟩ := List.mem_map.mp hy
        exact .int z
      refine q_when (b := false) (et_not (a := true) (et_B (ev_callL (xs0 := (natI x.2).map V.int) (el_callL (el_list (by walk_at "ev") (sq_of hl16)) (by walk_at "ea") fun p0 H17 e17 h17 => ?_) (by walk_at "ea") fun p1 H17 e17 h17 => spV_same (n := 2) (d := intD (natI x.2)) hpl (dp_ints (sq_of h17)) (dp_ints (sq_of (e17 _ _ hx16)))))) (fun h => by cases h) fun _ H17 e17 => ?_
      · show SpL _ [.ref p0, .int (i : Int)] _ _
        rw [← hnum]
        exact spL_bynum (sq_of h17) (ht16.ex e17) (by omega) hpath
      · have hl17 := e17 _ _ hl16
        have ht17 := ht16.ex e17
        have hx17 := e17 _ _ hx16
        refine s_when (b := false) (et_not (a := true) (et_B (ev_call (ea_cons (ev_callLL (z := .int (numOf (wsOf qs) 0 x.2)) (el_list (by walk_at "ev") (sq_of hl17)) (el_list (by walk_at "ev") (sq_of hx17)) fun p0 p1 H18 e18 h0 h1 => spV_number (sq_of h0) (ht17.ex e18) (by omega) (sq_of h1) hpath) (ea_cons (ev_var rfl) ea_nil)) ?_))) (fun h => by cases h) fun _ H18 e18 => ?_
        · rw [hnum]
          exact spV_same (n := 2) (d := .int (i : Int)) (.int _) (.int _) (.int _)
        · exact ⟨_, _, rfl, (ex.trans e17).trans e18⟩
    · rintro σ' H16 ⟨y8, y9, rfl, ex⟩
      dsimp only
      exact s_ret ev_c fun H17 e17 => q H17
end

end Su
namespace Su
def top_mk {K : PySem.W.Frag} {h : Heap} {mg : Str → Option Value} (X : K.In h) (G : h.Ns mainGlobals mg)
    {od0 an0 : Option Addr} {sl0 : Array (Option Value)} {oc0 kV0 dc0 pm0 cd0 ct0 : Value} {f0 : Addr}
    (a0 : PySem.W.nsIn K mainGlobals "within" = some (some (.ref f0))) (l0 : K.lookup f0 = some ⟨oc0, od0, .func (PySem.W.fnOf "within" "within" (defArgs s_within) (defBody s_within) (defScope s_within) .none kV0 dc0 pm0 an0 cd0 ct0), sl0⟩) (c0 : PySem.W.codeIn K cd0 "within" = true) (k0 : PySem.W.keepIn K (.ref f0) = true)
    {od1 an1 : Option Addr} {sl1 : Array (Option Value)} {oc1 kV1 dc1 pm1 cd1 ct1 : Value} {f1 : Addr}
    (a1 : PySem.W.nsIn K mainGlobals "order_or_bar" = some (some (.ref f1))) (l1 : K.lookup f1 = some ⟨oc1, od1, .func (PySem.W.fnOf "order_or_bar" "order_or_bar" (defArgs s_order_or_bar) (defBody s_order_or_bar) (defScope s_order_or_bar) .none kV1 dc1 pm1 an1 cd1 ct1), sl1⟩) (c1 : PySem.W.codeIn K cd1 "order_or_bar" = true) (k1 : PySem.W.keepIn K (.ref f1) = true)
    {od2 an2 : Option Addr} {sl2 : Array (Option Value)} {oc2 kV2 dc2 pm2 cd2 ct2 : Value} {f2 : Addr}
    (a2 : PySem.W.nsIn K mainGlobals "told_order" = some (some (.ref f2))) (l2 : K.lookup f2 = some ⟨oc2, od2, .func (PySem.W.fnOf "told_order" "told_order" (defArgs s_told_order) (defBody s_told_order) (defScope s_told_order) .none kV2 dc2 pm2 an2 cd2 ct2), sl2⟩) (c2 : PySem.W.codeIn K cd2 "told_order" = true) (k2 : PySem.W.keepIn K (.ref f2) = true)
    {od3 an3 : Option Addr} {sl3 : Array (Option Value)} {oc3 kV3 dc3 pm3 cd3 ct3 : Value} {f3 : Addr}
    (a3 : PySem.W.nsIn K mainGlobals "fullest_span" = some (some (.ref f3))) (l3 : K.lookup f3 = some ⟨oc3, od3, .func (PySem.W.fnOf "fullest_span" "fullest_span" (defArgs s_fullest_span) (defBody s_fullest_span) (defScope s_fullest_span) .none kV3 dc3 pm3 an3 cd3 ct3), sl3⟩) (c3 : PySem.W.codeIn K cd3 "fullest_span" = true) (k3 : PySem.W.keepIn K (.ref f3) = true)
    {od4 an4 : Option Addr} {sl4 : Array (Option Value)} {oc4 kV4 dc4 pm4 cd4 ct4 : Value} {f4 : Addr}
    (a4 : PySem.W.nsIn K mainGlobals "surplus" = some (some (.ref f4))) (l4 : K.lookup f4 = some ⟨oc4, od4, .func (PySem.W.fnOf "surplus" "surplus" (defArgs s_surplus) (defBody s_surplus) (defScope s_surplus) .none kV4 dc4 pm4 an4 cd4 ct4), sl4⟩) (c4 : PySem.W.codeIn K cd4 "surplus" = true) (k4 : PySem.W.keepIn K (.ref f4) = true)
    {od5 an5 : Option Addr} {sl5 : Array (Option Value)} {oc5 kV5 dc5 pm5 cd5 ct5 : Value} {f5 : Addr}
    (a5 : PySem.W.nsIn K mainGlobals "rounds_between" = some (some (.ref f5))) (l5 : K.lookup f5 = some ⟨oc5, od5, .func (PySem.W.fnOf "rounds_between" "rounds_between" (defArgs s_rounds_between) (defBody s_rounds_between) (defScope s_rounds_between) .none kV5 dc5 pm5 an5 cd5 ct5), sl5⟩) (c5 : PySem.W.codeIn K cd5 "rounds_between" = true) (k5 : PySem.W.keepIn K (.ref f5) = true)
    {od6 an6 : Option Addr} {sl6 : Array (Option Value)} {oc6 kV6 dc6 pm6 cd6 ct6 : Value} {f6 : Addr}
    (a6 : PySem.W.nsIn K mainGlobals "is_order" = some (some (.ref f6))) (l6 : K.lookup f6 = some ⟨oc6, od6, .func (PySem.W.fnOf "is_order" "is_order" (defArgs s_is_order) (defBody s_is_order) (defScope s_is_order) .none kV6 dc6 pm6 an6 cd6 ct6), sl6⟩) (c6 : PySem.W.codeIn K cd6 "is_order" = true) (k6 : PySem.W.keepIn K (.ref f6) = true)
    {od7 an7 : Option Addr} {sl7 : Array (Option Value)} {oc7 kV7 dc7 pm7 cd7 ct7 : Value} {f7 : Addr}
    (a7 : PySem.W.nsIn K mainGlobals "count_orders" = some (some (.ref f7))) (l7 : K.lookup f7 = some ⟨oc7, od7, .func (PySem.W.fnOf "count_orders" "count_orders" (defArgs s_count_orders) (defBody s_count_orders) (defScope s_count_orders) .none kV7 dc7 pm7 an7 cd7 ct7), sl7⟩) (c7 : PySem.W.codeIn K cd7 "count_orders" = true) (k7 : PySem.W.keepIn K (.ref f7) = true)
    {od8 an8 : Option Addr} {sl8 : Array (Option Value)} {oc8 kV8 dc8 pm8 cd8 ct8 : Value} {f8 : Addr}
    (a8 : PySem.W.nsIn K mainGlobals "order_by_number" = some (some (.ref f8))) (l8 : K.lookup f8 = some ⟨oc8, od8, .func (PySem.W.fnOf "order_by_number" "order_by_number" (defArgs s_order_by_number) (defBody s_order_by_number) (defScope s_order_by_number) .none kV8 dc8 pm8 an8 cd8 ct8), sl8⟩) (c8 : PySem.W.codeIn K cd8 "order_by_number" = true) (k8 : PySem.W.keepIn K (.ref f8) = true)
    {od9 an9 : Option Addr} {sl9 : Array (Option Value)} {oc9 kV9 dc9 pm9 cd9 ct9 : Value} {f9 : Addr}
    (a9 : PySem.W.nsIn K mainGlobals "number_of_order" = some (some (.ref f9))) (l9 : K.lookup f9 = some ⟨oc9, od9, .func (PySem.W.fnOf "number_of_order" "number_of_order" (defArgs s_number_of_order) (defBody s_number_of_order) (defScope s_number_of_order) .none kV9 dc9 pm9 an9 cd9 ct9), sl9⟩) (c9 : PySem.W.codeIn K cd9 "number_of_order" = true) (k9 : PySem.W.keepIn K (.ref f9) = true)
    {od10 an10 : Option Addr} {sl10 : Array (Option Value)} {oc10 kV10 dc10 pm10 cd10 ct10 : Value} {f10 : Addr}
    (a10 : PySem.W.nsIn K mainGlobals "refuse_many" = some (some (.ref f10))) (l10 : K.lookup f10 = some ⟨oc10, od10, .func (PySem.W.fnOf "refuse_many" "refuse_many" (defArgs s_refuse_many) (defBody s_refuse_many) (defScope s_refuse_many) .none kV10 dc10 pm10 an10 cd10 ct10), sl10⟩) (c10 : PySem.W.codeIn K cd10 "refuse_many" = true) (k10 : PySem.W.keepIn K (.ref f10) = true)
    {od11 an11 : Option Addr} {sl11 : Array (Option Value)} {oc11 kV11 dc11 pm11 cd11 ct11 : Value} {f11 : Addr}
    (a11 : PySem.W.nsIn K mainGlobals "with_window" = some (some (.ref f11))) (l11 : K.lookup f11 = some ⟨oc11, od11, .func (PySem.W.fnOf "with_window" "with_window" (defArgs s_with_window) (defBody s_with_window) (defScope s_with_window) .none kV11 dc11 pm11 an11 cd11 ct11), sl11⟩) (c11 : PySem.W.codeIn K cd11 "with_window" = true) (k11 : PySem.W.keepIn K (.ref f11) = true)
    {od12 an12 : Option Addr} {sl12 : Array (Option Value)} {oc12 kV12 dc12 pm12 cd12 ct12 : Value} {f12 : Addr}
    (a12 : PySem.W.nsIn K mainGlobals "next_windows" = some (some (.ref f12))) (l12 : K.lookup f12 = some ⟨oc12, od12, .func (PySem.W.fnOf "next_windows" "next_windows" (defArgs s_next_windows) (defBody s_next_windows) (defScope s_next_windows) .none kV12 dc12 pm12 an12 cd12 ct12), sl12⟩) (c12 : PySem.W.codeIn K cd12 "next_windows" = true) (k12 : PySem.W.keepIn K (.ref f12) = true)
    {od13 an13 : Option Addr} {sl13 : Array (Option Value)} {oc13 kV13 dc13 pm13 cd13 ct13 : Value} {f13 : Addr}
    (a13 : PySem.W.nsIn K mainGlobals "ways_on" = some (some (.ref f13))) (l13 : K.lookup f13 = some ⟨oc13, od13, .func (PySem.W.fnOf "ways_on" "ways_on" (defArgs s_ways_on) (defBody s_ways_on) (defScope s_ways_on) .none kV13 dc13 pm13 an13 cd13 ct13), sl13⟩) (c13 : PySem.W.codeIn K cd13 "ways_on" = true) (k13 : PySem.W.keepIn K (.ref f13) = true)
    {od14 an14 : Option Addr} {sl14 : Array (Option Value)} {oc14 kV14 dc14 pm14 cd14 ct14 : Value} {f14 : Addr}
    (a14 : PySem.W.nsIn K mainGlobals "lesser_ways" = some (some (.ref f14))) (l14 : K.lookup f14 = some ⟨oc14, od14, .func (PySem.W.fnOf "lesser_ways" "lesser_ways" (defArgs s_lesser_ways) (defBody s_lesser_ways) (defScope s_lesser_ways) .none kV14 dc14 pm14 an14 cd14 ct14), sl14⟩) (c14 : PySem.W.codeIn K cd14 "lesser_ways" = true) (k14 : PySem.W.keepIn K (.ref f14) = true)
    {od15 an15 : Option Addr} {sl15 : Array (Option Value)} {oc15 kV15 dc15 pm15 cd15 ct15 : Value} {f15 : Addr}
    (a15 : PySem.W.nsIn K mainGlobals "_law_draws" = some (some (.ref f15))) (l15 : K.lookup f15 = some ⟨oc15, od15, .func (PySem.W.fnOf "_law_draws" "_law_draws" (defArgs s__law_draws) (defBody s__law_draws) (defScope s__law_draws) .none kV15 dc15 pm15 an15 cd15 ct15), sl15⟩) (c15 : PySem.W.codeIn K cd15 "_law_draws" = true) (k15 : PySem.W.keepIn K (.ref f15) = true)
    {od16 an16 : Option Addr} {sl16 : Array (Option Value)} {oc16 kV16 dc16 pm16 cd16 ct16 : Value} {f16 : Addr}
    (a16 : PySem.W.nsIn K mainGlobals "_law_same" = some (some (.ref f16))) (l16 : K.lookup f16 = some ⟨oc16, od16, .func (PySem.W.fnOf "_law_same" "_law_same" (defArgs s__law_same) (defBody s__law_same) (defScope s__law_same) .none kV16 dc16 pm16 an16 cd16 ct16), sl16⟩) (c16 : PySem.W.codeIn K cd16 "_law_same" = true) (k16 : PySem.W.keepIn K (.ref f16) = true)
    {od17 an17 : Option Addr} {sl17 : Array (Option Value)} {oc17 kV17 dc17 pm17 cd17 ct17 : Value} {f17 : Addr}
    (a17 : PySem.W.nsIn K mainGlobals "_law_whole" = some (some (.ref f17))) (l17 : K.lookup f17 = some ⟨oc17, od17, .func (PySem.W.fnOf "_law_whole" "_law_whole" (defArgs s__law_whole) (defBody s__law_whole) (defScope s__law_whole) .none kV17 dc17 pm17 an17 cd17 ct17), sl17⟩) (c17 : PySem.W.codeIn K cd17 "_law_whole" = true) (k17 : PySem.W.keepIn K (.ref f17) = true)
    {od18 an18 : Option Addr} {sl18 : Array (Option Value)} {oc18 kV18 dc18 pm18 cd18 ct18 : Value} {f18 : Addr}
    (a18 : PySem.W.nsIn K mainGlobals "_law_wide" = some (some (.ref f18))) (l18 : K.lookup f18 = some ⟨oc18, od18, .func (PySem.W.fnOf "_law_wide" "_law_wide" (defArgs s__law_wide) (defBody s__law_wide) (defScope s__law_wide) .none kV18 dc18 pm18 an18 cd18 ct18), sl18⟩) (c18 : PySem.W.codeIn K cd18 "_law_wide" = true) (k18 : PySem.W.keepIn K (.ref f18) = true)
    {od19 an19 : Option Addr} {sl19 : Array (Option Value)} {oc19 kV19 dc19 pm19 cd19 ct19 : Value} {f19 : Addr}
    (a19 : PySem.W.nsIn K mainGlobals "_law_all" = some (some (.ref f19))) (l19 : K.lookup f19 = some ⟨oc19, od19, .func (PySem.W.fnOf "_law_all" "_law_all" (defArgs s__law_all) (defBody s__law_all) (defScope s__law_all) .none kV19 dc19 pm19 an19 cd19 ct19), sl19⟩) (c19 : PySem.W.codeIn K cd19 "_law_all" = true) (k19 : PySem.W.keepIn K (.ref f19) = true)
    {od20 an20 : Option Addr} {sl20 : Array (Option Value)} {oc20 kV20 dc20 pm20 cd20 ct20 : Value} {f20 : Addr}
    (a20 : PySem.W.nsIn K mainGlobals "law" = some (some (.ref f20))) (l20 : K.lookup f20 = some ⟨oc20, od20, .func (PySem.W.fnOf "law" "law" (defArgs s_law) (defBody s_law) (defScope s_law) .none kV20 dc20 pm20 an20 cd20 ct20), sl20⟩) (c20 : PySem.W.codeIn K cd20 "law" = true) (k20 : PySem.W.keepIn K (.ref f20) = true)
    (z0 : PySem.W.nsIn K mainGlobals "abs" = some none)
    (z1 : PySem.W.nsIn K mainGlobals "all" = some none)
    (z2 : PySem.W.nsIn K mainGlobals "bool" = some none)
    (z3 : PySem.W.nsIn K mainGlobals "enumerate" = some none)
    (z4 : PySem.W.nsIn K mainGlobals "int" = some none)
    (z5 : PySem.W.nsIn K mainGlobals "isinstance" = some none)
    (z6 : PySem.W.nsIn K mainGlobals "len" = some none)
    (z7 : PySem.W.nsIn K mainGlobals "list" = some none)
    (z8 : PySem.W.nsIn K mainGlobals "max" = some none)
    (z9 : PySem.W.nsIn K mainGlobals "min" = some none)
    (z10 : PySem.W.nsIn K mainGlobals "range" = some none)
    (z11 : PySem.W.nsIn K mainGlobals "sorted" = some none)
    (z12 : PySem.W.nsIn K mainGlobals "str" = some none)
    (z13 : PySem.W.nsIn K mainGlobals "sum" = some none)
    (z14 : PySem.W.nsIn K mainGlobals "tuple" = some none)
    (z15 : PySem.W.nsIn K mainGlobals "zip" = some none)
    {tk0 : Tok} (n0 : PySem.W.nsIn K mainGlobals "MOST_WINDOWS" = some (some (.int 8 tk0)))
    (cc0 : cd2 = .ref 67)
    (cc1 : cd3 = .ref 72)
    {fc0 : Addr}
    (x1 : PySem.W.nsIn K mainGlobals "SusuError" = some (some (.ref fc0)))
    {fc2 : Addr}
    (x3 : PySem.W.nsIn K mainGlobals "BadNumber" = some (some (.ref fc2)))
    {fc4 : Addr}
    (x5 : PySem.W.nsIn K mainGlobals "TooMany" = some (some (.ref fc4)))
    (x6 : PySem.W.excIn K fc2 vErr "ValueError.__new__" = true)
    (x7 : PySem.W.keepIn K (.ref fc2) = true)
    (x8_0 : PySem.W.findIn K (.ref fc2) "__getattribute__" = some (some (.builtin "BaseException.__getattribute__")))
    (x8_1 : PySem.W.findIn K (.ref fc2) "__getattr__" = some none)
    (x8_2 : PySem.W.subIn K (.ref fc2) (.type "BaseException") = some true)
    (x8_3 : PySem.W.hasDictIn K fc2 = true)
    (x8_4 : PySem.W.findIn K (.ref fc2) "__class__" = some (some (.builtin "object.__class__")))
    (x8_5 : PySem.W.specialIn K (.builtin "object.__class__") "__get__" = some (some (.builtin "getset_descriptor.__get__")))
    (x8_6 : PySem.W.takesIn K (.builtin "object.__class__") = some true)
    (x8_7 : PySem.W.mroIn K fc2 (.type "object") = some true)
    (x9 : PySem.W.excIn K fc4 vErr "ValueError.__new__" = true)
    (x10 : PySem.W.keepIn K (.ref fc4) = true)
    (x11_0 : PySem.W.findIn K (.ref fc4) "__getattribute__" = some (some (.builtin "BaseException.__getattribute__")))
    (x11_1 : PySem.W.findIn K (.ref fc4) "__getattr__" = some none)
    (x11_2 : PySem.W.subIn K (.ref fc4) (.type "BaseException") = some true)
    (x11_3 : PySem.W.hasDictIn K fc4 = true)
    (x11_4 : PySem.W.findIn K (.ref fc4) "__class__" = some (some (.builtin "object.__class__")))
    (x11_5 : PySem.W.specialIn K (.builtin "object.__class__") "__get__" = some (some (.builtin "getset_descriptor.__get__")))
    (x11_6 : PySem.W.takesIn K (.builtin "object.__class__") = some true)
    (x11_7 : PySem.W.mroIn K fc4 (.type "object") = some true)
    (x12 : PySem.W.subIn K (.ref fc2) (.type "BaseException") = some true)
    (x13 : PySem.W.typeIn K (.ref fc2) = some (.type "type"))
    (x14 : PySem.W.subIn K (.ref fc4) (.type "BaseException") = some true)
    (x15 : PySem.W.typeIn K (.ref fc4) = some (.type "type")) : Top K mg where
      f_within := f0
      fd_within := _
      F_within := fun_mk (st := s_within) l0 c0 k0
      b_within := (fun_mk (st := s_within) l0 c0 k0).binds (ps := ["windows", "a", "b"]) (fun _ _ _ _ _ _ us hl => match us, hl with | [_, _, _], _ => rfl)
      m_within := PySem.W.mg_of X G a0
      f_order_or_bar := f1
      fd_order_or_bar := _
      F_order_or_bar := fun_mk (st := s_order_or_bar) l1 c1 k1
      b_order_or_bar := (fun_mk (st := s_order_or_bar) l1 c1 k1).binds (ps := ["windows"]) (fun _ _ _ _ _ _ us hl => match us, hl with | [_], _ => rfl)
      m_order_or_bar := PySem.W.mg_of X G a1
      f_told_order := f2
      fd_told_order := _
      F_told_order := fun_mk (st := s_told_order) l2 c2 k2
      b_told_order := (fun_mk (st := s_told_order) l2 c2 k2).binds (ps := ["windows"]) (fun _ _ _ _ _ _ us hl => match us, hl with | [_], _ => rfl)
      m_told_order := PySem.W.mg_of X G a2
      f_fullest_span := f3
      fd_fullest_span := _
      F_fullest_span := fun_mk (st := s_fullest_span) l3 c3 k3
      b_fullest_span := (fun_mk (st := s_fullest_span) l3 c3 k3).binds (ps := ["windows"]) (fun _ _ _ _ _ _ us hl => match us, hl with | [_], _ => rfl)
      m_fullest_span := PySem.W.mg_of X G a3
      f_surplus := f4
      fd_surplus := _
      F_surplus := fun_mk (st := s_surplus) l4 c4 k4
      b_surplus := (fun_mk (st := s_surplus) l4 c4 k4).binds (ps := ["windows", "a", "b"]) (fun _ _ _ _ _ _ us hl => match us, hl with | [_, _, _], _ => rfl)
      m_surplus := PySem.W.mg_of X G a4
      f_rounds_between := f5
      fd_rounds_between := _
      F_rounds_between := fun_mk (st := s_rounds_between) l5 c5 k5
      b_rounds_between := (fun_mk (st := s_rounds_between) l5 c5 k5).binds (ps := ["a", "b"]) (fun _ _ _ _ _ _ us hl => match us, hl with | [_, _], _ => rfl)
      m_rounds_between := PySem.W.mg_of X G a5
      f_is_order := f6
      fd_is_order := _
      F_is_order := fun_mk (st := s_is_order) l6 c6 k6
      b_is_order := (fun_mk (st := s_is_order) l6 c6 k6).binds (ps := ["windows", "row"]) (fun _ _ _ _ _ _ us hl => match us, hl with | [_, _], _ => rfl)
      m_is_order := PySem.W.mg_of X G a6
      f_count_orders := f7
      fd_count_orders := _
      F_count_orders := fun_mk (st := s_count_orders) l7 c7 k7
      b_count_orders := (fun_mk (st := s_count_orders) l7 c7 k7).binds (ps := ["windows"]) (fun _ _ _ _ _ _ us hl => match us, hl with | [_], _ => rfl)
      m_count_orders := PySem.W.mg_of X G a7
      f_order_by_number := f8
      fd_order_by_number := _
      F_order_by_number := fun_mk (st := s_order_by_number) l8 c8 k8
      b_order_by_number := (fun_mk (st := s_order_by_number) l8 c8 k8).binds (ps := ["windows", "number"]) (fun _ _ _ _ _ _ us hl => match us, hl with | [_, _], _ => rfl)
      m_order_by_number := PySem.W.mg_of X G a8
      f_number_of_order := f9
      fd_number_of_order := _
      F_number_of_order := fun_mk (st := s_number_of_order) l9 c9 k9
      b_number_of_order := (fun_mk (st := s_number_of_order) l9 c9 k9).binds (ps := ["windows", "row"]) (fun _ _ _ _ _ _ us hl => match us, hl with | [_, _], _ => rfl)
      m_number_of_order := PySem.W.mg_of X G a9
      f_refuse_many := f10
      fd_refuse_many := _
      F_refuse_many := fun_mk (st := s_refuse_many) l10 c10 k10
      b_refuse_many := (fun_mk (st := s_refuse_many) l10 c10 k10).binds (ps := ["windows"]) (fun _ _ _ _ _ _ us hl => match us, hl with | [_], _ => rfl)
      m_refuse_many := PySem.W.mg_of X G a10
      f_with_window := f11
      fd_with_window := _
      F_with_window := fun_mk (st := s_with_window) l11 c11 k11
      b_with_window := (fun_mk (st := s_with_window) l11 c11 k11).binds (ps := ["held", "at"]) (fun _ _ _ _ _ _ us hl => match us, hl with | [_, _], _ => rfl)
      m_with_window := PySem.W.mg_of X G a11
      f_next_windows := f12
      fd_next_windows := _
      F_next_windows := fun_mk (st := s_next_windows) l12 c12 k12
      b_next_windows := (fun_mk (st := s_next_windows) l12 c12 k12).binds (ps := ["windows", "held"]) (fun _ _ _ _ _ _ us hl => match us, hl with | [_, _], _ => rfl)
      m_next_windows := PySem.W.mg_of X G a12
      f_ways_on := f13
      fd_ways_on := _
      F_ways_on := fun_mk (st := s_ways_on) l13 c13 k13
      b_ways_on := (fun_mk (st := s_ways_on) l13 c13 k13).binds (ps := ["windows"]) (fun _ _ _ _ _ _ us hl => match us, hl with | [_], _ => rfl)
      m_ways_on := PySem.W.mg_of X G a13
      f_lesser_ways := f14
      fd_lesser_ways := _
      F_lesser_ways := fun_mk (st := s_lesser_ways) l14 c14 k14
      b_lesser_ways := (fun_mk (st := s_lesser_ways) l14 c14 k14).binds (ps := ["windows", "ways", "held", "at"]) (fun _ _ _ _ _ _ us hl => match us, hl with | [_, _, _, _], _ => rfl)
      m_lesser_ways := PySem.W.mg_of X G a14
      f__law_draws := f15
      fd__law_draws := _
      F__law_draws := fun_mk (st := s__law_draws) l15 c15 k15
      b__law_draws := (fun_mk (st := s__law_draws) l15 c15 k15).binds (ps := ["_law_script", "_law_many"]) (fun _ _ _ _ _ _ us hl => match us, hl with | [_, _], _ => rfl)
      m__law_draws := PySem.W.mg_of X G a15
      f__law_same := f16
      fd__law_same := _
      F__law_same := fun_mk (st := s__law_same) l16 c16 k16
      b__law_same := (fun_mk (st := s__law_same) l16 c16 k16).binds (ps := ["_law_told", "_law_due"]) (fun _ _ _ _ _ _ us hl => match us, hl with | [_, _], _ => rfl)
      m__law_same := PySem.W.mg_of X G a16
      f__law_whole := f17
      fd__law_whole := _
      F__law_whole := fun_mk (st := s__law_whole) l17 c17 k17
      b__law_whole := (fun_mk (st := s__law_whole) l17 c17 k17).binds (ps := ["_law_told"]) (fun _ _ _ _ _ _ us hl => match us, hl with | [_], _ => rfl)
      m__law_whole := PySem.W.mg_of X G a17
      f__law_wide := f18
      fd__law_wide := _
      F__law_wide := fun_mk (st := s__law_wide) l18 c18 k18
      b__law_wide := (fun_mk (st := s__law_wide) l18 c18 k18).binds (ps := ["_law_some", "_law_size"]) (fun _ _ _ _ _ _ us hl => match us, hl with | [_, _], _ => rfl)
      m__law_wide := PySem.W.mg_of X G a18
      f__law_all := f19
      fd__law_all := _
      F__law_all := fun_mk (st := s__law_all) l19 c19 k19
      b__law_all := (fun_mk (st := s__law_all) l19 c19 k19).binds (ps := ["_law_windows"]) (fun _ _ _ _ _ _ us hl => match us, hl with | [_], _ => rfl)
      m__law_all := PySem.W.mg_of X G a19
      f_law := f20
      fd_law := _
      F_law := fun_mk (st := s_law) l20 c20 k20
      b_law := (fun_mk (st := s_law) l20 c20 k20).binds (ps := ["_law_script"]) (fun _ _ _ _ _ _ us hl => match us, hl with | [_], _ => rfl)
      m_law := PySem.W.mg_of X G a20
      m_abs := PySem.W.mg_none_of X G z0
      m_all := PySem.W.mg_none_of X G z1
      m_bool := PySem.W.mg_none_of X G z2
      m_enumerate := PySem.W.mg_none_of X G z3
      m_int := PySem.W.mg_none_of X G z4
      m_isinstance := PySem.W.mg_none_of X G z5
      m_len := PySem.W.mg_none_of X G z6
      m_list := PySem.W.mg_none_of X G z7
      m_max := PySem.W.mg_none_of X G z8
      m_min := PySem.W.mg_none_of X G z9
      m_range := PySem.W.mg_none_of X G z10
      m_sorted := PySem.W.mg_none_of X G z11
      m_str := PySem.W.mg_none_of X G z12
      m_sum := PySem.W.mg_none_of X G z13
      m_tuple := PySem.W.mg_none_of X G z14
      m_zip := PySem.W.mg_none_of X G z15
      t_MOST_WINDOWS := tk0
      m_MOST_WINDOWS := PySem.W.mg_of X G n0
      c_told_order := 67
      P_told_order := 65
      C_told_order := func_mk (st := s_told_order) l2 c2 cc0
      c_fullest_span := 72
      P_fullest_span := 70
      C_fullest_span := func_mk (st := s_fullest_span) l3 c3 cc1
      ne_told_order_fullest_span := by show ((65 : Nat)) ≠ 70; decide
      f_SusuError := fc0
      m_SusuError := PySem.W.mg_of X G x1
      f_BadNumber := fc2
      m_BadNumber := PySem.W.mg_of X G x3
      f_TooMany := fc4
      m_TooMany := PySem.W.mg_of X G x5
      x_BadNumber := x6
      kp_BadNumber := x7
      e_BadNumber := ⟨x8_0, x8_1, x8_2, x8_3, x8_4, x8_5, x8_6, x8_7⟩
      x_TooMany := x9
      kp_TooMany := x10
      e_TooMany := ⟨x11_0, x11_1, x11_2, x11_3, x11_4, x11_5, x11_6, x11_7⟩
      sb_BadNumber := x12
      ty_BadNumber := x13
      sb_TooMany := x14
      ty_TooMany := x15
set_option maxHeartbeats 4000000 in
theorem all_mk {l : PySem.W.OpenLaw} {w : World} {K : PySem.W.Frag} {h : Heap} {mg : Str → Option Value} {fa : Addr} (X : K.In h) (G : h.Ns mainGlobals mg) (hfa : mg "law" = some (.ref fa))
    (hT : ∀ p ∈ ([(67, 65), (72, 70)] : List (Addr × Addr)), h.get? p.2 = some { cls := .none, data := .fields #[] }) (nT : ∀ p ∈ ([(67, 65), (72, 70)] : List (Addr × Addr)), K.lookup p.2 = none) (hC : ∀ p ∈ ([(67, 65), (72, 70)] : List (Addr × Addr)), PySem.W.CodeHd h p.1 p.2)
    {od0 an0 : Option Addr} {sl0 : Array (Option Value)} {oc0 kV0 dc0 pm0 cd0 ct0 : Value} {f0 : Addr}
    (a0 : PySem.W.nsIn K mainGlobals "within" = some (some (.ref f0))) (l0 : K.lookup f0 = some ⟨oc0, od0, .func (PySem.W.fnOf "within" "within" (defArgs s_within) (defBody s_within) (defScope s_within) .none kV0 dc0 pm0 an0 cd0 ct0), sl0⟩) (c0 : PySem.W.codeIn K cd0 "within" = true) (k0 : PySem.W.keepIn K (.ref f0) = true)
    {od1 an1 : Option Addr} {sl1 : Array (Option Value)} {oc1 kV1 dc1 pm1 cd1 ct1 : Value} {f1 : Addr}
    (a1 : PySem.W.nsIn K mainGlobals "order_or_bar" = some (some (.ref f1))) (l1 : K.lookup f1 = some ⟨oc1, od1, .func (PySem.W.fnOf "order_or_bar" "order_or_bar" (defArgs s_order_or_bar) (defBody s_order_or_bar) (defScope s_order_or_bar) .none kV1 dc1 pm1 an1 cd1 ct1), sl1⟩) (c1 : PySem.W.codeIn K cd1 "order_or_bar" = true) (k1 : PySem.W.keepIn K (.ref f1) = true)
    {od2 an2 : Option Addr} {sl2 : Array (Option Value)} {oc2 kV2 dc2 pm2 cd2 ct2 : Value} {f2 : Addr}
    (a2 : PySem.W.nsIn K mainGlobals "told_order" = some (some (.ref f2))) (l2 : K.lookup f2 = some ⟨oc2, od2, .func (PySem.W.fnOf "told_order" "told_order" (defArgs s_told_order) (defBody s_told_order) (defScope s_told_order) .none kV2 dc2 pm2 an2 cd2 ct2), sl2⟩) (c2 : PySem.W.codeIn K cd2 "told_order" = true) (k2 : PySem.W.keepIn K (.ref f2) = true)
    {od3 an3 : Option Addr} {sl3 : Array (Option Value)} {oc3 kV3 dc3 pm3 cd3 ct3 : Value} {f3 : Addr}
    (a3 : PySem.W.nsIn K mainGlobals "fullest_span" = some (some (.ref f3))) (l3 : K.lookup f3 = some ⟨oc3, od3, .func (PySem.W.fnOf "fullest_span" "fullest_span" (defArgs s_fullest_span) (defBody s_fullest_span) (defScope s_fullest_span) .none kV3 dc3 pm3 an3 cd3 ct3), sl3⟩) (c3 : PySem.W.codeIn K cd3 "fullest_span" = true) (k3 : PySem.W.keepIn K (.ref f3) = true)
    {od4 an4 : Option Addr} {sl4 : Array (Option Value)} {oc4 kV4 dc4 pm4 cd4 ct4 : Value} {f4 : Addr}
    (a4 : PySem.W.nsIn K mainGlobals "surplus" = some (some (.ref f4))) (l4 : K.lookup f4 = some ⟨oc4, od4, .func (PySem.W.fnOf "surplus" "surplus" (defArgs s_surplus) (defBody s_surplus) (defScope s_surplus) .none kV4 dc4 pm4 an4 cd4 ct4), sl4⟩) (c4 : PySem.W.codeIn K cd4 "surplus" = true) (k4 : PySem.W.keepIn K (.ref f4) = true)
    {od5 an5 : Option Addr} {sl5 : Array (Option Value)} {oc5 kV5 dc5 pm5 cd5 ct5 : Value} {f5 : Addr}
    (a5 : PySem.W.nsIn K mainGlobals "rounds_between" = some (some (.ref f5))) (l5 : K.lookup f5 = some ⟨oc5, od5, .func (PySem.W.fnOf "rounds_between" "rounds_between" (defArgs s_rounds_between) (defBody s_rounds_between) (defScope s_rounds_between) .none kV5 dc5 pm5 an5 cd5 ct5), sl5⟩) (c5 : PySem.W.codeIn K cd5 "rounds_between" = true) (k5 : PySem.W.keepIn K (.ref f5) = true)
    {od6 an6 : Option Addr} {sl6 : Array (Option Value)} {oc6 kV6 dc6 pm6 cd6 ct6 : Value} {f6 : Addr}
    (a6 : PySem.W.nsIn K mainGlobals "is_order" = some (some (.ref f6))) (l6 : K.lookup f6 = some ⟨oc6, od6, .func (PySem.W.fnOf "is_order" "is_order" (defArgs s_is_order) (defBody s_is_order) (defScope s_is_order) .none kV6 dc6 pm6 an6 cd6 ct6), sl6⟩) (c6 : PySem.W.codeIn K cd6 "is_order" = true) (k6 : PySem.W.keepIn K (.ref f6) = true)
    {od7 an7 : Option Addr} {sl7 : Array (Option Value)} {oc7 kV7 dc7 pm7 cd7 ct7 : Value} {f7 : Addr}
    (a7 : PySem.W.nsIn K mainGlobals "count_orders" = some (some (.ref f7))) (l7 : K.lookup f7 = some ⟨oc7, od7, .func (PySem.W.fnOf "count_orders" "count_orders" (defArgs s_count_orders) (defBody s_count_orders) (defScope s_count_orders) .none kV7 dc7 pm7 an7 cd7 ct7), sl7⟩) (c7 : PySem.W.codeIn K cd7 "count_orders" = true) (k7 : PySem.W.keepIn K (.ref f7) = true)
    {od8 an8 : Option Addr} {sl8 : Array (Option Value)} {oc8 kV8 dc8 pm8 cd8 ct8 : Value} {f8 : Addr}
    (a8 : PySem.W.nsIn K mainGlobals "order_by_number" = some (some (.ref f8))) (l8 : K.lookup f8 = some ⟨oc8, od8, .func (PySem.W.fnOf "order_by_number" "order_by_number" (defArgs s_order_by_number) (defBody s_order_by_number) (defScope s_order_by_number) .none kV8 dc8 pm8 an8 cd8 ct8), sl8⟩) (c8 : PySem.W.codeIn K cd8 "order_by_number" = true) (k8 : PySem.W.keepIn K (.ref f8) = true)
    {od9 an9 : Option Addr} {sl9 : Array (Option Value)} {oc9 kV9 dc9 pm9 cd9 ct9 : Value} {f9 : Addr}
    (a9 : PySem.W.nsIn K mainGlobals "number_of_order" = some (some (.ref f9))) (l9 : K.lookup f9 = some ⟨oc9, od9, .func (PySem.W.fnOf "number_of_order" "number_of_order" (defArgs s_number_of_order) (defBody s_number_of_order) (defScope s_number_of_order) .none kV9 dc9 pm9 an9 cd9 ct9), sl9⟩) (c9 : PySem.W.codeIn K cd9 "number_of_order" = true) (k9 : PySem.W.keepIn K (.ref f9) = true)
    {od10 an10 : Option Addr} {sl10 : Array (Option Value)} {oc10 kV10 dc10 pm10 cd10 ct10 : Value} {f10 : Addr}
    (a10 : PySem.W.nsIn K mainGlobals "refuse_many" = some (some (.ref f10))) (l10 : K.lookup f10 = some ⟨oc10, od10, .func (PySem.W.fnOf "refuse_many" "refuse_many" (defArgs s_refuse_many) (defBody s_refuse_many) (defScope s_refuse_many) .none kV10 dc10 pm10 an10 cd10 ct10), sl10⟩) (c10 : PySem.W.codeIn K cd10 "refuse_many" = true) (k10 : PySem.W.keepIn K (.ref f10) = true)
    {od11 an11 : Option Addr} {sl11 : Array (Option Value)} {oc11 kV11 dc11 pm11 cd11 ct11 : Value} {f11 : Addr}
    (a11 : PySem.W.nsIn K mainGlobals "with_window" = some (some (.ref f11))) (l11 : K.lookup f11 = some ⟨oc11, od11, .func (PySem.W.fnOf "with_window" "with_window" (defArgs s_with_window) (defBody s_with_window) (defScope s_with_window) .none kV11 dc11 pm11 an11 cd11 ct11), sl11⟩) (c11 : PySem.W.codeIn K cd11 "with_window" = true) (k11 : PySem.W.keepIn K (.ref f11) = true)
    {od12 an12 : Option Addr} {sl12 : Array (Option Value)} {oc12 kV12 dc12 pm12 cd12 ct12 : Value} {f12 : Addr}
    (a12 : PySem.W.nsIn K mainGlobals "next_windows" = some (some (.ref f12))) (l12 : K.lookup f12 = some ⟨oc12, od12, .func (PySem.W.fnOf "next_windows" "next_windows" (defArgs s_next_windows) (defBody s_next_windows) (defScope s_next_windows) .none kV12 dc12 pm12 an12 cd12 ct12), sl12⟩) (c12 : PySem.W.codeIn K cd12 "next_windows" = true) (k12 : PySem.W.keepIn K (.ref f12) = true)
    {od13 an13 : Option Addr} {sl13 : Array (Option Value)} {oc13 kV13 dc13 pm13 cd13 ct13 : Value} {f13 : Addr}
    (a13 : PySem.W.nsIn K mainGlobals "ways_on" = some (some (.ref f13))) (l13 : K.lookup f13 = some ⟨oc13, od13, .func (PySem.W.fnOf "ways_on" "ways_on" (defArgs s_ways_on) (defBody s_ways_on) (defScope s_ways_on) .none kV13 dc13 pm13 an13 cd13 ct13), sl13⟩) (c13 : PySem.W.codeIn K cd13 "ways_on" = true) (k13 : PySem.W.keepIn K (.ref f13) = true)
    {od14 an14 : Option Addr} {sl14 : Array (Option Value)} {oc14 kV14 dc14 pm14 cd14 ct14 : Value} {f14 : Addr}
    (a14 : PySem.W.nsIn K mainGlobals "lesser_ways" = some (some (.ref f14))) (l14 : K.lookup f14 = some ⟨oc14, od14, .func (PySem.W.fnOf "lesser_ways" "lesser_ways" (defArgs s_lesser_ways) (defBody s_lesser_ways) (defScope s_lesser_ways) .none kV14 dc14 pm14 an14 cd14 ct14), sl14⟩) (c14 : PySem.W.codeIn K cd14 "lesser_ways" = true) (k14 : PySem.W.keepIn K (.ref f14) = true)
    {od15 an15 : Option Addr} {sl15 : Array (Option Value)} {oc15 kV15 dc15 pm15 cd15 ct15 : Value} {f15 : Addr}
    (a15 : PySem.W.nsIn K mainGlobals "_law_draws" = some (some (.ref f15))) (l15 : K.lookup f15 = some ⟨oc15, od15, .func (PySem.W.fnOf "_law_draws" "_law_draws" (defArgs s__law_draws) (defBody s__law_draws) (defScope s__law_draws) .none kV15 dc15 pm15 an15 cd15 ct15), sl15⟩) (c15 : PySem.W.codeIn K cd15 "_law_draws" = true) (k15 : PySem.W.keepIn K (.ref f15) = true)
    {od16 an16 : Option Addr} {sl16 : Array (Option Value)} {oc16 kV16 dc16 pm16 cd16 ct16 : Value} {f16 : Addr}
    (a16 : PySem.W.nsIn K mainGlobals "_law_same" = some (some (.ref f16))) (l16 : K.lookup f16 = some ⟨oc16, od16, .func (PySem.W.fnOf "_law_same" "_law_same" (defArgs s__law_same) (defBody s__law_same) (defScope s__law_same) .none kV16 dc16 pm16 an16 cd16 ct16), sl16⟩) (c16 : PySem.W.codeIn K cd16 "_law_same" = true) (k16 : PySem.W.keepIn K (.ref f16) = true)
    {od17 an17 : Option Addr} {sl17 : Array (Option Value)} {oc17 kV17 dc17 pm17 cd17 ct17 : Value} {f17 : Addr}
    (a17 : PySem.W.nsIn K mainGlobals "_law_whole" = some (some (.ref f17))) (l17 : K.lookup f17 = some ⟨oc17, od17, .func (PySem.W.fnOf "_law_whole" "_law_whole" (defArgs s__law_whole) (defBody s__law_whole) (defScope s__law_whole) .none kV17 dc17 pm17 an17 cd17 ct17), sl17⟩) (c17 : PySem.W.codeIn K cd17 "_law_whole" = true) (k17 : PySem.W.keepIn K (.ref f17) = true)
    {od18 an18 : Option Addr} {sl18 : Array (Option Value)} {oc18 kV18 dc18 pm18 cd18 ct18 : Value} {f18 : Addr}
    (a18 : PySem.W.nsIn K mainGlobals "_law_wide" = some (some (.ref f18))) (l18 : K.lookup f18 = some ⟨oc18, od18, .func (PySem.W.fnOf "_law_wide" "_law_wide" (defArgs s__law_wide) (defBody s__law_wide) (defScope s__law_wide) .none kV18 dc18 pm18 an18 cd18 ct18), sl18⟩) (c18 : PySem.W.codeIn K cd18 "_law_wide" = true) (k18 : PySem.W.keepIn K (.ref f18) = true)
    {od19 an19 : Option Addr} {sl19 : Array (Option Value)} {oc19 kV19 dc19 pm19 cd19 ct19 : Value} {f19 : Addr}
    (a19 : PySem.W.nsIn K mainGlobals "_law_all" = some (some (.ref f19))) (l19 : K.lookup f19 = some ⟨oc19, od19, .func (PySem.W.fnOf "_law_all" "_law_all" (defArgs s__law_all) (defBody s__law_all) (defScope s__law_all) .none kV19 dc19 pm19 an19 cd19 ct19), sl19⟩) (c19 : PySem.W.codeIn K cd19 "_law_all" = true) (k19 : PySem.W.keepIn K (.ref f19) = true)
    {od20 an20 : Option Addr} {sl20 : Array (Option Value)} {oc20 kV20 dc20 pm20 cd20 ct20 : Value} {f20 : Addr}
    (a20 : PySem.W.nsIn K mainGlobals "law" = some (some (.ref f20))) (l20 : K.lookup f20 = some ⟨oc20, od20, .func (PySem.W.fnOf "law" "law" (defArgs s_law) (defBody s_law) (defScope s_law) .none kV20 dc20 pm20 an20 cd20 ct20), sl20⟩) (c20 : PySem.W.codeIn K cd20 "law" = true) (k20 : PySem.W.keepIn K (.ref f20) = true)
    (z0 : PySem.W.nsIn K mainGlobals "abs" = some none)
    (z1 : PySem.W.nsIn K mainGlobals "all" = some none)
    (z2 : PySem.W.nsIn K mainGlobals "bool" = some none)
    (z3 : PySem.W.nsIn K mainGlobals "enumerate" = some none)
    (z4 : PySem.W.nsIn K mainGlobals "int" = some none)
    (z5 : PySem.W.nsIn K mainGlobals "isinstance" = some none)
    (z6 : PySem.W.nsIn K mainGlobals "len" = some none)
    (z7 : PySem.W.nsIn K mainGlobals "list" = some none)
    (z8 : PySem.W.nsIn K mainGlobals "max" = some none)
    (z9 : PySem.W.nsIn K mainGlobals "min" = some none)
    (z10 : PySem.W.nsIn K mainGlobals "range" = some none)
    (z11 : PySem.W.nsIn K mainGlobals "sorted" = some none)
    (z12 : PySem.W.nsIn K mainGlobals "str" = some none)
    (z13 : PySem.W.nsIn K mainGlobals "sum" = some none)
    (z14 : PySem.W.nsIn K mainGlobals "tuple" = some none)
    (z15 : PySem.W.nsIn K mainGlobals "zip" = some none)
    {tk0 : Tok} (n0 : PySem.W.nsIn K mainGlobals "MOST_WINDOWS" = some (some (.int 8 tk0)))
    (cc0 : cd2 = .ref 67)
    (cc1 : cd3 = .ref 72)
    {fc0 : Addr}
    (x1 : PySem.W.nsIn K mainGlobals "SusuError" = some (some (.ref fc0)))
    {fc2 : Addr}
    (x3 : PySem.W.nsIn K mainGlobals "BadNumber" = some (some (.ref fc2)))
    {fc4 : Addr}
    (x5 : PySem.W.nsIn K mainGlobals "TooMany" = some (some (.ref fc4)))
    (x6 : PySem.W.excIn K fc2 vErr "ValueError.__new__" = true)
    (x7 : PySem.W.keepIn K (.ref fc2) = true)
    (x8_0 : PySem.W.findIn K (.ref fc2) "__getattribute__" = some (some (.builtin "BaseException.__getattribute__")))
    (x8_1 : PySem.W.findIn K (.ref fc2) "__getattr__" = some none)
    (x8_2 : PySem.W.subIn K (.ref fc2) (.type "BaseException") = some true)
    (x8_3 : PySem.W.hasDictIn K fc2 = true)
    (x8_4 : PySem.W.findIn K (.ref fc2) "__class__" = some (some (.builtin "object.__class__")))
    (x8_5 : PySem.W.specialIn K (.builtin "object.__class__") "__get__" = some (some (.builtin "getset_descriptor.__get__")))
    (x8_6 : PySem.W.takesIn K (.builtin "object.__class__") = some true)
    (x8_7 : PySem.W.mroIn K fc2 (.type "object") = some true)
    (x9 : PySem.W.excIn K fc4 vErr "ValueError.__new__" = true)
    (x10 : PySem.W.keepIn K (.ref fc4) = true)
    (x11_0 : PySem.W.findIn K (.ref fc4) "__getattribute__" = some (some (.builtin "BaseException.__getattribute__")))
    (x11_1 : PySem.W.findIn K (.ref fc4) "__getattr__" = some none)
    (x11_2 : PySem.W.subIn K (.ref fc4) (.type "BaseException") = some true)
    (x11_3 : PySem.W.hasDictIn K fc4 = true)
    (x11_4 : PySem.W.findIn K (.ref fc4) "__class__" = some (some (.builtin "object.__class__")))
    (x11_5 : PySem.W.specialIn K (.builtin "object.__class__") "__get__" = some (some (.builtin "getset_descriptor.__get__")))
    (x11_6 : PySem.W.takesIn K (.builtin "object.__class__") = some true)
    (x11_7 : PySem.W.mroIn K fc4 (.type "object") = some true)
    (x12 : PySem.W.subIn K (.ref fc2) (.type "BaseException") = some true)
    (x13 : PySem.W.typeIn K (.ref fc2) = some (.type "type"))
    (x14 : PySem.W.subIn K (.ref fc4) (.type "BaseException") = some true)
    (x15 : PySem.W.typeIn K (.ref fc4) = some (.type "type")) :
    LamX.LawAtS l w K CX0 7 63 "_law_script" mg fa h := by
  have e := hfa.symm.trans (PySem.W.mg_of X G a20)
  cases e
  exact ⟨PySem.W.fnOf "law" "law" (defArgs s_law) (defBody s_law) (defScope s_law) .none kV20 dc20 pm20 an20 cd20 ct20, ([(67, 65), (72, 70)] : List (Addr × Addr)), spLaw K (top_mk X G a0 l0 c0 k0 a1 l1 c1 k1 a2 l2 c2 k2 a3 l3 c3 k3 a4 l4 c4 k4 a5 l5 c5 k5 a6 l6 c6 k6 a7 l7 c7 k7 a8 l8 c8 k8 a9 l9 c9 k9 a10 l10 c10 k10 a11 l11 c11 k11 a12 l12 c12 k12 a13 l13 c13 k13 a14 l14 c14 k14 a15 l15 c15 k15 a16 l16 c16 k16 a17 l17 c17 k17 a18 l18 c18 k18 a19 l19 c19 k19 a20 l20 c20 k20 z0 z1 z2 z3 z4 z5 z6 z7 z8 z9 z10 z11 z12 z13 z14 z15 n0 cc0 cc1 x1 x3 x5 x6 x7 x8_0 x8_1 x8_2 x8_3 x8_4 x8_5 x8_6 x8_7 x9 x10 x11_0 x11_1 x11_2 x11_3 x11_4 x11_5 x11_6 x11_7 x12 x13 x14 x15).tabs, hT, nT, hC, fun s v => .of_eq rfl,
    fun H a ns hl _ hH hS => ⟨a, ns, rfl, hS, hl, (List.forall_mem_cons.mpr ⟨LamX.TabS.nil (hH (67, 65) List.mem_cons_self), (List.forall_mem_cons.mpr ⟨LamX.TabS.nil (hH (72, 70) (List.mem_cons_of_mem _ List.mem_cons_self)), (fun _ h => nomatch h)⟩)⟩), fun _ => rfl⟩,
    fun base _ _ hB => ok_law (fun_mk (st := s_law) l20 c20 k20) (top_mk X G a0 l0 c0 k0 a1 l1 c1 k1 a2 l2 c2 k2 a3 l3 c3 k3 a4 l4 c4 k4 a5 l5 c5 k5 a6 l6 c6 k6 a7 l7 c7 k7 a8 l8 c8 k8 a9 l9 c9 k9 a10 l10 c10 k10 a11 l11 c11 k11 a12 l12 c12 k12 a13 l13 c13 k13 a14 l14 c14 k14 a15 l15 c15 k15 a16 l16 c16 k16 a17 l17 c17 k17 a18 l18 c18 k18 a19 l19 c19 k19 a20 l20 c20 k20 z0 z1 z2 z3 z4 z5 z6 z7 z8 z9 z10 z11 z12 z13 z14 z15 n0 cc0 cc1 x1 x3 x5 x6 x7 x8_0 x8_1 x8_2 x8_3 x8_4 x8_5 x8_6 x8_7 x9 x10 x11_0 x11_1 x11_2 x11_3 x11_4 x11_5 x11_6 x11_7 x12 x13 x14 x15) (hB (67, 65) List.mem_cons_self) (hB (72, 70) (List.mem_cons_of_mem _ List.mem_cons_self))⟩
end Su
open PySem PySem.W PyProof.Rows
set_option maxHeartbeats 0 in
theorem PySem.Challenge.cw_susu_k13_whole_all_orders_holds : PySem.Challenge.rw_susu_k13_whole_all_orders.Holds := by
  w_on; o_law; k_head; (case hw => w_witness2)
  k_fill
  refine LamX.walk_ofTs (l := PySem.Challenge.rw_susu_k13_whole_all_orders) (n := 63) (k := 7) (x := "_law_script") (CX := fun _ => L2.CX0) rfl (by decide) rfl ⟨rfl, by decide, by decide⟩ (fun w h Y => PySem.W.km_in_of Y) ?F (fun _ _ _ _ _ h => h)
  case F =>
    intro w mg fa h Y KX G hmg
    have hT8 := PySem.W.km_tabs_of Y
    refine' Su.all_mk KX G hmg (List.forall_mem_cons.mpr ⟨hT8 65 (by simp), (List.forall_mem_cons.mpr ⟨hT8 70 (by simp), (fun _ h => nomatch h)⟩)⟩) (List.forall_mem_cons.mpr ⟨(show _ = none from by kernel_rfl), (List.forall_mem_cons.mpr ⟨(show _ = none from by kernel_rfl), (fun _ h => nomatch h)⟩)⟩) (List.forall_mem_cons.mpr ⟨PySem.W.codeHd_of_K KX (by kernel_rfl), (List.forall_mem_cons.mpr ⟨PySem.W.codeHd_of_K KX (by kernel_rfl), (fun _ h => nomatch h)⟩)⟩) ?a0 ?l0 ?c0 ?k0 ?a1 ?l1 ?c1 ?k1 ?a2 ?l2 ?c2 ?k2 ?a3 ?l3 ?c3 ?k3 ?a4 ?l4 ?c4 ?k4 ?a5 ?l5 ?c5 ?k5 ?a6 ?l6 ?c6 ?k6 ?a7 ?l7 ?c7 ?k7 ?a8 ?l8 ?c8 ?k8 ?a9 ?l9 ?c9 ?k9 ?a10 ?l10 ?c10 ?k10 ?a11 ?l11 ?c11 ?k11 ?a12 ?l12 ?c12 ?k12 ?a13 ?l13 ?c13 ?k13 ?a14 ?l14 ?c14 ?k14 ?a15 ?l15 ?c15 ?k15 ?a16 ?l16 ?c16 ?k16 ?a17 ?l17 ?c17 ?k17 ?a18 ?l18 ?c18 ?k18 ?a19 ?l19 ?c19 ?k19 ?a20 ?l20 ?c20 ?k20 ?z0 ?z1 ?z2 ?z3 ?z4 ?z5 ?z6 ?z7 ?z8 ?z9 ?z10 ?z11 ?z12 ?z13 ?z14 ?z15 ?n0 ?cc0 ?cc1 ?x1 ?x3 ?x5 ?x6 ?x7 ?x8_0 ?x8_1 ?x8_2 ?x8_3 ?x8_4 ?x8_5 ?x8_6 ?x8_7 ?x9 ?x10 ?x11_0 ?x11_1 ?x11_2 ?x11_3 ?x11_4 ?x11_5 ?x11_6 ?x11_7 ?x12 ?x13 ?x14 ?x15
    (case a0 => k_is); (case l0 => k_is); (case c0 => k_is); (case k0 => k_is); (case a1 => k_is); (case l1 => k_is); (case c1 => k_is); (case k1 => k_is); (case a2 => k_is); (case l2 => k_is); (case c2 => k_is); (case k2 => k_is); (case a3 => k_is); (case l3 => k_is); (case c3 => k_is); (case k3 => k_is); (case a4 => k_is); (case l4 => k_is); (case c4 => k_is); (case k4 => k_is); (case a5 => k_is); (case l5 => k_is); (case c5 => k_is); (case k5 => k_is); (case a6 => k_is); (case l6 => k_is); (case c6 => k_is); (case k6 => k_is); (case a7 => k_is); (case l7 => k_is); (case c7 => k_is); (case k7 => k_is); (case a8 => k_is); (case l8 => k_is); (case c8 => k_is); (case k8 => k_is); (case a9 => k_is); (case l9 => k_is); (case c9 => k_is); (case k9 => k_is); (case a10 => k_is); (case l10 => k_is); (case c10 => k_is); (case k10 => k_is); (case a11 => k_is); (case l11 => k_is); (case c11 => k_is); (case k11 => k_is); (case a12 => k_is); (case l12 => k_is); (case c12 => k_is); (case k12 => k_is); (case a13 => k_is); (case l13 => k_is); (case c13 => k_is); (case k13 => k_is); (case a14 => k_is); (case l14 => k_is); (case c14 => k_is); (case k14 => k_is); (case a15 => k_is); (case l15 => k_is); (case c15 => k_is); (case k15 => k_is); (case a16 => k_is); (case l16 => k_is); (case c16 => k_is); (case k16 => k_is); (case a17 => k_is); (case l17 => k_is); (case c17 => k_is); (case k17 => k_is); (case a18 => k_is); (case l18 => k_is); (case c18 => k_is); (case k18 => k_is); (case a19 => k_is); (case l19 => k_is); (case c19 => k_is); (case k19 => k_is); (case a20 => k_is); (case l20 => k_is); (case c20 => k_is); (case k20 => k_is); (case z0 => k_is); (case z1 => k_is); (case z2 => k_is); (case z3 => k_is); (case z4 => k_is); (case z5 => k_is); (case z6 => k_is); (case z7 => k_is); (case z8 => k_is); (case z9 => k_is); (case z10 => k_is); (case z11 => k_is); (case z12 => k_is); (case z13 => k_is); (case z14 => k_is); (case z15 => k_is); (case n0 => k_is); (case cc0 => rfl); (case cc1 => rfl); (case x1 => first | k_is | k_exc | rfl); (case x3 => first | k_is | k_exc | rfl); (case x5 => first | k_is | k_exc | rfl); (case x6 => first | k_is | k_exc | rfl); (case x7 => first | k_is | k_exc | rfl); (case x8_0 => first | k_is | k_exc | rfl); (case x8_1 => first | k_is | k_exc | rfl); (case x8_2 => first | k_is | k_exc | rfl); (case x8_3 => first | k_is | k_exc | rfl); (case x8_4 => first | k_is | k_exc | rfl); (case x8_5 => first | k_is | k_exc | rfl); (case x8_6 => first | k_is | k_exc | rfl); (case x8_7 => first | k_is | k_exc | rfl); (case x9 => first | k_is | k_exc | rfl); (case x10 => first | k_is | k_exc | rfl); (case x11_0 => first | k_is | k_exc | rfl); (case x11_1 => first | k_is | k_exc | rfl); (case x11_2 => first | k_is | k_exc | rfl); (case x11_3 => first | k_is | k_exc | rfl); (case x11_4 => first | k_is | k_exc | rfl); (case x11_5 => first | k_is | k_exc | rfl); (case x11_6 => first | k_is | k_exc | rfl); (case x11_7 => first | k_is | k_exc | rfl); (case x12 => first | k_is | k_exc | rfl); (case x13 => first | k_is | k_exc | rfl); (case x14 => first | k_is | k_exc | rfl); (case x15 => first | k_is | k_exc | rfl)

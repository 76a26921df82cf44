import PyProof.Rows.All
import Wide.All
import OpenK.AllK
import Wide.FinOn
import HandS.ForMost
import HandS.Exc
import HandS.ExcOwn
import HandS.WordsExc
import HandS.ExcIs
import HandS.Evl
import HandS.IsInst
import HandS.Wide
import HandS.Zip
import HandS.More
import KE.GoesEnumKw
import KE.GoesMore
import HandS.SortKw
import KE.KEqDeep
import HandS.Conv
import HandS.WideBits
import HandS.Iter
import PySem.Challenge.RW_susu_k10_orders_by_number
set_option Elab.async false
set_option linter.all false
set_option maxRecDepth 100000

namespace Su
open PySem PySem.Spec PyProof.Rows L2 Evl
/-! ### small rules over HandS.Evl -/
theorem CMul.l {i j : Int} (h1 : -(2 ^ 64) < i) (h2 : i < 2 ^ 64) : CMul i j := .inl ⟨h1, h2⟩
theorem CMul.r {i j : Int} (h1 : -(2 ^ 64) < j) (h2 : j < 2 ^ 64) : CMul i j := .inr ⟨h1, h2⟩
theorem rv_mod {H : Hp} {i j : Int} (h : 0 < j) : RV (rI (fun _ j => 0 < j) fun i j => .int (i % j)) (.int i) (.int j) H (.int (i % j)) := rv_I h
theorem rv_div {H : Hp} {i j : Int} (h : 0 < j) (h2 : j < 1073741824) : RV (rI CDiv fun i j => .int (i / j)) (.int i) (.int j) H (.int (i / j)) := rv_I ⟨h, h2⟩
theorem rv_mul {H : Hp} {i j : Int} (h : CMul i j) : RV (rI CMul fun i j => .int (i * j)) (.int i) (.int j) H (.int (i * j)) := rv_I h
theorem rv_pow {H : Hp} {i j : Int} (h : CPow i j) : RV (rI CPow fun i j => .int (i ^ j.toNat)) (.int i) (.int j) H (.int (i ^ j.toNat)) := rv_I h
theorem rv_p18 {H : Hp} : RV (rI CPow fun i j => .int (i ^ j.toNat)) (.int 10) (.int 18) H (.int (10 ^ 18)) := rv_I (C := CPow) (g := fun i j => .int (i ^ j.toNat)) ⟨by decide, by decide, by decide⟩
theorem rv_p12 {H : Hp} : RV (rI CPow fun i j => .int (i ^ j.toNat)) (.int 10) (.int 12) H (.int (10 ^ 12)) := rv_I (C := CPow) (g := fun i j => .int (i ^ j.toNat)) ⟨by decide, by decide, by decide⟩
theorem rv_p20 {H : Hp} : RV (rI CPow fun i j => .int (i ^ j.toNat)) (.int 10) (.int 20) H (.int (10 ^ 20)) := rv_I (C := CPow) (g := fun i j => .int (i ^ j.toNat)) ⟨by decide, by decide, by decide⟩
theorem rv_divW {H : Hp} {i j : Int} (h : CDivW i j) : RV (rI CDivW fun i j => .int (i / j)) (.int i) (.int j) H (.int (i / j)) := rv_I h
theorem rv_mulW {H : Hp} {i j : Int} (h : CMulW i j) : RV (rI CMulW fun i j => .int (i * j)) (.int i) (.int j) H (.int (i * j)) := rv_I h
theorem rc_abs {H : Hp} {i : Int} : RC (fun xs H Q => ∃ i, xs = [V.int i] ∧ Q (.int (if i < 0 then -i else i)) H) [.int i] H (.int (if i < 0 then -i else i)) := fun H1 _ _ q => ⟨i, rfl, q H1 (Ex.refl H1)⟩
theorem rc_max {H : Hp} {i j : Int} : RC (fun xs H Q => ∃ i j, xs = [V.int i, .int j] ∧ Q (.int (if j > i then j else i)) H) [.int i, .int j] H (.int (if j > i then j else i)) := fun H1 _ _ q => ⟨i, j, rfl, q H1 (Ex.refl H1)⟩
theorem rc_min {H : Hp} {i j : Int} : RC (fun xs H Q => ∃ i j, xs = [V.int i, .int j] ∧ Q (.int (if j < i then j else i)) H) [.int i, .int j] H (.int (if j < i then j else i)) := fun H1 _ _ q => ⟨i, j, rfl, q H1 (Ex.refl H1)⟩
theorem rc_len {K : PySem.W.Frag} {H : Hp} {p : Addr} {ys : List V} (h : SqL K H p ys ∨ SqT K H p ys) : RC (fun xs H Q => ∃ p ys, xs = [V.ref p] ∧ (SqL K H p ys ∨ SqT K H p ys) ∧ Q (.int ys.length) H) [.ref p] H (.int ys.length) :=
  fun H1 e _ q => ⟨p, ys, rfl, h.elim (fun h => .inl (ex_l e h)) (fun h => .inr (ex_t e h)), q H1 (Ex.refl H1)⟩
theorem rc_isi_int {K : PySem.W.Frag} {H : Hp} {i : Int} {n : String} {b : Bool} (h : kitB "int" n = some b) : RC (rIsi K) [.int i, .ty n] H (.bl b) :=
  fun H1 _ _ q => ⟨.int i, .ty n, .type "int", .type n, b, rfl, .ty n, .base (.int i), kit_ty h, q H1 (Ex.refl H1)⟩
theorem ex_g {H H' : Hp} {a : Addr} {o : HO} (e : Ex H H') (h : H a = some o) : H' a = some o := e a o h
theorem at_rows {rows : List Int} {z : Int} (h0 : 0 ≤ z) (h : z < rows.length) : atI (rows.map V.int) z = some (.int (rows.getD z.toNat 0)) := by
  have hz : z = ((z.toNat : Nat) : Int) := by omega
  have hl : z.toNat < rows.length := by omega
  refine at_of hz ?_
  rw [List.getElem?_map, List.getElem?_eq_getElem hl, List.getD_eq_getElem?_getD, List.getElem?_eq_getElem hl]
  rfl
theorem at4 {a b c d z : Int} (h0 : 0 ≤ z) (h : z < 4) : atI [V.int a, .int b, .int c, .int d] z = some (.int (if z = 0 then a else if z = 1 then b else if z = 2 then c else d)) := by
  have h4 : z = 0 ∨ z = 1 ∨ z = 2 ∨ z = 3 := by omega
  rcases h4 with rfl | rfl | rfl | rfl <;> rfl
theorem wm {i j : Int} (h1 : i.natAbs < 2 ^ 240) (h2 : j.natAbs < 2 ^ 240) : CMulW i j := wide_mul h1 h2 (by decide) (by decide) (by decide)
theorem wd {i j : Int} (h : 0 < j) (h2 : j.natAbs < 2 ^ 240) : CDivW i j := wide_div h h2 (by decide) (by decide)
theorem n400 {i : Int} {n : Int} (h1 : -n ≤ i) (h2 : i ≤ n) (h : n.toNat < 2 ^ 240) : i.natAbs < 2 ^ 240 := by omega
theorem n400' {i : Int} (h1 : -(10 ^ 70) ≤ i) (h2 : i ≤ 10 ^ 70) : i.natAbs < 2 ^ 240 := n400 h1 h2 (by decide)
theorem decT {p : Prop} [Decidable p] (h : p) {b : Bool} (e : decide p = b) : b = true := by rw [← e]; exact decide_eq_true h
abbrev vErr : List Value := [.type "ValueError", .type "Exception", .type "BaseException", .type "object"]
theorem ex_up {H : Hp} {p : Addr} {o' : HO} {H0 : Hp} (e : Ex H0 H) (hp : H0 p = none) : Ex H0 (upd H p o') := Ex.mut e hp
theorem seq_ne {K : PySem.W.Frag} {H H' : Hp} {a : Addr} {xs : List V} (e : Ex H H') (h : SqL K H a xs) : SqL K H' a xs := ex_l e h
/-- a def's call that hands back a new list of which something is known -/
def SpN (sp : Sp) (vs : List V) (H : Hp) (P : List V → Prop) : Prop := ∀ H1, Ex H H1 → ∀ Q : VK, (∀ xs p H2, P xs → H1 p = none → Ex H1 H2 → H2 p = some (.lst xs) → Q (.ref p) H2) → ∀ E : XK, sp vs H1 Q E
theorem q_callN {sp : Sp} {dvs vs : List V} {E : XK} {ta : TA} {σ : L2.St} {H : Hp} {i : Nat} {D : Ends} {tz : TS} {P : List V → Prop} (h : EvA ta σ H vs) (hs : SpN sp (vs ++ dvs) H P)
    (k : ∀ xs p H1, P xs → H p = none → Ex H H1 → H1 p = some (.lst xs) → tz D (σ.set i (some (.ref p))) H1) : tSeq (tAsg (tCall sp dvs E ta) (gName i)) tz D σ H :=
  h H (Ex.refl H) _ fun H1 e1 => hs H1 e1 _ (fun xs p H2 hP hp e2 h2 => k xs p H2 hP (fresh_back e1 hp) (e1.trans e2) h2) E
theorem s_callN {sp : Sp} {dvs vs : List V} {E : XK} {ta : TA} {σ : L2.St} {H : Hp} {i : Nat} {D : Ends} {P : List V → Prop} (h : EvA ta σ H vs) (hs : SpN sp (vs ++ dvs) H P)
    (k : ∀ xs p H1, P xs → H p = none → Ex H H1 → H1 p = some (.lst xs) → D.nx (σ.set i (some (.ref p))) H1) : tAsg (tCall sp dvs E ta) (gName i) D σ H :=
  h H (Ex.refl H) _ fun H1 e1 => hs H1 e1 _ (fun xs p H2 hP hp e2 h2 => k xs p H2 hP (fresh_back e1 hp) (e1.trans e2) h2) E
/-- .. whose first argument is a new list -/
theorem s_callN1 {sp : Sp} {dvs vs xs0 : List V} {E : XK} {te : TE} {tr : TA} {σ : L2.St} {H : Hp} {i : Nat} {D : Ends} {P : List V → Prop} (h1 : EvL te σ H xs0) (h2 : EvA tr σ H vs) (hs : ∀ p0 H1, Ex H H1 → H1 p0 = some (.lst xs0) → SpN sp (.ref p0 :: vs ++ dvs) H1 P)
    (k : ∀ xs p H1, P xs → H p = none → Ex H H1 → H1 p = some (.lst xs) → D.nx (σ.set i (some (.ref p))) H1) : tAsg (tCall sp dvs E (tCons te tr)) (gName i) D σ H :=
  h1 H (Ex.refl H) _ fun p0 H1 _ e1 hp0 => h2 H1 e1 _ fun H2 e2 => hs p0 H2 (e1.trans e2) (e2 _ _ hp0) H2 (Ex.refl H2) _ (fun xs p H3 hP hp e3 h3 => k xs p H3 hP (fresh_back (e1.trans e2) hp) ((e1.trans e2).trans e3) h3) E
theorem ev_callL {sp : Sp} {dvs vs xs0 : List V} {E : XK} {te : TE} {tr : TA} {σ : L2.St} {H : Hp} {z : V} (h1 : EvL te σ H xs0) (h2 : EvA tr σ H vs) (hs : ∀ p0 H1, Ex H H1 → H1 p0 = some (.lst xs0) → SpV sp (.ref p0 :: vs ++ dvs) H1 z) : Ev (tCall sp dvs E (tCons te tr)) σ H z := fun H0 e0 Q q =>
  h1 H0 e0 _ fun p0 H1 _ e1 hp0 => h2 H1 (e0.trans e1) _ fun H2 e2 => hs p0 H2 ((e0.trans e1).trans e2) (e2 _ _ hp0) H2 (Ex.refl H2) _ (fun H3 e3 => q H3 ((e1.trans e2).trans e3)) E
theorem cut_from (xs : List V) (k : Nat) : cutV xs (some (k : Int)) none = xs.drop k := by
  unfold cutV
  rw [HT.sIx_nat, HT.sIx_none]
  by_cases h : k ≤ xs.length
  · rw [Nat.min_eq_left h, List.take_of_length_le (by rw [List.length_drop]; omega)]
  · rw [Nat.min_eq_right (by omega), Nat.sub_self, List.take_zero, List.drop_of_length_le (by omega)]
theorem s_asgSub {l : Addr} {xs : List V} {z : Int} {j : Nat} {te ta tb : TE} {σ : L2.St} {H : Hp} {v : V} {D : Ends} (hl : H l = some (.lst xs)) (h : Ev te σ H v) (ho : Ev ta σ H (.ref l)) (hi : Ev tb σ H (.int z)) (hz : z = (j : Int)) (hj : j < xs.length)
    (k : ∀ H1, Ex H H1 → D.nx σ (upd H1 l (.lst (xs.set j v)))) : tAsg te (gSub ta tb rSetL) D σ H := s_setL hl h ho (hz ▸ hi) hj k
end Su
open PySem PySem.Spec PyProof.Rows L2 Evl Su
/-! ### small tactics: "ev" an expression, "et" a test, "ea" arguments, "rv" an operator, "rc" a built-in, "hc" a bound -/
local macro_rules | `(tactic| walk_at "hc") => `(tactic| first | assumption | omega | (exact Su.CMul.l (by omega) (by omega)) | (exact Su.CMul.r (by omega) (by omega)) | (exact Su.wm (Su.n400' (by omega) (by omega)) (Su.n400' (by omega) (by omega))) | (exact Su.wd (by omega) (Su.n400' (by omega) (by omega))) | decide)
local macro_rules | `(tactic| walk_at "rv") => `(tactic| first
  | (with_reducible exact rv_I0)
  | (with_reducible exact rv_eq rfl)
  | (with_reducible exact rv_ne rfl)
  | (with_reducible refine Su.rv_mod ?_; walk_at "hc")
  | (with_reducible refine Su.rv_div ?_ ?_ <;> walk_at "hc")
  | (with_reducible refine Su.rv_mul ?_; walk_at "hc")
  | exact Su.rv_p18
  | exact Su.rv_p12
  | exact Su.rv_p20
  | (with_reducible refine Su.rv_divW ?_; walk_at "hc")
  | (with_reducible refine Su.rv_mulW ?_; walk_at "hc")
  | (apply rv_ixL; (first | assumption | (exact sq_of (by assumption))); (first | (apply Su.at_rows <;> walk_at "hc") | rfl | assumption)))
local macro_rules | `(tactic| walk_at "rc") => `(tactic| first
  | exact Su.rc_abs
  | exact Su.rc_max
  | exact Su.rc_min
  | exact Su.rc_isi_int (b := true) (by decide +kernel)
  | exact Su.rc_isi_int (b := false) (by decide +kernel))
local macro_rules | `(tactic| walk_at "ea") => `(tactic| first
  | exact ea_nil
  | (apply ea_cons; (walk_at "ev"); (walk_at "ea")))
local macro_rules | `(tactic| walk_at "ev") => `(tactic| first
  | exact ev_c
  | exact ev_var rfl
  | (apply ev_op; (walk_at "ev"); (walk_at "ev"); (walk_at "rv"))
  | (apply ev_un; (walk_at "ev"); (exact ru_neg))
  | (apply ev_andV; (walk_at "ev"); (intro _; walk_at "ev"))
  | (apply ev_orV; (walk_at "ev"); (intro _; walk_at "ev"))
  | (apply ev_notV; (walk_at "ev"))
  | (apply ev_len; (walk_at "ev"); first | assumption | (exact sq_of (by assumption)))
  | (apply ev_cb; (walk_at "ea"); (walk_at "rc")))
local macro_rules | `(tactic| walk_at "et") => `(tactic| first
  | (apply et_and; (walk_at "et"); (intro _; walk_at "et"))
  | (apply et_or; (walk_at "et"); (intro _; walk_at "et"))
  | (apply et_not; (walk_at "et"))
  | (apply et_test; (walk_at "ev"))
  | (apply et_B; (walk_at "ev")))

open PySem PySem.Spec PyProof.Rows L2 Evl Su
namespace Su
def topS (i : Nat) : Stmt := PySem.Challenge.pw_susu_k10_orders_by_number.main.body.getD i (.Pass ⟨0, 0, 0, 0⟩)
abbrev s_is_order : Stmt := topS 5
abbrev N_is_order : List Str := ["windows", "row", "turn", "at"]
theorem sc_is_order : FnScope N_is_order ["windows", "row"] (defScope s_is_order) := ⟨rfl, rfl, rfl, by decide +kernel, rfl, by decide +kernel, by decide +kernel⟩
abbrev s_count_orders : Stmt := topS 8
abbrev N_count_orders : List Str := ["windows"]
theorem sc_count_orders : FnScope N_count_orders ["windows"] (defScope s_count_orders) := ⟨rfl, rfl, rfl, by decide +kernel, rfl, by decide +kernel, by decide +kernel⟩
abbrev s_order_by_number : Stmt := topS 9
abbrev N_order_by_number : List Str := ["windows", "number", "ways", "row", "held", "left", "chosen", "at"]
theorem sc_order_by_number : FnScope N_order_by_number ["windows", "number"] (defScope s_order_by_number) := ⟨rfl, rfl, rfl, by decide +kernel, rfl, by decide +kernel, by decide +kernel⟩
abbrev s_number_of_order : Stmt := topS 10
abbrev N_number_of_order : List Str := ["windows", "row", "ways", "number", "held", "at"]
theorem sc_number_of_order : FnScope N_number_of_order ["windows", "row"] (defScope s_number_of_order) := ⟨rfl, rfl, rfl, by decide +kernel, rfl, by decide +kernel, by decide +kernel⟩
abbrev s_refuse_many : Stmt := topS 11
abbrev N_refuse_many : List Str := ["windows"]
theorem sc_refuse_many : FnScope N_refuse_many ["windows"] (defScope s_refuse_many) := ⟨rfl, rfl, rfl, by decide +kernel, rfl, by decide +kernel, by decide +kernel⟩
abbrev s_with_window : Stmt := topS 12
abbrev N_with_window : List Str := ["held", "at"]
theorem sc_with_window : FnScope N_with_window ["held", "at"] (defScope s_with_window) := ⟨rfl, rfl, rfl, by decide +kernel, rfl, by decide +kernel, by decide +kernel⟩
abbrev s_next_windows : Stmt := topS 13
abbrev N_next_windows : List Str := ["windows", "held", "free", "turn", "at"]
theorem sc_next_windows : FnScope N_next_windows ["windows", "held"] (defScope s_next_windows) := ⟨rfl, rfl, rfl, by decide +kernel, rfl, by decide +kernel, by decide +kernel⟩
abbrev s_ways_on : Stmt := topS 14
abbrev N_ways_on : List Str := ["windows", "full", "ways", "held", "at"]
theorem sc_ways_on : FnScope N_ways_on ["windows"] (defScope s_ways_on) := ⟨rfl, rfl, rfl, by decide +kernel, rfl, by decide +kernel, by decide +kernel⟩
abbrev s_lesser_ways : Stmt := topS 15
abbrev N_lesser_ways : List Str := ["windows", "ways", "held", "at", "k"]
theorem sc_lesser_ways : FnScope N_lesser_ways ["windows", "ways", "held", "at"] (defScope s_lesser_ways) := ⟨rfl, rfl, rfl, by decide +kernel, rfl, by decide +kernel, by decide +kernel⟩
abbrev s__law_draws : Stmt := topS 17
abbrev N__law_draws : List Str := ["_law_script", "_law_many", "_law_rows", "_law_mix", "_law_cell", "_law_rest"]
theorem sc__law_draws : FnScope N__law_draws ["_law_script", "_law_many"] (defScope s__law_draws) := ⟨rfl, rfl, rfl, by decide +kernel, rfl, by decide +kernel, by decide +kernel⟩
abbrev s__law_whole : Stmt := topS 18
abbrev N__law_whole : List Str := ["_law_told"]
theorem sc__law_whole : FnScope N__law_whole ["_law_told"] (defScope s__law_whole) := ⟨rfl, rfl, rfl, by decide +kernel, rfl, by decide +kernel, by decide +kernel⟩
abbrev s__law_wholes : Stmt := topS 19
abbrev N__law_wholes : List Str := ["_law_told", "_law_one"]
theorem sc__law_wholes : FnScope N__law_wholes ["_law_told"] (defScope s__law_wholes) := ⟨rfl, rfl, rfl, by decide +kernel, rfl, by decide +kernel, by decide +kernel⟩
abbrev s__law_perm : Stmt := topS 20
abbrev N__law_perm : List Str := ["_law_some", "_law_size", "_law_row", "_law_at"]
theorem sc__law_perm : FnScope N__law_perm ["_law_some", "_law_size"] (defScope s__law_perm) := ⟨rfl, rfl, rfl, by decide +kernel, rfl, by decide +kernel, by decide +kernel⟩
abbrev s__law_keeps : Stmt := topS 21
abbrev N__law_keeps : List Str := ["_law_windows", "_law_row", "_law_at", "_law_number"]
theorem sc__law_keeps : FnScope N__law_keeps ["_law_windows", "_law_row"] (defScope s__law_keeps) := ⟨rfl, rfl, rfl, by decide +kernel, rfl, by decide +kernel, by decide +kernel⟩
abbrev s_law : Stmt := topS 22
abbrev N_law : List Str := ["_law_script", "_law_some", "_law_size", "_law_windows", "_law_planted", "_law_at", "_law_number", "_law_first", "_law_lent", "_law_many", "_law_row", "_law_given", "_law_again", "_law_here", "_law_back"]
theorem sc_law : FnScope N_law ["_law_script"] (defScope s_law) := ⟨rfl, rfl, rfl, by decide +kernel, rfl, by decide +kernel, by decide +kernel⟩
structure Top (K : PySem.W.Frag) (mg : Str → Option Value) where
  f_is_order : Addr
  fd_is_order : FuncData
  F_is_order : Fun K "is_order" "is_order" s_is_order f_is_order fd_is_order
  b_is_order : Binds K fd_is_order ["windows", "row"] []
  m_is_order : mg "is_order" = some (.ref f_is_order)
  f_count_orders : Addr
  fd_count_orders : FuncData
  F_count_orders : Fun K "count_orders" "count_orders" s_count_orders f_count_orders fd_count_orders
  b_count_orders : Binds K fd_count_orders ["windows"] []
  m_count_orders : mg "count_orders" = some (.ref f_count_orders)
  f_order_by_number : Addr
  fd_order_by_number : FuncData
  F_order_by_number : Fun K "order_by_number" "order_by_number" s_order_by_number f_order_by_number fd_order_by_number
  b_order_by_number : Binds K fd_order_by_number ["windows", "number"] []
  m_order_by_number : mg "order_by_number" = some (.ref f_order_by_number)
  f_number_of_order : Addr
  fd_number_of_order : FuncData
  F_number_of_order : Fun K "number_of_order" "number_of_order" s_number_of_order f_number_of_order fd_number_of_order
  b_number_of_order : Binds K fd_number_of_order ["windows", "row"] []
  m_number_of_order : mg "number_of_order" = some (.ref f_number_of_order)
  f_refuse_many : Addr
  fd_refuse_many : FuncData
  F_refuse_many : Fun K "refuse_many" "refuse_many" s_refuse_many f_refuse_many fd_refuse_many
  b_refuse_many : Binds K fd_refuse_many ["windows"] []
  m_refuse_many : mg "refuse_many" = some (.ref f_refuse_many)
  f_with_window : Addr
  fd_with_window : FuncData
  F_with_window : Fun K "with_window" "with_window" s_with_window f_with_window fd_with_window
  b_with_window : Binds K fd_with_window ["held", "at"] []
  m_with_window : mg "with_window" = some (.ref f_with_window)
  f_next_windows : Addr
  fd_next_windows : FuncData
  F_next_windows : Fun K "next_windows" "next_windows" s_next_windows f_next_windows fd_next_windows
  b_next_windows : Binds K fd_next_windows ["windows", "held"] []
  m_next_windows : mg "next_windows" = some (.ref f_next_windows)
  f_ways_on : Addr
  fd_ways_on : FuncData
  F_ways_on : Fun K "ways_on" "ways_on" s_ways_on f_ways_on fd_ways_on
  b_ways_on : Binds K fd_ways_on ["windows"] []
  m_ways_on : mg "ways_on" = some (.ref f_ways_on)
  f_lesser_ways : Addr
  fd_lesser_ways : FuncData
  F_lesser_ways : Fun K "lesser_ways" "lesser_ways" s_lesser_ways f_lesser_ways fd_lesser_ways
  b_lesser_ways : Binds K fd_lesser_ways ["windows", "ways", "held", "at"] []
  m_lesser_ways : mg "lesser_ways" = some (.ref f_lesser_ways)
  f__law_draws : Addr
  fd__law_draws : FuncData
  F__law_draws : Fun K "_law_draws" "_law_draws" s__law_draws f__law_draws fd__law_draws
  b__law_draws : Binds K fd__law_draws ["_law_script", "_law_many"] []
  m__law_draws : mg "_law_draws" = some (.ref f__law_draws)
  f__law_whole : Addr
  fd__law_whole : FuncData
  F__law_whole : Fun K "_law_whole" "_law_whole" s__law_whole f__law_whole fd__law_whole
  b__law_whole : Binds K fd__law_whole ["_law_told"] []
  m__law_whole : mg "_law_whole" = some (.ref f__law_whole)
  f__law_wholes : Addr
  fd__law_wholes : FuncData
  F__law_wholes : Fun K "_law_wholes" "_law_wholes" s__law_wholes f__law_wholes fd__law_wholes
  b__law_wholes : Binds K fd__law_wholes ["_law_told"] []
  m__law_wholes : mg "_law_wholes" = some (.ref f__law_wholes)
  f__law_perm : Addr
  fd__law_perm : FuncData
  F__law_perm : Fun K "_law_perm" "_law_perm" s__law_perm f__law_perm fd__law_perm
  b__law_perm : Binds K fd__law_perm ["_law_some", "_law_size"] []
  m__law_perm : mg "_law_perm" = some (.ref f__law_perm)
  f__law_keeps : Addr
  fd__law_keeps : FuncData
  F__law_keeps : Fun K "_law_keeps" "_law_keeps" s__law_keeps f__law_keeps fd__law_keeps
  b__law_keeps : Binds K fd__law_keeps ["_law_windows", "_law_row"] []
  m__law_keeps : mg "_law_keeps" = some (.ref f__law_keeps)
  f_law : Addr
  fd_law : FuncData
  F_law : Fun K "law" "law" s_law f_law fd_law
  b_law : Binds K fd_law ["_law_script"] []
  m_law : mg "law" = some (.ref f_law)
  m_abs : mg "abs" = none
  m_all : mg "all" = none
  m_bool : mg "bool" = none
  m_enumerate : mg "enumerate" = none
  m_int : mg "int" = none
  m_isinstance : mg "isinstance" = none
  m_len : mg "len" = none
  m_list : mg "list" = none
  m_max : mg "max" = none
  m_range : mg "range" = none
  m_sorted : mg "sorted" = none
  m_sum : mg "sum" = none
  f_SusuError : Addr
  m_SusuError : mg "SusuError" = some (.ref f_SusuError)
  f_BadNumber : Addr
  m_BadNumber : mg "BadNumber" = some (.ref f_BadNumber)
  f_TooMany : Addr
  m_TooMany : mg "TooMany" = some (.ref f_TooMany)
  x_BadNumber : PySem.W.excIn K f_BadNumber vErr "ValueError.__new__" = true
  kp_BadNumber : PySem.W.keepIn K (.ref f_BadNumber) = true
  e_BadNumber : ExcC K f_BadNumber
  x_TooMany : PySem.W.excIn K f_TooMany vErr "ValueError.__new__" = true
  kp_TooMany : PySem.W.keepIn K (.ref f_TooMany) = true
  e_TooMany : ExcC K f_TooMany
  sb_BadNumber : PySem.W.subIn K (.ref f_BadNumber) (.type "BaseException") = some true
  ty_BadNumber : PySem.W.typeIn K (.ref f_BadNumber) = some (.type "type")
  sb_TooMany : PySem.W.subIn K (.ref f_TooMany) (.type "BaseException") = some true
  ty_TooMany : PySem.W.typeIn K (.ref f_TooMany) = some (.type "type")
  t_MOST_WINDOWS : Tok
  m_MOST_WINDOWS : mg "MOST_WINDOWS" = some (.int 8 t_MOST_WINDOWS)
end Su
namespace Su
/-! ### rules whose written part is named, for blocks -/
section
variable {X : Cx} {K : PySem.W.Frag}
theorem ix_listK (h : X.K = K := by rfl) : IxR X (rIxL K) := h ▸ ix_list
theorem ix_tupK (h : X.K = K := by rfl) : IxR X (rIxT K) := h ▸ ix_tup
theorem call_len_seqK (h : X.K = K := by rfl) : CallR X (.builtin "len") (fun xs H Q => ∃ p ys, xs = [.ref p] ∧ (SqL K H p ys ∨ SqT K H p ys) ∧ Q (.int ys.length) H) := h ▸ call_len_seq
theorem op_in_seqK (h : X.K = K := by rfl) : OpR X (compareOp .In) (rIn K false) := h ▸ op_in_seq
theorem op_notIn_seqK (h : X.K = K := by rfl) : OpR X (compareOp .NotIn) (rIn K true) := h ▸ op_notIn_seq
theorem call_list_ofK (h : X.K = K := by rfl) : CallR X (.type "list") (fun xs H Q => ∃ p ys, xs = [.ref p] ∧ (SqL K H p ys ∨ SqT K H p ys) ∧ ∀ l, H l = none → Q (.ref l) (upd H l (.lst ys))) := h ▸ call_list_of
theorem call_isiK' (h : X.K = K := by rfl) : CallR X (.builtin "isinstance") (rIsi K) := h ▸ call_isi
end

end Su
namespace Su
theorem chain_le' {σ : L2.St} {H : Hp} {ta tb tc : TE} {a b c : Int} (h1 : Ev ta σ H (.int a)) (h2 : Ev tb σ H (.int b)) (h3 : Ev tc σ H (.int c)) :
    Ev (tChain (rI0 fun i j => .bl (decide (i ≤ j))) (rI0 fun i j => .bl (decide (i ≤ j))) ta tb tc) σ H (.bl (decide (a ≤ b) && decide (b ≤ c))) := fun H1 e Q q =>
  h1 H1 e _ fun H2 e2 => h2 H2 (e.trans e2) _ fun H3 e3 => ⟨a, b, rfl, rfl, decide (a ≤ b), rfl, by
    cases hd : decide (a ≤ b) with
    | true =>
      show tc σ H3 _
      exact h3 H3 ((e.trans e2).trans e3) _ fun H4 e4 => ⟨b, c, rfl, rfl, by rw [hd] at q; exact q H4 ((e2.trans e3).trans e4)⟩
    | false =>
      rw [hd] at q
      exact q H3 (e2.trans e3)⟩
theorem chain_le {σ : L2.St} {H : Hp} {ta tb tc : TE} {a b c : Int} (h1 : Ev ta σ H (.int a)) (h2 : Ev tb σ H (.int b)) (h3 : Ev tc σ H (.int c)) :
    EvT (tTest (tChain (rI0 fun i j => .bl (decide (i ≤ j))) (rI0 fun i j => .bl (decide (i ≤ j))) ta tb tc)) σ H (decide (a ≤ b) && decide (b ≤ c)) := fun H1 e Q q =>
  h1 H1 e _ fun H2 e2 => h2 H2 (e.trans e2) _ fun H3 e3 => ⟨a, b, rfl, rfl, decide (a ≤ b), rfl, by
    cases hd : decide (a ≤ b) with
    | true =>
      show tc σ H3 _
      exact h3 H3 ((e.trans e2).trans e3) _ fun H4 e4 => ⟨b, c, rfl, rfl, decide (b ≤ c), rfl, by rw [hd] at q; exact q H4 ((e2.trans e3).trans e4)⟩
    | false =>
      rw [hd] at q
      exact ⟨false, rfl, q H3 (e2.trans e3)⟩⟩
theorem et_chain {f g : Int → Int → Bool} {σ : L2.St} {H : Hp} {ta tb tc : TE} {a b c : Int} (h1 : Ev ta σ H (.int a)) (h2 : Ev tb σ H (.int b)) (h3 : Ev tc σ H (.int c)) :
    EvT (tTest (tChain (rI0 fun i j => .bl (f i j)) (rI0 fun i j => .bl (g i j)) ta tb tc)) σ H (f a b && g b c) := fun H1 e Q q =>
  h1 H1 e _ fun H2 e2 => h2 H2 (e.trans e2) _ fun H3 e3 => ⟨a, b, rfl, rfl, f a b, rfl, by
    cases hd : f a b with
    | true =>
      show tc σ H3 _
      exact h3 H3 ((e.trans e2).trans e3) _ fun H4 e4 => ⟨b, c, rfl, rfl, g b c, rfl, by rw [hd] at q; exact q H4 ((e2.trans e3).trans e4)⟩
    | false =>
      rw [hd] at q
      exact ⟨false, rfl, q H3 (e2.trans e3)⟩⟩

end Su
namespace Su
/-! ### the drawn numbers -/
def Rows (m : Nat) (rows : List Int) : Prop := m ≤ rows.length ∧ rows.length ≤ m + 63 ∧ ∀ x ∈ rows, -(10 ^ 18) < x ∧ x < 10 ^ 18
theorem Rows.add {rows : List Int} {x : Int} (h : ∀ x ∈ rows, -(10 ^ 18) < x ∧ x < 10 ^ 18) (h1 : -(10 ^ 18) < x) (h2 : x < 10 ^ 18) : ∀ y ∈ rows ++ [x], -(10 ^ 18) < y ∧ y < 10 ^ 18 := fun y hy => by
  rcases List.mem_append.mp hy with h' | h'
  · exact h y h'
  · obtain rfl := List.mem_singleton.mp h'
    exact ⟨h1, h2⟩
theorem Rows.get {m : Nat} {rows : List Int} (h : Rows m rows) (i : Nat) : -(10 ^ 18) < rows.getD i 0 ∧ rows.getD i 0 < 10 ^ 18 := by
  by_cases hi : i < rows.length
  · rw [List.getD_eq_getElem?_getD, List.getElem?_eq_getElem hi]
    exact h.2.2 _ (List.getElem_mem hi)
  · rw [List.getD_eq_getElem?_getD, List.getElem?_eq_none (by omega)]
    decide
section
variable {P : Program} {w : World} {K : PySem.W.Frag} {mg : Str → Option Value} {base : Heap}
def spDraws (K : PySem.W.Frag) : Sp := fun vs H Q _ => ∃ (a : Addr) (ns : List Int) (m : Nat), vs = [.ref a, .int (m : Int)] ∧ SqL K H a (ns.map V.int) ∧ ns.length ≤ 63 ∧ m ≤ 1000 ∧
  ∀ rows H' p, H p = none → Ex H H' → H' p = some (.lst (rows.map V.int)) → Rows m rows → Q (.ref p) H'
theorem spN_draws {K : PySem.W.Frag} {a : Addr} {ns : List Int} {m : Nat} {H : Hp} (hS : SqL K H a (ns.map V.int)) (hl : ns.length ≤ 63) (hm : m ≤ 1000) : SpN (spDraws K) [.ref a, .int (m : Int)] H (fun xs => ∃ rows : List Int, Rows m rows ∧ xs = rows.map V.int) :=
  fun H1 e Q q E => ⟨a, ns, m, rfl, ex_l e hS, hl, hm, fun rows H' p hp e' h' hr => q _ p H' ⟨rows, hr, rfl⟩ hp e' h'⟩
def DrI (H0 : Hp) (a p : Addr) (m i : Nat) (σ : L2.St) (H : Hp) : Prop := ∃ (rows : List Int) (mix : Int) (y4 y5 : Option V), σ = [some (.ref a), some (.int (m : Int)), some (.ref p), some (.int mix), y4, y5] ∧ Ex H0 H ∧ H p = some (.lst (rows.map V.int)) ∧
  rows.length ≤ m + i ∧ 0 ≤ mix ∧ mix < 2147483647 ∧ ∀ x ∈ rows, -(10 ^ 18) < x ∧ x < 10 ^ 18
theorem ok__law_draws {f : Addr} {fd : FuncData} {k : Nat} (F : Fun K "_law_draws" "_law_draws" s__law_draws f fd) (T : Top K mg) : FnOk P w K mg base CX0 (k + 1) f fd ["_law_script", "_law_many"] (spDraws K) := by
  have nd := sc__law_draws.nd
  refine F.ok sc__law_draws (fun vs H Q E h => ?_) (fun cdv A outer s H vs Q E hr h => ?_)
  · obtain ⟨a, ns, m, rfl, _⟩ := h
    rfl
  · obtain ⟨a, ns, m, rfl, hS, hlen, hm, q⟩ := h
    refine ⟨_, (pss_cons (ps_set (i := 2) nd rfl (.inl rfl) (pe_lst pa_nil))
      (pss_cons (ps_set (i := 3) nd rfl (.inl rfl) pe_int)
      (pss_cons (ps_for PassesOwn.never rfl (pi_list (pv 0)) (pg_name (i := 4) nd rfl (.inl rfl))
        (pss_cons (ps_set (i := 3) nd rfl (.inl rfl) (pe_op op_mod (pe_op op_add (pe_op op_mul (pv 3) pe_int) (pv 4)) pe_int))
          (pss_cons (ps_set (i := 5) nd rfl (.inl rfl) (pe_callB call_abs (by rfl) T.m_abs (by decide +kernel) (pa_cons (pv 4) pa_nil)))
          (pss_cons (ps_if (pt_cmpR op_lt (pv 5) (pe_op op_pow pe_int pe_int) (nomark _))
            (pss_cons (ps_expr (pe_bm PySem.F.plainAttrs_list PySem.F.slot_list_append PySem.F.type_list_append mt_append (pv 2) (pa_cons (pv 4) pa_nil)))
              (pss_one (ps_set (i := 5) nd rfl (.inl rfl) pe_int)))
            pss_nil)
          (pss_one (ps_while PassesOwn.never (PW.pt (pw_and (pt_cmpR op_gt (pv 5) pe_int (nomark _)) (pw_and1 (pt_cmpR op_lt (pe_callB call_len_seq (by rfl) T.m_len PySem.boot_len (pa_cons (pv 2) pa_nil)) (pv 1) (nomark _)))))
            (pss_cons (ps_expr (pe_bm PySem.F.plainAttrs_list PySem.F.slot_list_append PySem.F.type_list_append mt_append (pv 2) (pa_cons (pe_op op_mod (pv 5) pe_int) pa_nil)))
              (pss_one (ps_set (i := 5) nd rfl (.inl rfl) (pe_op op_fdiv (pv 5) pe_int))))))))))
      (pss_cons (ps_while PassesOwn.never (pt_cmpR op_lt (pe_callB call_len_seq (by rfl) T.m_len PySem.boot_len (pa_cons (pv 2) pa_nil)) (pv 1) (nomark _))
        (pss_cons (ps_set (i := 3) nd rfl (.inl rfl) (pe_op op_mod (pe_op op_add (pe_op op_mul (pv 3) pe_int) pe_int) pe_int))
          (pss_one (ps_expr (pe_bm PySem.F.plainAttrs_list PySem.F.slot_list_append PySem.F.type_list_append mt_append (pv 2) (pa_cons (pe_op op_mod (pe_op op_mul (pv 3) (pv 3)) pe_int) pa_nil))))))
      (pss_one (ps_ret (pv 2))))))), ?_⟩
    -- rows = []; mix = 1
    refine q_asgL (el_lst ea_nil (by decide)) fun p H1 hp e1 h1 => ?_
    have hS1 := ex_l e1 hS
    refine q_asg (by walk_at "ev") fun H2 e2 => ?_
    refine q_forL (by walk_at "ev") (ex_l e2 hS1) (DrI H a p m) ?_ ?_ ?_ ?_
    · intro H3 e3
      exact ⟨[], 1, none, none, rfl, (e1.trans e2).trans e3, e3 p _ (e2 p _ h1), Nat.zero_le _, by omega, by omega, fun x hx => by cases hx⟩
    · rintro i σ' H' _ ⟨rows, mix, y4, y5, rfl, ex, _⟩
      exact ex_l ex hS
    · rintro i x σ' H' hx ⟨rows, mix, y4, y5, rfl, ex, hr', hrl, m0, m1, hb⟩
      obtain ⟨c, rfl⟩ : ∃ c : Int, x = .int c := by
        rw [List.getElem?_map] at hx
        cases hc : ns[i]? with
        | none => rw [hc] at hx; cases hx
        | some c => rw [hc] at hx; exact ⟨c, (Option.some.inj hx).symm⟩
      have hi : i < 63 := by
        have := (List.getElem?_eq_some_iff.mp hx).1
        rw [List.length_map] at this
        omega
      refine q_asg (by walk_at "ev") fun H3 e3 => ?_
      have m0' := Int.emod_nonneg (mix * 31 + c) (show (2147483647 : Int) ≠ 0 by decide)
      have m1' := Int.emod_lt_of_pos (mix * 31 + c) (show (0 : Int) < 2147483647 by decide)
      generalize (mix * 31 + c) % 2147483647 = mix' at m0' m1' ⊢
      refine q_asg (by walk_at "ev") fun H4 e4 => ?_
      have hr4 := ex_g e4 (ex_g e3 hr')
      have ex4 := (ex.trans e3).trans e4
      have r0 : 0 ≤ (if c < 0 then -c else c) := by split <;> omega
      have rc : (if c < 0 then -c else c) < 10 ^ 18 → -(10 ^ 18) < c ∧ c < 10 ^ 18 := by split <;> omega
      generalize (if c < 0 then -c else c) = rest at r0 rc ⊢
      -- what stands behind the if: the while
      have hwh : ∀ (rows' : List Int) (rest' : Int) (y4' : Option V) (H5 : Hp), Ex H H5 → H5 p = some (.lst (rows'.map V.int)) → rows'.length ≤ m + (i + 1) → 0 ≤ rest' → (0 < rest' → rows'.length ≤ m + i) → (∀ x ∈ rows', -(10 ^ 18) < x ∧ x < 10 ^ 18) →
          ∀ (tc : TT) (tb : TS) (D : Ends), True → True := fun _ _ _ _ _ _ _ _ _ _ _ _ _ _ => trivial
      clear hwh
      refine q_when (by walk_at "et") (fun hb' H5 e5 => ?_) (fun hb' H5 e5 => ?_)
      · have hlt : rest < 10 ^ 18 := of_decide_eq_true hb'
        obtain ⟨c1, c2⟩ := rc hlt
        refine q_app (ex_g e5 hr4) (by walk_at "ev") (by walk_at "ev") (by rw [List.length_map]; omega) fun H6 e6 => ?_
        refine s_asg (by walk_at "ev") fun H7 e7 => ?_
        have hp7 : H7 p = some (.lst ((rows ++ [c]).map V.int)) := e7 p _ (by rw [upd_same, List.map_append]; rfl)
        have ex7 : Ex H H7 := (ex_up ((ex4.trans e5).trans e6) hp).trans e7
        refine s_while (fun n σ2 H2 => n = 0 ∧ σ2 = [some (.ref a), some (.int (m : Int)), some (.ref p), some (.int mix'), some (.int c), some (.int 0)] ∧ Ex H H2 ∧ H2 p = some (.lst ((rows ++ [c]).map V.int))) 0 ⟨rfl, rfl, ex7, hp7⟩ ?_
        rintro n σ2 H2 ⟨rfl, rfl, ex2, hp2⟩
        refine ⟨_, by walk_at "et", fun hb2 => ?_, fun hb2 H8 e8 => ?_⟩
        · simp at hb2
        · exact ⟨rows ++ [c], mix', _, _, rfl, ex2.trans e8, e8 p _ hp2, by rw [List.length_append]; show rows.length + 1 ≤ _; omega, m0', m1', Rows.add hb c1 c2⟩
      · refine s_while (fun n σ2 H2 => ∃ (rows' : List Int) (rest' : Int), σ2 = [some (.ref a), some (.int (m : Int)), some (.ref p), some (.int mix'), some (.int c), some (.int rest')] ∧ n = rest'.toNat ∧ Ex H H2 ∧ H2 p = some (.lst (rows'.map V.int)) ∧ rows'.length ≤ m + i ∧ 0 ≤ rest' ∧ ∀ x ∈ rows', -(10 ^ 18) < x ∧ x < 10 ^ 18) rest.toNat
          ⟨rows, rest, rfl, rfl, ex4.trans e5, ex_g e5 hr4, hrl, r0, hb⟩ ?_
        rintro n σ2 H2 ⟨rows', rest', rfl, rfl, ex2, hp2, hrl', r0', hb'⟩
        refine ⟨_, by walk_at "et", fun hb2 H8 e8 => ?_, fun hb2 H8 e8 => ?_⟩
        · have hb3 := Bool.and_eq_true_iff.mp hb2
          have hpos : 0 < rest' := of_decide_eq_true hb3.1
          have hlm : ((rows'.map V.int).length : Int) < m := of_decide_eq_true hb3.2
          rw [List.length_map] at hlm
          refine ⟨fun σ3 H3 => ∃ n', n' < rest'.toNat ∧ ∃ (rows' : List Int) (rest' : Int), σ3 = [some (.ref a), some (.int (m : Int)), some (.ref p), some (.int mix'), some (.int c), some (.int rest')] ∧ n' = rest'.toNat ∧ Ex H H3 ∧ H3 p = some (.lst (rows'.map V.int)) ∧ rows'.length ≤ m + i ∧ 0 ≤ rest' ∧ ∀ x ∈ rows', -(10 ^ 18) < x ∧ x < 10 ^ 18, fun _ _ h => h, ?_⟩
          refine q_app (ex_g e8 hp2) (by walk_at "ev") (by walk_at "ev") (by rw [List.length_map]; omega) fun H9 e9 => ?_
          refine s_asg (by walk_at "ev") fun H10 e10 => ?_
          have d0 := Int.emod_nonneg rest' (show (1000003 : Int) ≠ 0 by decide)
          have d1 := Int.emod_lt_of_pos rest' (show (0 : Int) < 1000003 by decide)
          refine ⟨(rest' / 1000003).toNat, by omega, rows' ++ [rest' % 1000003], rest' / 1000003, rfl, rfl, (ex_up ((ex2.trans e8).trans e9) hp).trans e10, e10 p _ (by rw [upd_same, List.map_append]; rfl), ?_, by omega, Rows.add hb' (by omega) (by omega)⟩
          rw [List.length_append]
          show rows'.length + 1 ≤ _
          omega
        · exact ⟨rows', mix', _, _, rfl, ex2.trans e8, e8 p _ hp2, by omega, m0', m1', hb'⟩
    · rintro σ' H' ⟨rows, mix, y4, y5, rfl, ex, hr', hrl, m0, m1, hb⟩
      rw [List.length_map] at hrl
      refine q_while (fun n σ2 H2 => ∃ (rows : List Int) (mix : Int), σ2 = [some (.ref a), some (.int (m : Int)), some (.ref p), some (.int mix), y4, y5] ∧ n = m - rows.length ∧ Ex H H2 ∧ H2 p = some (.lst (rows.map V.int)) ∧ rows.length ≤ m + 63 ∧ 0 ≤ mix ∧ mix < 2147483647 ∧ ∀ x ∈ rows, -(10 ^ 18) < x ∧ x < 10 ^ 18)
        (m - rows.length) ⟨rows, mix, rfl, rfl, ex, hr', by omega, m0, m1, hb⟩ ?_
      rintro n σ2 H2 ⟨rows, mix, rfl, rfl, ex, hr', hrl, m0, m1, hb⟩
      refine ⟨_, by walk_at "et", fun hb2 H8 e8 => ?_, fun hb2 H8 e8 => ?_⟩
      · have hlm : ((rows.map V.int).length : Int) < m := of_decide_eq_true hb2
        rw [List.length_map] at hlm
        refine ⟨fun σ3 H3 => ∃ n', n' < m - rows.length ∧ ∃ (rows : List Int) (mix : Int), σ3 = [some (.ref a), some (.int (m : Int)), some (.ref p), some (.int mix), y4, y5] ∧ n' = m - rows.length ∧ Ex H H3 ∧ H3 p = some (.lst (rows.map V.int)) ∧ rows.length ≤ m + 63 ∧ 0 ≤ mix ∧ mix < 2147483647 ∧ ∀ x ∈ rows, -(10 ^ 18) < x ∧ x < 10 ^ 18, fun _ _ h => h, ?_⟩
        refine q_asg (by walk_at "ev") fun H9 e9 => ?_
        have m0' := Int.emod_nonneg (mix * 48271 + 11) (show (2147483647 : Int) ≠ 0 by decide)
        have m1' := Int.emod_lt_of_pos (mix * 48271 + 11) (show (0 : Int) < 2147483647 by decide)
        generalize (mix * 48271 + 11) % 2147483647 = mix' at m0' m1' ⊢
        refine s_app (ex_g e9 (ex_g e8 hr')) (by walk_at "ev") (by walk_at "ev") (by rw [List.length_map]; omega) fun H10 e10 => ?_
        have d0 := Int.emod_nonneg (mix' * mix') (show (999983 : Int) ≠ 0 by decide)
        have d1 := Int.emod_lt_of_pos (mix' * mix') (show (0 : Int) < 999983 by decide)
        refine ⟨m - (rows.length + 1), by omega, rows ++ [mix' * mix' % 999983], mix', rfl, by rw [List.length_append]; rfl, ex_up (((ex.trans e8).trans e9).trans e10) hp, by rw [upd_same, List.map_append]; rfl, ?_, m0', m1', Rows.add hb (by omega) (by omega)⟩
        rw [List.length_append]
        show rows.length + 1 ≤ _
        omega
      · refine s_ret (by walk_at "ev") fun H9 e9 => ?_
        have hlm : ¬ ((rows.map V.int).length : Int) < m := of_decide_eq_false hb2
        rw [List.length_map] at hlm
        exact q rows H9 p hp ((ex.trans e8).trans e9) (e9 p _ (e8 p _ hr')) ⟨by omega, hrl, hb⟩
end

end Su
namespace Su
/-! ### comprehensions over enumerate and zip -/
def dropAt (H : Hp) (D : Addr) : Hp := fun b => if b = D then none else H b
theorem drop_ex {H : Hp} {D : Addr} : Ex (dropAt H D) H := fun a o e => by
  unfold dropAt at e
  split at e
  · cases e
  · exact e
theorem drop_self {H : Hp} {D : Addr} : dropAt H D D = none := by unfold dropAt; rw [if_pos rfl]
theorem drop_of {H : Hp} {D T : Addr} {o : HO} (e : H T = some o) (n : T ≠ D) : dropAt H D T = some o := by unfold dropAt; rw [if_neg n]; exact e
theorem ex_drop {H H1 : Hp} {D : Addr} (e : Ex H1 H) (n : H1 D = none) : Ex H1 (dropAt H D) := fun a o h => drop_of (e a o h) fun z => by rw [z, n] at h; cases h
theorem cw_turn2 {H H' Hb : Hp} {t : TT} {te : TE} {f : Nat → Bool} {v : Nat → V} {Dl : Addr} {i : Nat} {σ2 : L2.St} (p : Cw H f v Dl i H') (hi : i < 50000) (hb : Ex Hb H') (ht : EvT t σ2 Hb (f i)) (he : f i = true → Ev te σ2 Hb (v i)) :
    t σ2 H' fun b H3 => if b = true then te σ2 H3 fun y H4 => ∃ acc, H4 Dl = some (.lst acc) ∧ acc.length < sizeLine ∧ Cw H f v Dl (i + 1) (upd H4 Dl (.lst (acc ++ [y]))) else Cw H f v Dl (i + 1) H3 := by
  obtain ⟨p1, p2, p3⟩ := p
  refine ht H' hb _ fun H3 e3 => ?_
  cases hf : f i with
  | true =>
    show te σ2 H3 fun y H4 => ∃ acc, H4 Dl = some (.lst acc) ∧ acc.length < sizeLine ∧ Cw H f v Dl (i + 1) (upd H4 Dl (.lst (acc ++ [y])))
    refine he hf H3 (hb.trans e3) _ fun H4 e4 => ⟨given i f v, e4 Dl _ (e3 Dl _ p3), sz_lt (by have := given_len i f v; omega), p1, Ex.mut ((p2.trans e3).trans e4) p1, ?_⟩
    rw [given_yes hf]
    exact upd_same
  | false =>
    show Cw H f v Dl (i + 1) H3
    refine ⟨p1, p2.trans e3, ?_⟩
    rw [given_no hf]
    exact e3 Dl _ p3
theorem cw_ex {H H1 H2 : Hp} {f : Nat → Bool} {v : Nat → V} {Dl : Addr} {i : Nat} (p : Cw H f v Dl i H1) (e : Ex H1 H2) : Cw H f v Dl i H2 := ⟨p.1, p.2.1.trans e, e Dl _ p.2.2⟩
/-- what a target does with a value: from the slots s to s2 -/
def Tgt (g : TG) (x : V) (σ σ2 : L2.St) (H : Hp) : Prop := ∀ H2, Ex H H2 → ∀ Q : L2.St → Hp → Prop, Q σ2 H2 → g x σ H2 Q
theorem tg_name {i : Nat} {x : V} {σ : L2.St} {H : Hp} : Tgt (gName i) x σ (σ.set i (some x)) H := fun _ _ _ q => q
theorem tg_two {K : PySem.W.Frag} {g1 g2 : TG} {T : Addr} {x y : V} {σ σ1 σ2 : L2.St} {H : Hp} (h : SqT K H T [x, y]) (h1 : Tgt g1 x σ σ1 H) (h2 : Tgt g2 y σ1 σ2 H) : Tgt (gTup K 2 (gCons g1 (gCons g2 gNil))) (.ref T) σ σ2 H := fun H2 e Q q =>
  ⟨T, [x, y], rfl, ex_t e h, rfl, x, [y], rfl, h1 H2 e _ ⟨y, [], rfl, h2 H2 e _ ⟨rfl, q⟩⟩⟩
theorem tg_three {K : PySem.W.Frag} {g1 g2 g3 : TG} {T : Addr} {x y z : V} {σ σ1 σ2 σ3 : L2.St} {H : Hp} (h : SqT K H T [x, y, z]) (h1 : Tgt g1 x σ σ1 H) (h2 : Tgt g2 y σ1 σ2 H) (h3 : Tgt g3 z σ2 σ3 H) : Tgt (gTup K 3 (gCons g1 (gCons g2 (gCons g3 gNil)))) (.ref T) σ σ3 H := fun H2 e Q q =>
  ⟨T, [x, y, z], rfl, ex_t e h, rfl, x, [y, z], rfl, h1 H2 e _ ⟨y, [z], rfl, h2 H2 e _ ⟨z, [], rfl, h3 H2 e _ ⟨rfl, q⟩⟩⟩⟩
section
variable {K : PySem.W.Frag} {σ : L2.St} {H : Hp} {t : TT} {te : TE} {g : TG} {vs : List Nat} {a b : Addr} {xs ys : List V} {ta : TA}
theorem et_yes {σ : L2.St} {H : Hp} : EvT tYes σ H true := fun H1 _ _ q => q H1 (Ex.refl H1)
theorem el_lcLg {tl : TE} (f : Nat → Bool) (v : Nat → V) (h : Ev tl σ H (.ref a)) (hx : SqL K H a xs) (hz : xs.length ≤ 40000)
    (hs : ∀ (i : Nat) (x : V) Hb, Ex H Hb → xs[i]? = some x → ∃ σ2, Tgt g x (wipe σ vs) σ2 Hb ∧ wipe σ2 vs = wipe σ vs ∧ EvT t σ2 Hb (f i) ∧ (f i = true → Ev te σ2 Hb (v i))) :
    EvL (tLc (iList K tl) g t te vs) σ H (given xs.length f v) := fun H0 e Q q => h H0 e _ fun H1 e1 => ⟨a, rfl, ⟨xs, ex_l (e.trans e1) hx⟩, fun Dl hD =>
  lc_list (xs := xs) (Cw H1 f v Dl) ⟨hD, Ex.new hD, upd_same⟩ (fun i H' _ p => ex_l ((e.trans e1).trans p.2.1) hx) (fun i x H' hi p => by
    obtain ⟨σ2, h1, h2, h3, h4⟩ := hs i x H1 (e.trans e1) hi
    exact h1 H' p.2.1 _ ⟨h2, cw_turn2 p (by have := (List.getElem?_eq_some_iff.mp hi).1; omega) p.2.1 h3 h4⟩)
    (fun H' p => q Dl H' (fresh_back e1 p.1) (e1.trans p.2.1) p.2.2)⟩
theorem el_lcE (f : Nat → Bool) (v : Nat → V) (h : EvA ta σ H [.ref a]) (hx : SqL K H a xs) (hz : xs.length ≤ 40000)
    (hs : ∀ (i : Nat) (x : V) T Hb, Ex H Hb → xs[i]? = some x → Hb T = some (.tup [.int (i : Nat), x]) → ∃ σ2, Tgt g (.ref T) (wipe σ vs) σ2 Hb ∧ wipe σ2 vs = wipe σ vs ∧ EvT t σ2 Hb (f i) ∧ (f i = true → Ev te σ2 Hb (v i))) :
    EvL (tLc (iEnum K ta) g t te vs) σ H (given xs.length f v) := fun H0 e Q q => h H0 e _ fun H1 e1 => ⟨a, xs, rfl, ex_l (e.trans e1) hx, fun Dl hD => by
  refine ⟨fun i m H' => m = xs.length - i ∧ i ≤ xs.length ∧ Cw H1 f v Dl i H', ⟨xs.length, by simp, Nat.zero_le _, hD, Ex.new hD, upd_same⟩, ?_⟩
  rintro i m H' ⟨rfl, hi, p⟩
  have hX := ex_l ((e.trans e1).trans p.2.1) hx
  by_cases hlt : i < xs.length
  · refine .inr ⟨⟨xs, xs[i], hX, List.getElem?_eq_getElem hlt⟩, Cw H1 f v Dl (i + 1), fun H2 p' => ⟨xs.length - (i + 1), by omega, rfl, hlt, p'⟩, fun y H2 hy => ?_⟩
    obtain ⟨T, x, rfl, nT, rfl, hxx⟩ := hy
    have gi := hxx xs hX
    have eT : Ex H' (upd H' T (.tup [.int (i : Nat), x])) := Ex.new nT
    have hTD : T ≠ Dl := fun z => by rw [z, p.2.2] at nT; cases nT
    have p2 := cw_ex p eT
    obtain ⟨σ2, h1, h2, h3, h4⟩ := hs i x T (dropAt (upd H' T (.tup [.int (i : Nat), x])) Dl) (ex_drop (((e.trans e1).trans p.2.1).trans eT) (fresh_back (e.trans e1) p.1)) gi (drop_of upd_same hTD)
    exact h1 _ drop_ex _ ⟨h2, cw_turn2 p2 (by omega) drop_ex h3 h4⟩
  · have ei : i = xs.length := by omega
    subst ei
    exact .inl ⟨⟨xs, hX, Nat.le_refl _⟩, q Dl H' (fresh_back e1 p.1) (e1.trans p.2.1) p.2.2⟩⟩
theorem el_lcZ (f : Nat → Bool) (v : Nat → V) (h : EvA ta σ H [.ref a, .ref b]) (hx : SqL K H a xs) (hy : SqL K H b ys) (hl : xs.length = ys.length) (hz : xs.length ≤ 40000)
    (hs : ∀ (i : Nat) (x y : V) T Hb, Ex H Hb → xs[i]? = some x → ys[i]? = some y → Hb T = some (.tup [x, y]) → ∃ σ2, Tgt g (.ref T) (wipe σ vs) σ2 Hb ∧ wipe σ2 vs = wipe σ vs ∧ EvT t σ2 Hb (f i) ∧ (f i = true → Ev te σ2 Hb (v i))) :
    EvL (tLc (RZ.iZipA K ta) g t te vs) σ H (given xs.length f v) := fun H0 e Q q => h H0 e _ fun H1 e1 => ⟨a, b, xs, ys, rfl, .inl ⟨ex_l (e.trans e1) hx, ex_l (e.trans e1) hy, fun Dl hD => by
  refine ⟨fun i m H' => m = xs.length - i ∧ i ≤ xs.length ∧ Cw H1 f v Dl i H', ⟨xs.length, by simp, Nat.zero_le _, hD, Ex.new hD, upd_same⟩, ?_⟩
  rintro i m H' ⟨rfl, hi, p⟩
  have hX := ex_l ((e.trans e1).trans p.2.1) hx
  have hY := ex_l ((e.trans e1).trans p.2.1) hy
  by_cases hlt : i < xs.length
  · have hlt2 : i < ys.length := by omega
    refine .inr ⟨⟨xs, ys, xs[i], ys[i], hX, hY, List.getElem?_eq_getElem hlt, List.getElem?_eq_getElem hlt2⟩, Cw H1 f v Dl (i + 1), fun H2 p' => ⟨xs.length - (i + 1), by omega, rfl, hlt, p'⟩, fun z H2 hzz => ?_⟩
    obtain ⟨T, x, y, rfl, nT, rfl, hxx, hyy⟩ := hzz
    have eT : Ex H' (upd H' T (.tup [x, y])) := Ex.new nT
    have hTD : T ≠ Dl := fun z => by rw [z, p.2.2] at nT; cases nT
    have p2 := cw_ex p eT
    obtain ⟨σ2, h1, h2, h3, h4⟩ := hs i x y T (dropAt (upd H' T (.tup [x, y])) Dl) (ex_drop (((e.trans e1).trans p.2.1).trans eT) (fresh_back (e.trans e1) p.1)) (hxx xs hX) (hyy ys hY) (drop_of upd_same hTD)
    exact h1 _ drop_ex _ ⟨h2, cw_turn2 p2 (by omega) drop_ex h3 h4⟩
  · have ei : i = xs.length := by omega
    subst ei
    exact .inl ⟨⟨xs, ys, hX, hY, .inl (Nat.le_refl _)⟩, q Dl H' (fresh_back e1 p.1) (e1.trans p.2.1) p.2.2⟩⟩⟩
theorem el_lcZT (f : Nat → Bool) (v : Nat → V) (h : EvA ta σ H [.ref a, .ref b]) (hx : SqT K H a xs) (hy : SqT K H b ys) (hl : xs.length = ys.length) (hz : xs.length ≤ 40000)
    (hs : ∀ (i : Nat) (x y : V) T Hb, Ex H Hb → xs[i]? = some x → ys[i]? = some y → Hb T = some (.tup [x, y]) → ∃ σ2, Tgt g (.ref T) (wipe σ vs) σ2 Hb ∧ wipe σ2 vs = wipe σ vs ∧ EvT t σ2 Hb (f i) ∧ (f i = true → Ev te σ2 Hb (v i))) :
    EvL (tLc (RZ.iZipA K ta) g t te vs) σ H (given xs.length f v) := fun H0 e Q q => h H0 e _ fun H1 e1 => ⟨a, b, xs, ys, rfl, .inr ⟨ex_t (e.trans e1) hx, ex_t (e.trans e1) hy, fun Dl hD => by
  refine ⟨fun i m H' => m = xs.length - i ∧ i ≤ xs.length ∧ Cw H1 f v Dl i H', ⟨xs.length, by simp, Nat.zero_le _, hD, Ex.new hD, upd_same⟩, ?_⟩
  rintro i m H' ⟨rfl, hi, p⟩
  have hX := ex_t ((e.trans e1).trans p.2.1) hx
  have hY := ex_t ((e.trans e1).trans p.2.1) hy
  by_cases hlt : i < xs.length
  · have hlt2 : i < ys.length := by omega
    refine .inr ⟨⟨xs, ys, xs[i], ys[i], hX, hY, List.getElem?_eq_getElem hlt, List.getElem?_eq_getElem hlt2⟩, Cw H1 f v Dl (i + 1), fun H2 p' => ⟨xs.length - (i + 1), by omega, rfl, hlt, p'⟩, fun z H2 hzz => ?_⟩
    obtain ⟨T, x, y, rfl, nT, rfl, hxx, hyy⟩ := hzz
    have eT : Ex H' (upd H' T (.tup [x, y])) := Ex.new nT
    have hTD : T ≠ Dl := fun z => by rw [z, p.2.2] at nT; cases nT
    have p2 := cw_ex p eT
    obtain ⟨σ2, h1, h2, h3, h4⟩ := hs i x y T (dropAt (upd H' T (.tup [x, y])) Dl) (ex_drop (((e.trans e1).trans p.2.1).trans eT) (fresh_back (e.trans e1) p.1)) (hxx xs hX) (hyy ys hY) (drop_of upd_same hTD)
    exact h1 _ drop_ex _ ⟨h2, cw_turn2 p2 (by omega) drop_ex h3 h4⟩
  · have ei : i = xs.length := by omega
    subst ei
    exact .inl ⟨⟨xs, ys, hX, hY, .inl (Nat.le_refl _)⟩, q Dl H' (fresh_back e1 p.1) (e1.trans p.2.1) p.2.2⟩⟩⟩
end

end Su
namespace Su
/-! ### data as a whole: _law_same of two alike -/
mutual
theorem dp_ex {K : PySem.W.Frag} {H H' : Hp} (e : Ex H H') : ∀ {x : V} {d : PyData}, Dp K H x d → Dp K H' x d
  | _, _, .non => .non
  | _, _, .bl b => .bl b
  | _, _, .int i => .int i
  | _, _, .str x => .str x
  | _, _, .lst h1 h2 => .lst (ex_l e h1) (dpa_ex e h2)
  | _, _, .tup h1 h2 => .tup (ex_t e h1) (dpa_ex e h2)
theorem dpa_ex {K : PySem.W.Frag} {H H' : Hp} (e : Ex H H') : ∀ {xs : List V} {ds : List PyData}, DpAll K H xs ds → DpAll K H' xs ds
  | _, _, .nil => .nil
  | _, _, .cons h1 h2 => .cons (dp_ex e h1) (dpa_ex e h2)
end
theorem dpa_len {K : PySem.W.Frag} {H : Hp} : ∀ {xs : List V} {ds : List PyData}, DpAll K H xs ds → xs.length = ds.length
  | _, _, .nil => rfl
  | _, _, .cons _ h2 => by rw [List.length_cons, List.length_cons, dpa_len h2]
theorem dpa_get {K : PySem.W.Frag} {H : Hp} : ∀ {xs : List V} {ds : List PyData} {i : Nat} {x : V}, DpAll K H xs ds → xs[i]? = some x → ∃ d, ds[i]? = some d ∧ Dp K H x d
  | _, _, _, _, .nil, e => by simp at e
  | _, _, 0, _, .cons h _, e => by simp at e; subst e; exact ⟨_, rfl, h⟩
  | _, _, i + 1, x, .cons _ h2, e => by
    obtain ⟨d, h1, h3⟩ := dpa_get (i := i) (x := x) h2 (by simpa using e)
    exact ⟨d, by simpa using h1, h3⟩
theorem dpa_of {K : PySem.W.Frag} {H : Hp} {α : Type} (f : α → V) (g : α → PyData) : ∀ l : List α, (∀ a ∈ l, Dp K H (f a) (g a)) → DpAll K H (l.map f) (l.map g)
  | [], _ => .nil
  | a :: r, h => .cons (h a List.mem_cons_self) (dpa_of f g r fun b hb => h b (List.mem_cons_of_mem _ hb))
def tyN : PyData → String
  | .none => "NoneType" | .bool _ => "bool" | .int _ => "int" | .str _ => "str" | .list _ => "list" | .tuple _ => "tuple" | .dict _ => "dict"
theorem ty_dp {K : PySem.W.Frag} {H : Hp} {x : V} {d : PyData} (h : Dp K H x d) : TyX K H x (.type (tyN d)) := by
  cases h with
  | non => exact .base .non
  | bl b => exact .base (.bl b)
  | int i => exact .base (.int i)
  | str s => exact .base (.str s)
  | lst h1 _ =>
    rcases h1 with (h1 | ⟨o, h1⟩) | ⟨o, its, n, h1, h2, _⟩
    · exact .base (.lst h1)
    · exact .base (.frz h1)
    · exact .kList h1 h2
  | tup h1 _ =>
    rcases h1 with (h1 | ⟨o, h1⟩) | ⟨o, its, n, h1, h2, _⟩
    · exact .base (.tup h1)
    · exact .fTuple h1
    · exact .kTuple h1 h2
theorem rc_isi_dp {K : PySem.W.Frag} {H : Hp} {x : V} {d : PyData} {n : String} {b : Bool} (h : Dp K H x d) (hk : kitB (tyN d) n = some b) : RC (rIsi K) [x, .ty n] H (.bl b) :=
  fun H1 e _ q => ⟨x, .ty n, .type (tyN d), .type n, b, rfl, .ty n, ty_dp (dp_ex e h), kit_ty hk, q H1 (Ex.refl H1)⟩
theorem kit_tab {t m : String} (ht : t = "NoneType" ∨ t = "bool" ∨ t = "int" ∨ t = "str" ∨ t = "list" ∨ t = "tuple") (hm : m = "bool" ∨ m = "int" ∨ m = "list" ∨ m = "tuple" ∨ m = "str") : ∃ b, kitB t m = some b := by
  rcases ht with rfl | rfl | rfl | rfl | rfl | rfl <;> rcases hm with rfl | rfl | rfl | rfl | rfl <;> first | exact ⟨true, by decide +kernel⟩ | exact ⟨false, by decide +kernel⟩
/-- data of ints, texts, None, bools, lists and tuples, n deep -/
inductive PlD : Nat → PyData → Prop
  | non {n : Nat} : PlD n .none
  | bool {n : Nat} (b : Bool) : PlD n (.bool b)
  | int {n : Nat} (i : Int) : PlD n (.int i)
  | str {n : Nat} (x : Str) : PlD n (.str x)
  | list {n : Nat} {xs : List PyData} : xs.length ≤ 1000 → (∀ x ∈ xs, PlD n x) → PlD (n + 1) (.list xs)
  | tuple {n : Nat} {xs : List PyData} : xs.length ≤ 1000 → (∀ x ∈ xs, PlD n x) → PlD (n + 1) (.tuple xs)
theorem PlD.ty {n : Nat} {d : PyData} (h : PlD n d) : tyN d = "NoneType" ∨ tyN d = "bool" ∨ tyN d = "int" ∨ tyN d = "str" ∨ tyN d = "list" ∨ tyN d = "tuple" := by
  cases h <;> simp [tyN]
theorem given_all {n : Nat} {v : V} : given n (fun _ => true) (fun _ => v) = List.replicate n v := by
  induction n with
  | zero => rfl
  | succ n ih => rw [given_yes rfl, ih, List.replicate_succ']
theorem all_rep (n : Nat) : (List.replicate n true).all id = true := by
  induction n with
  | zero => rfl
  | succ n ih => rw [List.replicate_succ, List.all_cons, ih]; rfl
section
variable {P : Program} {w : World} {K : PySem.W.Frag} {mg : Str → Option Value} {base : Heap}
theorem ev_isi {σ : L2.St} {H : Hp} {ta tb : TE} {x : V} {d : PyData} {n : String} {b : Bool} (ha : Ev ta σ H x) (hb : Ev tb σ H (.ty n)) (h : Dp K H x d) (hk : kitB (tyN d) n = some b) : Ev (tCB (rIsi K) (tCons ta (tCons tb tNil))) σ H (.bl b) := ev_cb (ea_cons ha (ea_cons hb ea_nil)) (rc_isi_dp h hk)
theorem ev_allT {σ : L2.St} {H : Hp} {te : TE} {n : Nat} (h : EvL te σ H (List.replicate n (V.bl true))) : Ev (tCB (rAll K) (tCons te tNil)) σ H (.bl true) := fun H1 e Q q =>
  h H1 e _ fun p H2 _ e2 h2 => ⟨p, List.replicate n true, rfl, sq_of (by rw [List.map_replicate]; exact h2), by rw [all_rep]; exact q H2 e2⟩
theorem rv_sc {H : Hp} {x : V} (h : scal x x = true) : RV rEq x x H (.bl true) := fun H1 e Q q => ⟨h, by rw [decide_eq_true rfl]; exact q H1 (Ex.refl H1)⟩
theorem rv_neb {H : Hp} {b : Bool} : RV rNe (.bl b) (.bl b) H (.bl false) := fun H1 e Q q => ⟨by cases b <;> rfl, by rw [decide_eq_true rfl]; exact q H1 (Ex.refl H1)⟩
end

end Su
namespace Su
/-! ### own exceptions: X(), except .. as e, isinstance(e, ..) -/
section
variable {X : Cx} {C : Addr} {bmB : List Value} {B newId initId : String}
theorem pmk_own0 {x : Str} {p pos : Pos} (F : ExcBaseFacts B newId initId bmB) (q : PySem.W.excIn X.K C bmB newId = true) (gC : X.mg x = some (.ref C)) (kC : PySem.W.keepIn X.K (.ref C) = true) (r : Raises X (.ref C)) (hg : Gl X x)
    (hdb : (x == ("__debug__" : Str)) = false := by decide) : PMk X (.Call (.Name x p) [] [] pos) (fun _ H Q => Q (.ref C) none H) := by
  intro pins s σ H Q I h
  refine wpAny_Call_Name_kw (ld_glob I hg gC ?_ hdb)
  refine PySem.W.callWith_K0 I.kIn kC ?_
  obtain ⟨bm, N, nm, qn, bs, hdct, sn, sub, ab, col, dd, k0, k1, k2, k3, k5, mN, hC, hN, hni, T⟩ := exc_obj I.kIn q
  refine wpAny_call_exc_subT F T hC hN hni (fun h' e hm => ?_) (Nat.zero_le _)
  exact mk_of I hm r h (I.hok.gone hm.new)
theorem pss_ex {ι : Type} {Pi : ι → Prop} {st : List Stmt} {t : ι → TS} (h : ∀ i, Pi i → PSs X st (t i)) : PSs X st (fun D σ H => ∃ i, Pi i ∧ t i D σ H) := ⟨fun pins s σ H D I ⟨i, hp, ht⟩ => (h i hp).run pins s σ H D I ht⟩
end
theorem rc_isE {K : PySem.W.Frag} {D a C : Addr} {H : Hp} {b : Bool} (h : PySem.W.kitOne K (.ref D) (.ref C) = some b) : RC (rIsE K D a) [.ref a, .ref C] H (.bl b) := fun H1 _ _ q => ⟨.ref C, .ref C, b, rfl, fun _ r => r, h, q H1 (Ex.refl H1)⟩
theorem rc_isEt {K : PySem.W.Frag} {D a : Addr} {n : String} {H : Hp} {b : Bool} (h : PySem.W.kitOne K (.ref D) (.type n) = some b) : RC (rIsE K D a) [.ref a, .ty n] H (.bl b) := fun H1 _ _ q => ⟨.ty n, .type n, b, rfl, fun _ r => r, h, q H1 (Ex.refl H1)⟩
def boolD (bs : List Bool) : PyData := .list (bs.map .bool)
theorem dp_bools {K : PySem.W.Frag} {H : Hp} {l : Addr} {bs : List Bool} (hl : SqL K H l (bs.map V.bl)) : Dp K H (.ref l) (boolD bs) := .lst hl (dpa_of V.bl PyData.bool bs fun i _ => .bl i)
theorem rv_eqDD {K : PySem.W.Frag} {H : Hp} {x y : V} {d e : PyData} {b : Bool} (h1 : Dp K H x d) (h2 : Dp K H y e) (hs : SeqAt.shaped d = true) (hs2 : SeqAt.shaped e = true) (hb : PyData.eqv d e = b) : RV (rEqD K) x y H (.bl b) := fun H1 ex Q q =>
  ⟨d, e, dp_ex ex h1, dp_ex ex h2, hs, hs2, by rw [hb]; exact q H1 (Ex.refl H1)⟩
theorem rv_neDD {K : PySem.W.Frag} {H : Hp} {x y : V} {d e : PyData} {b : Bool} (h1 : Dp K H x d) (h2 : Dp K H y e) (hs : SeqAt.shaped d = true) (hs2 : SeqAt.shaped e = true) (hb : PyData.eqv d e = !b) : RV (rNeD K) x y H (.bl b) := fun H1 ex Q q =>
  ⟨d, e, dp_ex ex h1, dp_ex ex h2, hs, hs2, by rw [hb, Bool.not_not]; exact q H1 (Ex.refl H1)⟩

end Su
namespace Su
/-! ### for i, x in enumerate(xs) -/
theorem s_forE {K : PySem.W.Frag} {a : Addr} {xs : List V} {g : TG} {tb : TS} {D : Ends} {σ : L2.St} {H : Hp} {ta : TA} (h : EvA ta σ H [.ref a]) (hx : SqL K H a xs) (Pv : Nat → L2.St → Hp → Prop) (h0 : ∀ H1, Ex H H1 → Pv 0 σ H1) (hl : ∀ i σ' H', i ≤ xs.length → Pv i σ' H' → SqL K H' a xs)
    (hs : ∀ i x T σ' Hc, xs[i]? = some x → Pv i σ' Hc → Hc T = none → ∃ σ2, Tgt g (.ref T) σ' σ2 (upd Hc T (.tup [.int (i : Nat), x])) ∧ tb { D with nx := Pv (i + 1), ct := Pv (i + 1), bk := D.nx } σ2 (upd Hc T (.tup [.int (i : Nat), x])))
    (hd : ∀ σ' H', Pv xs.length σ' H' → D.nx σ' H') : tFor (iEnum K ta) g tb D σ H :=
  h H (Ex.refl H) _ fun H1 e1 => ⟨a, xs, rfl, ex_l e1 hx, by
    refine ⟨fun i m σ' H' => m = xs.length - i ∧ i ≤ xs.length ∧ Pv i σ' H', ⟨xs.length, by simp, Nat.zero_le _, h0 H1 e1⟩, ?_⟩
    rintro i m σ' H' ⟨rfl, hi, p⟩
    have hX := hl i σ' H' hi p
    by_cases hlt : i < xs.length
    · refine .inr ⟨⟨xs, xs[i], hX, List.getElem?_eq_getElem hlt⟩, Pv (i + 1), fun σ2 H2 p' => ⟨xs.length - (i + 1), by omega, rfl, hlt, p'⟩, fun y H2 hy => ?_⟩
      obtain ⟨T, x, rfl, nT, rfl, hxx⟩ := hy
      obtain ⟨σ2, h1, h2⟩ := hs i x T σ' H' (hxx xs hX) p nT
      exact h1 _ (Ex.refl _) _ h2
    · have ei : i = xs.length := by omega
      subst ei
      exact .inl ⟨⟨xs, hX, Nat.le_refl _⟩, hd σ' H' p⟩⟩

end Su
namespace Su
theorem lay_of_shaped {d : PyData} (h : SeqAt.shaped d = true) : d.canLay0 = true := (Bool.and_eq_true_iff.mp h).1
/-- two lists of windows that are alike -/
theorem rv_neD {K : PySem.W.Frag} {H : Hp} {x y : V} {d : PyData} (h1 : Dp K H x d) (h2 : Dp K H y d) (hs : SeqAt.shaped d = true) : RV (rNeD K) x y H (.bl false) := fun H1 e Q q =>
  ⟨d, d, dp_ex e h1, dp_ex e h2, hs, hs, by rw [SeqAt.eqv_refl d (lay_of_shaped hs)]; exact q H1 (Ex.refl H1)⟩
theorem rv_eqD {K : PySem.W.Frag} {H : Hp} {x y : V} {d : PyData} (h1 : Dp K H x d) (h2 : Dp K H y d) (hs : SeqAt.shaped d = true) : RV (rEqD K) x y H (.bl true) := fun H1 e Q q =>
  ⟨d, d, dp_ex e h1, dp_ex e h2, hs, hs, by rw [SeqAt.eqv_refl d (lay_of_shaped hs)]; exact q H1 (Ex.refl H1)⟩
def intD (ns : List Int) : PyData := .list (ns.map .int)
theorem dp_ints {K : PySem.W.Frag} {H : Hp} {l : Addr} {ns : List Int} (hl : SqL K H l (ns.map V.int)) : Dp K H (.ref l) (intD ns) := .lst hl (dpa_of V.int PyData.int ns fun i _ => .int i)
theorem pl_ints {ns : List Int} (h : ns.length ≤ 1000) : PlD 1 (intD ns) := .list (by rw [List.length_map]; exact h) fun x hx => by
  obtain ⟨i, _, rfl⟩ := List.mem_map.mp hx
  exact .int i
theorem shaped_ints (ns : List Int) : SeqAt.shaped (intD ns) = true := by
  have h1 : ∀ l : List Int, PyData.canLayAll0 (l.map .int) = true := by
    intro l
    induction l with
    | nil => simp [PyData.canLayAll0]
    | cons a r ih => simp [PyData.canLayAll0, PyData.canLay0, ih]
  have h2 : ∀ l : List Int, PyData.depthAll (l.map .int) = 0 := by
    intro l
    induction l with
    | nil => simp [PyData.depthAll]
    | cons a r ih => simp [PyData.depthAll, PyData.depth, ih]
  unfold SeqAt.shaped intD
  rw [Bool.and_eq_true]
  refine ⟨?_, ?_⟩
  · simp only [PyData.canLay0]
    exact h1 ns
  · simp only [PyData.depth]
    have := h2 ns
    exact decide_eq_true (by omega)

end Su
namespace Su
/-! ### windows: a list of pairs -/
abbrev Win := Addr × Int × Int
def refs (qs : List Win) : List V := qs.map fun q => V.ref q.1
def TW (H : Hp) (qs : List Win) : Prop := ∀ q ∈ qs, H q.1 = some (.tup [.int q.2.1, .int q.2.2])
theorem TW.ex {H H' : Hp} {qs : List Win} (h : TW H qs) (e : Ex H H') : TW H' qs := fun q hq => e _ _ (h q hq)
theorem TW.upd {H : Hp} {qs : List Win} {p : Addr} {xs ys : List V} (h : TW H qs) (hp : H p = some (.lst xs)) : TW (upd H p (.lst ys)) qs := fun q hq => by
  rw [upd_ne (ne_of (h q hq) hp (fun z => nomatch z))]
  exact h q hq
theorem TW.nil {H : Hp} : TW H [] := fun q hq => absurd hq List.not_mem_nil
theorem TW.add {H : Hp} {qs : List Win} {q : Win} (h : TW H qs) (hq : H q.1 = some (.tup [.int q.2.1, .int q.2.2])) : TW H (qs ++ [q]) := fun r hr => by
  rcases List.mem_append.mp hr with h' | h'
  · exact h r h'
  · obtain rfl := List.mem_singleton.mp h'
    exact hq
theorem refs_at {qs : List Win} {i : Nat} {x : V} (h : (refs qs)[i]? = some x) : ∃ q, qs[i]? = some q ∧ x = .ref q.1 := by
  unfold refs at h
  rw [List.getElem?_map] at h
  cases hc : qs[i]? with
  | none => rw [hc] at h; cases h
  | some c => rw [hc] at h; exact ⟨c, rfl, (Option.some.inj h).symm⟩
theorem refs_len {qs : List Win} : (refs qs).length = qs.length := List.length_map _
/-- windows[i][0], windows[i][1] -/
theorem ev_win {K : PySem.W.Frag} {ta tb : TE} {σ : L2.St} {H : Hp} {l : Addr} {qs : List Win} {i : Nat} {q : Win} (ha : Ev ta σ H (.ref l)) (hb : Ev tb σ H (.int (i : Nat))) (hl : SqL K H l (refs qs)) (hq : qs[i]? = some q) : Ev (tOp (rIxL K) ta tb) σ H (.ref q.1) :=
  ev_op ha hb (rv_ixL hl (atI_nat (by unfold refs; rw [List.getElem?_map, hq]; rfl)))
theorem ev_w0 {K : PySem.W.Frag} {ta : TE} {σ : L2.St} {H : Hp} {q : Win} (ha : Ev ta σ H (.ref q.1)) (hq : H q.1 = some (.tup [.int q.2.1, .int q.2.2])) : Ev (tOp (rIxT K) ta (tC (.int 0))) σ H (.int q.2.1) := ev_op ha ev_c (rv_ixT (st_of hq) rfl)
theorem ev_w1 {K : PySem.W.Frag} {ta : TE} {σ : L2.St} {H : Hp} {q : Win} (ha : Ev ta σ H (.ref q.1)) (hq : H q.1 = some (.tup [.int q.2.1, .int q.2.2])) : Ev (tOp (rIxT K) ta (tC (.int 1))) σ H (.int q.2.2) := ev_op ha ev_c (rv_ixT (st_of hq) rfl)
def winD (qs : List Win) : PyData := .list (qs.map fun q => .tuple [.int q.2.1, .int q.2.2])
theorem dp_win {K : PySem.W.Frag} {H : Hp} {l : Addr} {qs : List Win} (hl : SqL K H l (refs qs)) (ht : TW H qs) : Dp K H (.ref l) (winD qs) :=
  .lst hl (dpa_of (fun q : Win => V.ref q.1) (fun q => .tuple [.int q.2.1, .int q.2.2]) qs fun q hq => .tup (st_of (ht q hq)) (.cons (.int _) (.cons (.int _) .nil)))
theorem shaped_win (qs : List Win) : SeqAt.shaped (winD qs) = true := by
  have h1 : ∀ l : List Win, PyData.canLayAll0 (l.map fun q => .tuple [.int q.2.1, .int q.2.2]) = true := by
    intro l
    induction l with
    | nil => simp [PyData.canLayAll0]
    | cons a r ih => simp [PyData.canLayAll0, PyData.canLay0, ih]
  have h2 : ∀ l : List Win, PyData.depthAll (l.map fun q => .tuple [.int q.2.1, .int q.2.2]) ≤ 1 := by
    intro l
    induction l with
    | nil => simp [PyData.depthAll]
    | cons a r ih =>
      simp only [List.map_cons, PyData.depthAll, PyData.depth]
      omega
  unfold SeqAt.shaped winD
  rw [Bool.and_eq_true]
  refine ⟨?_, ?_⟩
  · simp only [PyData.canLay0]
    exact h1 qs
  · simp only [PyData.depth]
    have := h2 qs
    exact decide_eq_true (by omega)

end Su
namespace Su
def insB (ws : List (Int × Int)) (a b : Int) (i : Nat) : Bool := match ws[i]? with
  | some w => decide (a ≤ w.1) && decide (w.2 ≤ b)
  | none => false
def inside (ws : List (Int × Int)) (a b : Int) : List Int := ((List.range ws.length).filter (insB ws a b)).map fun i : Nat => (i : Int)
theorem inside_given (ws : List (Int × Int)) (a b : Int) : (inside ws a b).map V.int = given ws.length (insB ws a b) fun i => .int (i : Nat) := by
  unfold inside given
  rw [List.map_map]
  rfl
theorem inside_len (ws : List (Int × Int)) (a b : Int) : (inside ws a b).length ≤ ws.length := by
  unfold inside
  rw [List.length_map]
  have h := List.length_filter_le (insB ws a b) (List.range ws.length)
  rw [List.length_range] at h
  exact h
def wsOf (qs : List Win) : List (Int × Int) := qs.map (·.2)
theorem ws_at {qs : List Win} {i : Nat} {q : Win} (h : qs[i]? = some q) : (wsOf qs)[i]? = some q.2 := by unfold wsOf; rw [List.getElem?_map, h]; rfl
theorem ws_len {qs : List Win} : (wsOf qs).length = qs.length := List.length_map _

end Su
namespace Su
/-! ### enumerate(list, start=k) -/
section
variable {M : Model} {A : Around} {E : Value → Shared → Prop} {s : Shared} {env : Env}
theorem callWith_type_kw {pos : Pos} {T : String} {e : Expr} {rest : List Expr} {kws : List Keyword} {Q : Value → Shared → Prop}
    (h : wpAny M A (spliced (backTo pos (starEach (e :: rest) env))) (fun vs s₁ => wpAny M A (evalAll ((backToKw pos (keywordEach kws env)).map (·.2)))
      (fun kvs s₂ => wpAny M A (call (.type T) vs (((backToKw pos (keywordEach kws env)).filterMap (·.1)).zip kvs)) Q E s₂) E s₁) E s)
    (he : backTo pos (starEach (e :: rest) env) = (false, eval e env) :: backTo pos (starEach rest env) := by rfl)
    (hplain : (backTo pos (starEach (e :: rest) env)).any (·.1) = false := by rfl)
    (hall : (backToKw pos (keywordEach kws env)).all (·.1.isSome) = true := by rfl)
    (hkw : (backToKw pos (keywordEach kws env)).any (·.1.isNone) = false := by rfl) :
    wpAny M A (callWith pos (.type T) [] (backTo pos (starEach (e :: rest) env)) (backToKw pos (keywordEach kws env))) Q E s := by
  have h2 : wpAny M A (evalArgs (.type T) true (backTo pos (starEach (e :: rest) env)) (backToKw pos (keywordEach kws env))) (fun a s₁ => wpAny M A (call (.type T) ([] ++ a.pos) a.kw) Q E s₁) E s := by
    rw [he] at h ⊢
    exact evalArgs_kwB hall h
  unfold callWith
  refine wpAny_bind (wpAny_holding (wpAny_mono h2 (fun a s₁ h₁ => wpAny_bind (wpAny_standAt ?_)) fun _ _ x => x))
  simp only [hplain, hkw, Bool.or_false]
  refine wpAny_bind (wpAny_pure ?_)
  exact wpAny_bind (wpAny_mono h₁ (fun r s₂ hr => wpAny_bind (wpAny_holding (wpAny_point (wpAny_pure hr)))) fun _ _ x => x)
end
/-- the list at a as it stands at each turn, each item in a new pair with its place counted from k -/
def IteK (K : PySem.W.Frag) (k : Int) (a : Addr) : It :=
  ⟨fun i H => ∃ (xs : List V) (x : V), SqL K H a xs ∧ xs[i]? = some x, fun i H v H' => ∃ T x, v = .ref T ∧ H T = none ∧ H' = upd H T (.tup [.int (k + (i : Nat)), x]) ∧ ∀ xs, SqL K H a xs → xs[i]? = some x, fun i H => ∃ xs : List V, SqL K H a xs ∧ xs.length = i⟩
theorem turn_enumK {P : Program} {w : World} {K : PySem.W.Frag} {elts : List Expr} {kk : Nat} {tpos : Pos} (k : Int) (a e it : Addr) (hai : a ≠ it) (hea : e ≠ a) :
    Turn P w K (.Tuple elts kk tpos) (IteK K k a) [e, it] e (fun i h => (∃ old, IsEnum h e it (k + ((i : Nat) : Int)) old) ∧ h.IsListIter it a i ∧ e ≠ it) where
  mem := by simp
  obj := fun i h st b hb => by
    obtain ⟨⟨old, he⟩, ⟨o, ho, hc, hd⟩, _⟩ := st
    rcases List.mem_cons.mp hb with z | z
    · rw [z]; exact ⟨_, he, fun v q => nomatch q⟩
    · rw [List.mem_singleton.mp z]; exact ⟨o, ho, fun v q => by rw [hd] at q; cases q⟩
  keep := fun i h h' st c => let ⟨⟨old, he⟩, hi, hne⟩ := st; ⟨⟨old, c e (by simp) _ he⟩, hi.at fun o q => c it (by simp) o q, hne⟩
  item := by
    intro X hP hw hK hc i pins s σ H E I hf st hg
    subst hP hw hK
    obtain ⟨⟨old, he⟩, hit, hne⟩ := st
    obtain ⟨xs, x, hq, hx⟩ := hg
    obtain ⟨its, rv, p, hz⟩ := I.list hq
    obtain ⟨u, hu, ru⟩ := rv.get hx
    have hel : e < s.heap.objs.size := Heap.lt_size he
    have hil : it < s.heap.objs.size := by obtain ⟨_, q, _⟩ := hit; exact Heap.lt_size q
    have hlt : i < its.toArray.size := by
      have := (List.getElem?_eq_some_iff.mp hu).1
      simpa using this
    refine wpAny_pyNext_enum_itemC (Draws.list (A := X.A.in1) (show X.A.in1.handled = none from I.ok.hd hc) it a hai its.toArray) he ⟨hit, p.isList⟩ hlt hne (by
      intro z
      rcases List.mem_cons.mp z with z | z
      · exact hne z
      · exact hea (List.mem_singleton.mp z)) fun y h' tk hy ho hst hT hsz hk => ?_
    have hy : its.toArray[i]? = some y := hy
    obtain rfl : u = y := by
      have h2 : its[i]? = some y := by simpa using hy
      exact Option.some.inj (hu.symm.trans h2)
    refine ⟨_, rfl, wpAny_letOwnedTupleGo_enum (s := { s with heap := h', toks := tk + 1 }) ho fun h'' he' sb => ?_⟩
    have hT2 : h''.get? s.heap.objs.size = some { cls := .type "tuple", data := .seq #[.int (k + ((i : Nat) : Int)) tk, u] } := (sb.2 _ (Nat.ne_of_gt hel)).trans hT
    have new : ObjOk X.prog X.w (upd H s.heap.objs.size (.tup [.int (k + (i : Nat)), x])) h'' s.heap.objs.size (.tup [.int (k + (i : Nat)), x]) :=
      ⟨by show 2 ≤ sizeLine; decide, [.int (k + ((i : Nat) : Int)) tk, u], .cons ⟨_, rfl⟩ (.cons ru .nil), ⟨_, hT2, rfl, _, rfl⟩⟩
    have I1 : Inv X pins σ (upd H s.heap.objs.size (.tup [.int (k + (i : Nat)), x])) { s with heap := h'', toks := tk + 1 } :=
      I.turnedNew (ch := [e, it]) (fun b ob hb q => (sb.2 b (fun z => hb (by simp [z]))).trans (hk b ob (fun z => hb (by simp [z])) (fun z => hb (by simp [z])) q)) hf (Nat.le_refl _) new
    refine ⟨.ref s.heap.objs.size, _, I1, rfl, ⟨_, x, rfl, I.hok.fresh (Nat.le_refl _), rfl, fun ys hy => by rw [I.list_inj hy hq]; exact hx⟩, ⟨⟨u, ?_⟩, hst.1.at fun o q => (sb.2 it (Ne.symm hne)).trans q, hne⟩, fun b hb => ?_⟩
    · have e1 : k + ((i + 1 : Nat) : Int) = k + (i : Int) + 1 := by omega
      rw [e1]; exact he'
    · have hb' : b < s.heap.objs.size := by
        rcases List.mem_cons.mp hb with z | z
        · rw [z]; exact hel
        · rw [List.mem_singleton.mp z]; exact hil
      rw [upd_ne (Nat.ne_of_lt hb')]
      exact (hf b hb).1
  done := by
    intro X hP hw hK hc i pins s σ H E I hf st hg
    subst hP hw hK
    obtain ⟨⟨old, he⟩, hit, hne⟩ := st
    obtain ⟨xs, hq, hx⟩ := hg
    obtain ⟨its, rv, p, hz⟩ := I.list hq
    obtain ⟨f0, f1, f2, f3, f4, f5⟩ := hf it (by simp)
    have hl := rv.length
    have hi : i = its.toArray.size := by simp; omega
    subst hi
    exact wpAny_pyNext_enum_endD (Draws.list (A := X.A.in1) (show X.A.in1.handled = none from I.ok.hd hc) it a hai its.toArray) he ⟨hit, p.isList⟩ fun h' eb => ⟨rfl, I.turned (t' := s.toks) (fun b o hb q => eb b o hb q) f0 f1 f3 f4 f5⟩
  self := fun A i s Q E st h => let ⟨⟨_, he⟩, _⟩ := st; wpAny_pyIter_enum he h
def iEnumK (K : PySem.W.Frag) (ta tk : TA) : TI := fun σ H R => ta σ H fun vs H1 => tk σ H1 fun zs H2 => ∃ (a : Addr) (xs : List V) (k : Int), vs = [.ref a] ∧ zs = [.int k] ∧ -(2 ^ 63) ≤ k ∧ k < 2 ^ 63 ∧ SqL K H2 a xs ∧ R (IteK K k a) H2
theorem pi_enumK {X : Cx} {e : Expr} {ta tk : TA} {kws : List Keyword} {p pos tpos : Pos} {elts : List Expr} {kk : Nat} (hg : Gl X "enumerate") (hm : X.mg "enumerate" = none) (ha : PA X [e] ta) (hk : PK X kws tk)
    (he : backTo pos (starEach [e] X.env) = (false, eval e X.env) :: backTo pos (starEach [] X.env) := by rfl) (hpl : (backTo pos (starEach [e] X.env)).any (·.1) = false := by rfl)
    (hall : (backToKw pos (keywordEach kws X.env)).all (·.1.isSome) = true := by rfl) (hnone : (backToKw pos (keywordEach kws X.env)).any (·.1.isNone) = false := by rfl) (hks : (backToKw pos (keywordEach kws X.env)).filterMap (·.1) = [Str.ofString "start"] := by rfl) :
    PI X (.Tuple elts kk tpos) (.Call (.Name "enumerate" p) [e] kws pos) (iEnumK X.K ta tk) := by
  refine ⟨fun pins s σ H R I h => ?_⟩
  refine wpAny_Call_Name_kw (ld_blt I hg hm boot_enumerate ?_)
  refine callWith_type_kw (thn (ha.run pos pins s σ H _ I h) fun us s1 ⟨vs, H1, I1, r1, q1⟩ => thn (hk.run pos pins s1 σ H1 _ I1 q1) fun ws s2 ⟨zs, H2, I2, r2, q2⟩ => ?_) he hpl hall hnone
  rw [hks]
  obtain ⟨a, xs, k, ev, ez, k0, k1, hq, q⟩ := q2
  subst ev ez
  cases r1 with
  | cons r rr =>
    cases rr
    cases r
    cases r2 with
    | cons r' rr' =>
      cases rr'
      obtain ⟨t, rfl⟩ := r'
      obtain ⟨its, rv, p', hz⟩ := I2.list hq
      have hal : a < s2.heap.objs.size := by obtain ⟨_, z, _⟩ := p'.isList; exact Heap.lt_size z
      refine enum_begins_start (begins_list a its.toArray) p'.isList k0 k1 fun h' he hit hsz hk => wpAny_pyIter_enum he ?_
      have I3 : Inv X pins σ H2 { s2 with heap := h' } := I2.kept (t' := s2.toks) hk
      refine ⟨s2.heap.objs.size + 1, [s2.heap.objs.size + 1, s2.heap.objs.size], _, _, H2, rfl, I3, turn_enumK k a (s2.heap.objs.size + 1) s2.heap.objs.size (Nat.ne_of_lt hal) (Nat.ne_of_gt (Nat.lt_succ_of_lt hal)), ⟨⟨.none, by show IsEnum h' _ _ (k + 0) _; rw [Int.add_zero]; exact he⟩, ⟨_, hit, rfl, rfl⟩, Nat.succ_ne_self _⟩, fun b hb => ?_, q⟩
      have hle : s2.heap.objs.size ≤ b := by
        rcases List.mem_cons.mp hb with z | z
        · rw [z]; exact Nat.le_add_right _ _
        · rw [List.mem_singleton.mp z]; exact Nat.le_refl _
      exact I2.fpOk hle (I2.hok.fresh hle)

end Su
namespace Su
section
variable {K : PySem.W.Frag} {σ : L2.St} {H : Hp} {t : TT} {te : TE} {g : TG} {vs : List Nat} {a : Addr} {xs : List V} {ta tk : TA}
theorem el_lcEK {k : Int} (f : Nat → Bool) (v : Nat → V) (h : EvA ta σ H [.ref a]) (hk : EvA tk σ H [.int k]) (hk0 : -(2 ^ 63) ≤ k) (hk1 : k < 2 ^ 63) (hx : SqL K H a xs) (hz : xs.length ≤ 40000)
    (hs : ∀ (i : Nat) (x : V) T Hb, Ex H Hb → xs[i]? = some x → Hb T = some (.tup [.int (k + (i : Nat)), x]) → ∃ σ2, Tgt g (.ref T) (wipe σ vs) σ2 Hb ∧ wipe σ2 vs = wipe σ vs ∧ EvT t σ2 Hb (f i) ∧ (f i = true → Ev te σ2 Hb (v i))) :
    EvL (tLc (iEnumK K ta tk) g t te vs) σ H (given xs.length f v) := fun H0 e0 Q q => h H0 e0 _ fun H00 e00 => hk H00 (e0.trans e00) _ fun H1 e01 => by
  have e := (e0.trans e00).trans e01
  refine ⟨a, xs, k, rfl, rfl, hk0, hk1, ex_l e hx, fun Dl hD => ?_⟩
  refine ⟨fun i m H' => m = xs.length - i ∧ i ≤ xs.length ∧ Cw H1 f v Dl i H', ⟨xs.length, by simp, Nat.zero_le _, hD, Ex.new hD, upd_same⟩, ?_⟩
  rintro i m H' ⟨rfl, hi, p⟩
  have hX := ex_l (e.trans p.2.1) hx
  by_cases hlt : i < xs.length
  · refine .inr ⟨⟨xs, xs[i], hX, List.getElem?_eq_getElem hlt⟩, Cw H1 f v Dl (i + 1), fun H2 p' => ⟨xs.length - (i + 1), by omega, rfl, hlt, p'⟩, fun y H2 hy => ?_⟩
    obtain ⟨T, x, rfl, nT, rfl, hxx⟩ := hy
    have gi := hxx xs hX
    have eT : Ex H' (upd H' T (.tup [.int (k + (i : Nat)), x])) := Ex.new nT
    have hTD : T ≠ Dl := fun z => by rw [z, p.2.2] at nT; cases nT
    have p2 := cw_ex p eT
    obtain ⟨σ2, h1, h2, h3, h4⟩ := hs i x T (dropAt (upd H' T (.tup [.int (k + (i : Nat)), x])) Dl) (ex_drop ((e.trans p.2.1).trans eT) (fresh_back e p.1)) gi (drop_of upd_same hTD)
    exact h1 _ drop_ex _ ⟨h2, cw_turn2 p2 (by omega) drop_ex h3 h4⟩
  · have ei : i = xs.length := by omega
    subst ei
    exact .inl ⟨⟨xs, hX, rfl⟩, q Dl H' (fresh_back (e00.trans e01) p.1) ((e00.trans e01).trans p.2.1) p.2.2⟩
end

end Su
namespace Su
/-! ### is_order -/
theorem eqv_ints (a b : List Int) : PyData.eqv (intD a) (intD b) = decide (a = b) := by
  unfold intD
  rw [PyData.eqv]
  exact PySem.W.ked_eqvAll a b
theorem sorted_unique : ∀ {l m : List Int}, l.Pairwise (· ≤ ·) → m.Pairwise (· ≤ ·) → l.Perm m → l = m
  | [], m, _, _, h => (List.nil_perm.mp h).symm
  | a :: r, [], _, _, h => absurd h.length_eq (by rw [List.length_cons]; exact fun z => by cases z)
  | a :: r, b :: s, hl, hm, h => by
    obtain ⟨l1, l2⟩ := List.pairwise_cons.mp hl
    obtain ⟨m1, m2⟩ := List.pairwise_cons.mp hm
    have e : a = b := by
      have h1 : a ∈ b :: s := h.mem_iff.mp List.mem_cons_self
      have h2 : b ∈ a :: r := h.mem_iff.mpr List.mem_cons_self
      rcases List.mem_cons.mp h1 with e | h1
      · exact e
      · rcases List.mem_cons.mp h2 with e | h2
        · exact e.symm
        · have := l1 b h2
          have := m1 a h1
          omega
    subst e
    rw [sorted_unique l2 m2 ((List.perm_cons a).mp h)]
def sortI (ns : List Int) : List Int := ns.mergeSort fun a b => decide (a ≤ b)
theorem sortI_perm (ns : List Int) : (sortI ns).Perm ns := List.mergeSort_perm _ _
theorem sortI_sorted (ns : List Int) : (sortI ns).Pairwise (· ≤ ·) := by
  have h := List.pairwise_mergeSort (le := fun a b : Int => decide (a ≤ b)) (fun a b c h1 h2 => by
    have := of_decide_eq_true h1
    have := of_decide_eq_true h2
    exact decide_eq_true (by omega)) (fun a b => by
    rw [Bool.or_eq_true, decide_eq_true_eq, decide_eq_true_eq]
    omega) ns
  exact h.imp fun h => of_decide_eq_true h
def rgI (n : Nat) : List Int := (List.range n).map fun i : Nat => (i : Int)
theorem rgI_sorted (n : Nat) : (rgI n).Pairwise (· ≤ ·) := by
  unfold rgI
  rw [List.pairwise_map]
  exact List.pairwise_lt_range.imp fun {i j} h => by omega
theorem sortI_eq (ns : List Int) (n : Nat) : sortI ns = rgI n ↔ ns.Perm (rgI n) :=
  ⟨fun h => h ▸ (sortI_perm ns).symm, fun h => sorted_unique (sortI_sorted ns) (rgI_sorted n) ((sortI_perm ns).trans h)⟩
def inRound (ws : List (Int × Int)) (ns : List Int) (i : Nat) : Bool := match ns[i]? with
  | some n => match ws[n.toNat]? with
    | some w => decide (w.1 ≤ 1 + (i : Int)) && decide (1 + (i : Int) ≤ w.2)
    | none => false
  | none => false
def isOrd (ws : List (Int × Int)) (ns : List Int) : Bool := decide (sortI ns = rgI ws.length) && ((List.range ns.length).map (inRound ws ns)).all id
section
variable {P : Program} {w : World} {K : PySem.W.Frag} {mg : Str → Option Value} {base : Heap}
theorem el_sortedI {σ : L2.St} {H : Hp} {te : TE} {a : Addr} {ns : List Int} (h : Ev te σ H (.ref a)) (hs : SqL K H a (ns.map V.int)) : EvL (tCB (rSortedI K) (tCons te tNil)) σ H ((sortI ns).map V.int) := fun H0 e Q q =>
  h H0 e _ fun H1 e1 => ⟨a, ns, rfl, ex_l (e.trans e1) hs, fun ns' p hp ho hn => by
    obtain rfl : ns' = sortI ns := sorted_unique ho (sortI_sorted ns) (hp.trans (sortI_perm ns).symm)
    exact q p _ (fresh_back e1 hn) (e1.trans (Ex.new hn)) upd_same⟩
theorem el_rgI {σ : L2.St} {H : Hp} {te : TE} {n : Nat} (h : Ev te σ H (.int (n : Nat))) (hn : n ≤ 16000000) : EvL (tLstRg (tRg1 te)) σ H ((rgI n).map V.int) := fun H0 e Q q =>
  h H0 e _ fun H1 e1 => ⟨n, rfl, RgOk.of_le (by omega) (by omega) (by omega) (by omega), fun p hp => q p _ (fresh_back e1 hp) (e1.trans (Ex.new hp)) (by
    rw [upd_same]
    unfold rgV rgI
    rw [List.map_map, Int.sub_zero, Int.toNat_natCast]
    congr 2
    apply List.map_congr_left
    intro i _
    show V.int (0 + (i : Int)) = V.int (i : Int)
    rw [Int.zero_add])⟩
theorem ev_allB {σ : L2.St} {H : Hp} {te : TE} {bs : List Bool} (h : EvL te σ H (bs.map V.bl)) : Ev (tCB (rAll K) (tCons te tNil)) σ H (.bl (bs.all id)) := fun H1 e Q q =>
  h H1 e _ fun p H2 _ e2 h2 => ⟨p, bs, rfl, sq_of h2, q H2 e2⟩
end

end Su
namespace Su
section
variable {P : Program} {w : World} {K : PySem.W.Frag} {mg : Str → Option Value} {base : Heap}
def spIsOrder (K : PySem.W.Frag) : Sp := fun vs H Q _ => ∃ (l r : Addr) (qs : List Win) (ns : List Int), vs = [.ref l, .ref r] ∧ SqL K H l (refs qs) ∧ TW H qs ∧ qs.length ≤ 1000 ∧ SqL K H r (ns.map V.int) ∧ ns.length ≤ 1000 ∧ ∀ H', Ex H H' → Q (.bl (isOrd (wsOf qs) ns)) H'
theorem ok_is_order {f : Addr} {fd : FuncData} {k : Nat} (F : Fun K "is_order" "is_order" s_is_order f fd) (T : Top K mg) : FnOk P w K mg base CX0 (k + 1) f fd ["windows", "row"] (spIsOrder K) := by
  have nd := sc_is_order.nd
  refine F.ok sc_is_order (fun vs H Q E h => ?_) (fun cdv A outer s H vs Q E hr h => ?_)
  · obtain ⟨l, r, qs, ns, rfl, _⟩ := h
    rfl
  · obtain ⟨l, r, qs, ns, rfl, hl, ht, hq, hr', hn, q⟩ := h
    refine ⟨_, (pss_cons (ps_if (pt_cmpR (op_neD hr.units) (pe_callB cr_sortedI (by rfl) T.m_sorted (by decide +kernel) (pa_cons (pv 1) pa_nil)) (pe_listRg rfl (by rfl) T.m_list (prg_1 (by rfl) T.m_range (pe_callB call_len_seq (by rfl) T.m_len PySem.boot_len (pa_cons (pv 0) pa_nil)))) (nomark _))
        (pss_one (ps_ret pe_bl))
        pss_nil)
      (pss_one (ps_ret (pe_callB (cr_all rfl) (by rfl) T.m_all (by decide +kernel) (pa_cons (pe_lc (own := [("turn", 2), ("at", 3)]) (g := gTup K 2 (gCons (gName 2) (gCons (gName 3) gNil))) (tt := tYes) rfl nd (pi_enumK (by rfl) T.m_enumerate (pa_cons (pv 1) pa_nil) (pk_cons pe_int pk_nil)) (blkOk_by (own := [("turn", 2), ("at", 3)]) (N := Su.N_is_order) (sc := defScope s_is_order) (by decide +kernel)) (fun _ _ _ _ _ => (pg_tup rfl (pgs_cons (pg_name (i := 2) nd rfl (.inl rfl)) (pgs_cons (pg_name (i := 3) nd rfl (.inl rfl)) pgs_nil)))) (fun _ _ _ _ _ => pts_nil) (fun _ _ _ _ _ => (pe_chain op_le op_le (pe_ix (ix_tupK (K := K) rfl) (pe_ix (ix_listK (K := K) rfl) (pv 0) (pv 3) (fun _ _ => rfl)) pe_int (fun _ _ => rfl)) (pv 2) (pe_ix (ix_tupK (K := K) rfl) (pe_ix (ix_listK (K := K) rfl) (pv 0) (pv 3) (fun _ _ => rfl)) pe_int (fun _ _ => rfl))))) pa_nil))))), ?_⟩
    refine q_when (b := !decide (sortI ns = rgI qs.length)) (et_test (ev_opLL (el_sortedI (ev_var rfl) hr') (el_rgI (n := qs.length) (ev_is (ev_len (ev_var rfl) hl) (by rw [refs_len])) (by omega)) fun p1 p2 H1 hp1 hp2 e1 => rv_neDD (d := intD (sortI ns)) (e := intD (rgI qs.length)) (dp_ints (sq_of hp1)) (dp_ints (sq_of hp2)) (shaped_ints _) (shaped_ints _) (by rw [eqv_ints, Bool.not_not]))) (fun hb H3 e3 => ?_) (fun hb H3 e3 => ?_)
    · rw [Bool.not_eq_true'] at hb
      refine s_ret ev_c fun H4 e4 => ?_
      have hq' := q H4 (e3.trans e4)
      unfold isOrd at hq'
      rw [ws_len, hb, Bool.false_and] at hq'
      exact hq'
    · rw [Bool.not_eq_false'] at hb
      have hperm := (sortI_eq ns qs.length).mp (of_decide_eq_true hb)
      have hl3 := ex_l e3 hl
      have hr3 := ex_l e3 hr'
      have ht3 := ht.ex e3
      refine s_ret (v := .bl (((List.range ns.length).map (inRound (wsOf qs) ns)).all id)) (ev_allB ?_) fun H4 e4 => ?_
      · have hg : ((List.range ns.length).map (inRound (wsOf qs) ns)).map V.bl = given (ns.map V.int).length (fun _ => true) fun i => .bl (inRound (wsOf qs) ns i) := by
          unfold given
          rw [List.filter_eq_self.mpr (fun _ _ => rfl), List.map_map, List.length_map]
          rfl
        rw [hg]
        refine el_lcEK (k := 1) _ _ (by walk_at "ea") (by walk_at "ea") (by decide) (by decide) hr3 (by rw [List.length_map]; omega) fun i x Tt Hb eb gx hT => ?_
        obtain ⟨n, rfl, gn⟩ : ∃ n, x = .int n ∧ ns[i]? = some n := by
          rw [List.getElem?_map] at gx
          cases hc : ns[i]? with
          | none => rw [hc] at gx; cases gx
          | some c => rw [hc] at gx; exact ⟨c, (Option.some.inj gx).symm, rfl⟩
        have hm : n ∈ rgI qs.length := hperm.mem_iff.mp (List.mem_of_getElem? gn)
        obtain ⟨j, hj, rfl⟩ := List.mem_map.mp hm
        have hj := List.mem_range.mp hj
        obtain ⟨qj, gj⟩ : ∃ qj, qs[j]? = some qj := ⟨_, List.getElem?_eq_getElem hj⟩
        have hqj := ht3.ex eb qj (List.mem_of_getElem? gj)
        refine ⟨_, tg_two (st_of hT) tg_name tg_name, rfl, et_yes, fun _ => ?_⟩
        have hv : inRound (wsOf qs) ns i = (decide (qj.2.1 ≤ 1 + (i : Int)) && decide (1 + (i : Int) ≤ qj.2.2)) := by
          unfold inRound
          rw [gn]
          show (match (wsOf qs)[((j : Nat) : Int).toNat]? with | some w => _ | none => _) = _
          rw [Int.toNat_natCast, ws_at gj]
        rw [hv]
        exact chain_le' (ev_w0 (ev_win (ev_var rfl) (ev_var rfl) (ex_l eb hl3) gj) hqj) (ev_var rfl) (ev_w1 (ev_win (ev_var rfl) (ev_var rfl) (ex_l eb hl3) gj) hqj)
      · have hq' := q H4 (e3.trans e4)
        unfold isOrd at hq'
        rw [ws_len, hb, Bool.true_and] at hq'
        exact hq'
end

end Su
namespace Su
section
variable {P : Program} {w : World} {K : PySem.W.Frag} {mg : Str → Option Value} {base : Heap}
def spKeeps (K : PySem.W.Frag) : Sp := fun vs H Q _ => ∃ (l r : Addr) (qs : List Win) (ns : List Int), vs = [.ref l, .ref r] ∧ SqL K H l (refs qs) ∧ TW H qs ∧ qs.length ≤ 1000 ∧ SqL K H r (ns.map V.int) ∧ ns.length ≤ 1000 ∧ ∀ H', Ex H H' → Q (.bl (isOrd (wsOf qs) ns)) H'
theorem isOrd_no {ws : List (Int × Int)} {ns : List Int} {i : Nat} (hi : i < ns.length) (h : inRound ws ns i = false) : isOrd ws ns = false := by
  unfold isOrd
  rw [Bool.and_eq_false_iff]
  right
  rw [List.all_eq_false]
  exact ⟨inRound ws ns i, List.mem_map.mpr ⟨i, List.mem_range.mpr hi, rfl⟩, by rw [h]; decide⟩
theorem isOrd_yes {ws : List (Int × Int)} {ns : List Int} (hs : sortI ns = rgI ws.length) (h : ∀ j, j < ns.length → inRound ws ns j = true) : isOrd ws ns = true := by
  unfold isOrd
  rw [decide_eq_true hs, Bool.true_and, List.all_eq_true]
  intro b hb
  obtain ⟨j, hj, rfl⟩ := List.mem_map.mp hb
  exact h j (List.mem_range.mp hj)
theorem ok__law_keeps {f : Addr} {fd : FuncData} {k : Nat} (F : Fun K "_law_keeps" "_law_keeps" s__law_keeps f fd) (T : Top K mg) : FnOk P w K mg base CX0 (k + 1) f fd ["_law_windows", "_law_row"] (spKeeps K) := by
  have nd := sc__law_keeps.nd
  refine F.ok sc__law_keeps (fun vs H Q E h => ?_) (fun cdv A outer s H vs Q E hr h => ?_)
  · obtain ⟨l, r, qs, ns, rfl, _⟩ := h
    rfl
  · obtain ⟨l, r, qs, ns, rfl, hl, ht, hq, hr', hn, q⟩ := h
    refine ⟨_, (pss_cons (ps_if (PW.pt (pw_or (pt_cmpR op_ne (pe_callB call_len_seq (by rfl) T.m_len PySem.boot_len (pa_cons (pv 1) pa_nil)) (pe_callB call_len_seq (by rfl) T.m_len PySem.boot_len (pa_cons (pv 0) pa_nil)) (nomark _)) (pw_or1 (pt_cmpR (op_neD hr.units) (pe_callB cr_sortedI (by rfl) T.m_sorted (by decide +kernel) (pa_cons (pv 1) pa_nil)) (pe_listRg rfl (by rfl) T.m_list (prg_1 (by rfl) T.m_range (pe_callB call_len_seq (by rfl) T.m_len PySem.boot_len (pa_cons (pv 0) pa_nil)))) (nomark _)))))
        (pss_one (ps_ret pe_bl))
        pss_nil)
      (pss_cons (ps_for PassesOwn.never rfl (pi_enum (by rfl) T.m_enumerate (pa_cons (pv 1) pa_nil)) (pg_tup rfl (pgs_cons (pg_name (i := 2) nd rfl (.inl rfl)) (pgs_cons (pg_name (i := 3) nd rfl (.inl rfl)) pgs_nil)))
        (pss_one (ps_if (pt_not (pt_chain op_le op_le (pe_ix ix_tup (pe_ix ix_list (pv 0) (pv 3) (fun _ _ => rfl)) pe_int (fun _ _ => rfl)) (pe_op op_add (pv 2) pe_int) (pe_ix ix_tup (pe_ix ix_list (pv 0) (pv 3) (fun _ _ => rfl)) pe_int (fun _ _ => rfl))))
            (pss_one (ps_ret pe_bl))
            pss_nil)))
      (pss_one (ps_ret pe_bl)))), ?_⟩
    have int_eq' : ∀ {i j : Int}, decide (V.int i = V.int j) = decide (i = j) := fun {i j} => by
      by_cases h : i = j
      · rw [h, decide_eq_true rfl, decide_eq_true rfl]
      · rw [decide_eq_false h, decide_eq_false (fun z => h (V.int.inj z))]
    refine q_when (b := !decide ((ns.length : Int) = (qs.length : Int)) || !decide (sortI ns = rgI qs.length)) (et_or (et_is (et_test (ev_op (ev_is (ev_len (ev_var rfl) hr') (by rw [List.length_map])) (ev_is (ev_len (ev_var rfl) hl) (by rw [refs_len])) (rv_ne rfl))) (congrArg (!·) int_eq')) fun _ => et_test (ev_opLL (el_sortedI (ev_var rfl) hr') (el_rgI (n := qs.length) (ev_is (ev_len (ev_var rfl) hl) (by rw [refs_len])) (by omega)) fun p1 p2 H1 hp1 hp2 e1 => rv_neDD (d := intD (sortI ns)) (e := intD (rgI qs.length)) (dp_ints (sq_of hp1)) (dp_ints (sq_of hp2)) (shaped_ints _) (shaped_ints _) (by rw [eqv_ints, Bool.not_not]))) (fun hb H3 e3 => ?_) (fun hb H3 e3 => ?_)
    · refine s_ret ev_c fun H4 e4 => ?_
      have hq' := q H4 (e3.trans e4)
      have h0 : sortI ns ≠ rgI qs.length := fun h => by
        have hp := (sortI_eq ns qs.length).mp h
        have hlen := hp.length_eq
        unfold rgI at hlen
        rw [List.length_map, List.length_range] at hlen
        rw [hlen, decide_eq_true rfl, decide_eq_true h] at hb
        cases hb
      unfold isOrd at hq'
      rw [ws_len, decide_eq_false h0, Bool.false_and] at hq'
      exact hq'
    · rw [Bool.or_eq_false_iff, Bool.not_eq_false', Bool.not_eq_false'] at hb
      have hs := of_decide_eq_true hb.2
      have hperm := (sortI_eq ns qs.length).mp hs
      have hl3 := ex_l e3 hl
      have hr3 := ex_l e3 hr'
      have ht3 := ht.ex e3
      refine s_forE (xs := ns.map V.int) (by walk_at "ea") hr3 (fun i σ' H' => ∃ y2 y3 : Option V, σ' = [some (.ref l), some (.ref r), y2, y3] ∧ Ex H3 H' ∧ ∀ j, j < i → inRound (wsOf qs) ns j = true) ?_ ?_ ?_ ?_
      · intro H4 e4
        exact ⟨none, none, rfl, e4, fun j hj => by omega⟩
      · rintro i σ' H' _ ⟨y2, y3, rfl, ex, _⟩
        exact ex_l ex hr3
      · rintro i x Tt σ' Hc gx ⟨y2, y3, rfl, ex, hall⟩ nT
        obtain ⟨n, rfl, gn⟩ : ∃ n, x = .int n ∧ ns[i]? = some n := by
          rw [List.getElem?_map] at gx
          cases hc : ns[i]? with
          | none => rw [hc] at gx; cases gx
          | some c => rw [hc] at gx; exact ⟨c, (Option.some.inj gx).symm, rfl⟩
        have hm : n ∈ rgI qs.length := hperm.mem_iff.mp (List.mem_of_getElem? gn)
        obtain ⟨j, hj, rfl⟩ := List.mem_map.mp hm
        have hj := List.mem_range.mp hj
        obtain ⟨qj, gj⟩ : ∃ qj, qs[j]? = some qj := ⟨_, List.getElem?_eq_getElem hj⟩
        refine ⟨_, tg_two (st_of upd_same) tg_name tg_name, ?_⟩
        have ex := ex.trans (Ex.new (o := .tup [.int (i : Nat), .int ((j : Nat) : Int)]) nT)
        generalize upd Hc Tt (.tup [.int (i : Nat), .int ((j : Nat) : Int)]) = H6 at ex ⊢
        have hqj := ht3.ex ex qj (List.mem_of_getElem? gj)
        have hl6 := ex_l ex hl3
        have hv : inRound (wsOf qs) ns i = (decide (qj.2.1 ≤ (i : Int) + 1) && decide ((i : Int) + 1 ≤ qj.2.2)) := by
          unfold inRound
          rw [gn]
          show (match (wsOf qs)[((j : Nat) : Int).toNat]? with | some w => _ | none => _) = _
          rw [Int.toNat_natCast, ws_at gj, Int.add_comm 1 (i : Int)]
        refine s_when (b := !inRound (wsOf qs) ns i) (et_not (et_is (chain_le (ev_w0 (ev_win (ev_var rfl) (ev_var rfl) hl6 gj) hqj) (ev_op (ev_var rfl) ev_c rv_I0) (ev_w1 (ev_win (ev_var rfl) (ev_var rfl) hl6 gj) hqj)) hv.symm)) (fun hb H7 e7 => ?_) (fun hb H7 e7 => ?_)
        · rw [Bool.not_eq_true'] at hb
          refine s_ret ev_c fun H8 e8 => ?_
          have hq' := q H8 (e3.trans (ex.trans (e7.trans e8)))
          rw [isOrd_no (List.getElem?_eq_some_iff.mp gn).1 hb] at hq'
          exact hq'
        · rw [Bool.not_eq_false'] at hb
          exact ⟨_, _, rfl, ex.trans e7, fun m hm => by
            by_cases e : m = i
            · rw [e]; exact hb
            · exact hall m (by omega)⟩
      · rintro σ' H4 ⟨y2, y3, rfl, ex, hall⟩
        rw [List.length_map] at hall
        dsimp only
        refine s_ret ev_c fun H8 e8 => ?_
        have hq' := q H8 (e3.trans (ex.trans e8))
        rw [isOrd_yes (by rw [ws_len]; exact hs) hall] at hq'
        exact hq'
end

end Su
namespace Su
/-! ### o[i] += e of a list; [e] * n -/
section
variable {X : Cx}
def rGetL (K : PySem.W.Frag) : V → V → Hp → VK → Prop := fun x y H Q => ∃ p xs i v, x = .ref p ∧ y = .int i ∧ 0 ≤ i ∧ SqL K H p xs ∧ atI xs i = some v ∧ Q v H
theorem get_list : PGet X (rGetL X.K) := by
  intro pins s σ H x y v u Q I rx ry h
  obtain ⟨p, xs, i, z, rfl, rfl, h0, hq, he, q⟩ := h
  cases rx
  obtain ⟨t, rfl⟩ := ry
  obtain ⟨its, r, pl, hz⟩ := I.list hq
  obtain ⟨j, h1, h2, h3, h4, h5⟩ := atI_get he
  obtain ⟨w, ew, rw'⟩ := r.get h2
  have hl := r.length
  have hn := line63
  have hj : i.toNat = j := by
    rw [seqIndex_of h0 h5] at h1
    exact Option.some.inj h1
  exact wpAny_getItem_list pl.isList h0 (by omega) (by rw [hj]; simpa using ew) ⟨z, H, I, rw', q⟩
end
theorem q_augL {to ti te : TE} {K : PySem.W.Frag} {σ : L2.St} {H : Hp} {D : Ends} {tz : TS} {l : Addr} {xs : List V} {z a b : Int} {j : Nat} {f : Int → Int → Int} (hl : H l = some (.lst xs)) (ho : Ev to σ H (.ref l)) (hi : Ev ti σ H (.int z)) (hz : z = (j : Int)) (hx : xs[j]? = some (.int a)) (h : Ev te σ H (.int b))
    (k : ∀ H1, Ex H H1 → tz D σ (upd H1 l (.lst (xs.set j (.int (f a b)))))) : tSeq (tAugS to ti te (rGetL K) (ipI f) rSetL) tz D σ H := by
  have hj : j < xs.length := (List.getElem?_eq_some_iff.mp hx).1
  refine ho H (Ex.refl H) _ fun H1 e1 => hi H1 e1 _ fun H2 e2 => ?_
  refine ⟨l, xs, z, .int a, rfl, rfl, by omega, sq_of (e2 l _ (e1 l _ hl)), at_of hz hx, h H2 (e1.trans e2) _ fun H3 e3 => ?_⟩
  refine ⟨a, b, rfl, rfl, l, xs, z, j, rfl, rfl, e3 l _ (e2 l _ (e1 l _ hl)), ?_, k H3 ((e1.trans e2).trans e3)⟩
  rw [hz]
  exact ixN_nat hj
theorem st_lastAugL {to ti te : TE} {K : PySem.W.Frag} {σ : L2.St} {H : Hp} {D : Ends} {l : Addr} {xs : List V} {z a b : Int} {j : Nat} {f : Int → Int → Int} (hl : H l = some (.lst xs)) (ho : Ev to σ H (.ref l)) (hi : Ev ti σ H (.int z)) (hz : z = (j : Int)) (hx : xs[j]? = some (.int a)) (h : Ev te σ H (.int b))
    (k : ∀ H1, Ex H H1 → D.nx σ (upd H1 l (.lst (xs.set j (.int (f a b)))))) : tAugS to ti te (rGetL K) (ipI f) rSetL D σ H := q_augL (D := D) (tz := fun D' σ' H' => D'.nx σ' H') hl ho hi hz hx h k
theorem flat1 {v : V} : ∀ n : Nat, (List.replicate n [v]).flatten = List.replicate n v
  | 0 => rfl
  | n + 1 => by rw [List.replicate_succ, List.replicate_succ, List.flatten_cons, flat1 n]; rfl
theorem el_rep1 {ta tb : TE} {σ : L2.St} {H : Hp} {v : V} {k : Int} (ha : EvL ta σ H [v]) (hb : Ev tb σ H (.int k)) (h0 : 0 ≤ k) (h1 : k ≤ 100000) : EvL (tOp rRep ta tb) σ H (List.replicate k.toNat v) := fun H1 e Q q =>
  ha H1 e _ fun p H2 hp e2 h2 => hb H2 (e.trans e2) _ fun H3 e3 => ⟨p, k, [v], rfl, rfl, e3 p _ h2, by omega, by omega, sz_of (by show 1 * k.toNat ≤ _; omega), fun r hr => by
    rw [flat1]
    exact q r _ (fresh_back (e2.trans e3) hr) ((e2.trans e3).trans (Ex.new hr)) upd_same⟩

end Su
namespace Su
/-! ### the drawn order -/
theorem s_ins {K : PySem.W.Frag} {σ : L2.St} {H : Hp} {ta tb te : TE} {D : Ends} {l : Addr} {xs : List V} {i : Int} {v : V} (hl : H l = some (.lst xs)) (ha : Ev ta σ H (.ref l)) (hi : Ev tb σ H (.int i)) (h : Ev te σ H v) (hz : xs.length < 100000) (h0 : 0 ≤ i) (h1 : i < 2 ^ 63)
    (k : ∀ H1, Ex H H1 → D.nx σ (upd H1 l (.lst (xs.take i.toNat ++ [v] ++ xs.drop i.toNat)))) :
    tDrop (tBM K "list" (fun x vs H Q => ∃ (l : Addr) (xs : List V) (i : Int) (y : V), x = .ref l ∧ vs = [.int i, y] ∧ H l = some (.lst xs) ∧ xs.length < sizeLine ∧ 0 ≤ i ∧ i < 2 ^ 63 ∧ Q .non (upd H l (.lst (xs.take i.toNat ++ [y] ++ xs.drop i.toNat)))) ta (tCons tb (tCons te tNil))) D σ H := ha H (Ex.refl H) _ fun H1 e1 =>
  ⟨Or.inl ⟨rfl, xs, sq_of (e1 l _ hl)⟩, hi H1 e1 _ fun H2 e2 => h H2 (e1.trans e2) _ fun H3 e3 => ⟨l, xs, i, v, rfl, rfl, e3 l _ (e2 l _ (e1 l _ hl)), sz_lt hz, h0, h1, k H3 ((e1.trans e2).trans e3)⟩⟩
theorem rgI_succ (n : Nat) : rgI (n + 1) = rgI n ++ [(n : Int)] := by
  unfold rgI
  rw [List.range_succ, List.map_append]
  rfl
theorem perm_ins {ns : List Int} {n j : Nat} (h : ns.Perm (rgI n)) : (ns.take j ++ [(n : Int)] ++ ns.drop j).Perm (rgI (n + 1)) := by
  rw [rgI_succ, List.append_assoc, List.singleton_append]
  refine (List.perm_middle).trans ?_
  rw [List.take_append_drop]
  exact (List.Perm.cons _ h).trans (List.perm_append_singleton _ _).symm

end Su
namespace Su
section
variable {P : Program} {w : World} {K : PySem.W.Frag} {mg : Str → Option Value} {base : Heap}
def spPerm (K : PySem.W.Frag) : Sp := fun vs H Q _ => ∃ (a : Addr) (rows : List Int) (n : Nat), vs = [.ref a, .int (n : Int)] ∧ SqL K H a (rows.map V.int) ∧ n ≤ rows.length ∧ n ≤ 1000 ∧
  ∀ (ns : List Int) H' p, H p = none → Ex H H' → H' p = some (.lst (ns.map V.int)) → ns.Perm (rgI n) → Q (.ref p) H'
theorem spN_perm {a : Addr} {rows : List Int} {n : Nat} {H : Hp} (hS : SqL K H a (rows.map V.int)) (hl : n ≤ rows.length) (hn : n ≤ 1000) : SpN (spPerm K) [.ref a, .int (n : Int)] H (fun xs => ∃ ns : List Int, ns.Perm (rgI n) ∧ xs = ns.map V.int) :=
  fun H1 e Q q E => ⟨a, rows, n, rfl, ex_l e hS, hl, hn, fun ns H' p hp e' h' hr => q _ p H' ⟨ns, hr, rfl⟩ hp e' h'⟩
theorem ok__law_perm {f : Addr} {fd : FuncData} {k : Nat} (F : Fun K "_law_perm" "_law_perm" s__law_perm f fd) (T : Top K mg) : FnOk P w K mg base CX0 (k + 1) f fd ["_law_some", "_law_size"] (spPerm K) := by
  have nd := sc__law_perm.nd
  refine F.ok sc__law_perm (fun vs H Q E h => ?_) (fun cdv A outer s H vs Q E hr h => ?_)
  · obtain ⟨a, rows, n, rfl, _⟩ := h
    rfl
  · obtain ⟨a, rows, n, rfl, hS, hl, hn, q⟩ := h
    refine ⟨_, (pss_cons (ps_set (i := 2) nd rfl (.inl rfl) (pe_lst pa_nil))
      (pss_cons (ps_for PassesOwn.never rfl (pi_range1 rfl T.m_range (pa_cons (pv 1) pa_nil)) (pg_name (i := 3) nd rfl (.inl rfl))
        (pss_one (ps_expr (pe_bm PySem.F.plainAttrs_list PySem.F.slot_list_insert PySem.F.type_list_insert mt_insert (pv 2) (pa_cons (pe_op op_mod (pe_ix ix_list (pv 0) (pv 3) (fun _ _ => rfl)) (pe_op op_add (pv 3) pe_int)) (pa_cons (pv 3) pa_nil))))))
      (pss_one (ps_ret (pv 2))))), ?_⟩
    refine q_asgL (el_lst ea_nil (by decide)) fun p H1 hp e1 h1 => ?_
    refine q_forR1 (by walk_at "ea") (by omega) (fun i σ' H' => ∃ (ns : List Int) (y : Option V), σ' = [some (.ref a), some (.int (n : Int)), some (.ref p), y] ∧ Ex H H' ∧ H' p = some (.lst (ns.map V.int)) ∧ ns.Perm (rgI i)) ?_ ?_ ?_
    · intro H2 e2
      exact ⟨[], none, rfl, e1.trans e2, e2 p _ h1, List.Perm.refl _⟩
    · rintro i σ' H' hi ⟨ns, y, rfl, ex, hp', hpm⟩
      have hs := ex_l ex hS
      have hlen := hpm.length_eq
      unfold rgI at hlen
      rw [List.length_map, List.length_range] at hlen
      have m0 := Int.emod_nonneg (rows.getD ((i : Int)).toNat 0) (show (i : Int) + 1 ≠ 0 by omega)
      have m1 := Int.emod_lt_of_pos (rows.getD ((i : Int)).toNat 0) (show 0 < (i : Int) + 1 by omega)
      refine s_ins hp' (by walk_at "ev") (by walk_at "ev") (by walk_at "ev") (by rw [List.length_map]; omega) m0 (by omega) fun H2 e2 => ?_
      generalize (rows.getD ((i : Int)).toNat 0 % ((i : Int) + 1)).toNat = j
      refine ⟨ns.take j ++ [(i : Int)] ++ ns.drop j, _, rfl, ex_up (ex.trans e2) hp, ?_, perm_ins hpm⟩
      rw [upd_same, List.map_append, List.map_append, List.map_take, List.map_drop]
      rfl
    · rintro σ' H' ⟨ns, y, rfl, ex, hp', hpm⟩
      rw [Int.toNat_natCast] at hpm
      refine s_ret (by walk_at "ev") fun H2 e2 => ?_
      exact q ns H2 p hp (ex.trans e2) (ex_g e2 hp') hpm
end

end Su
namespace Su
/-! ### windows around the drawn order -/
theorem s_viaU {te : TE} {g : TG} {D : Ends} {σ : L2.St} {H : Hp} {xs : List V} (h : EvU te σ H xs) (k : ∀ t H1, H t = none → Ex H H1 → H1 t = some (.tup xs) → tAsg (tC (.ref t)) g D σ H1) : tAsg te g D σ H := h H (Ex.refl H) _ fun t H1 ht e1 h1 => k t H1 ht e1 h1
def tRefs (p : Addr) : TA := fun _ H Q => Q [.ref p] H
theorem ea_refs {p : Addr} {σ : L2.St} {H : Hp} : EvA (tRefs p) σ H [.ref p] := fun H1 _ _ q => q H1 (Ex.refl H1)
/-- for .. in enumerate(f(..)), where f hands back a new list -/
theorem s_forEc {K : PySem.W.Frag} {g : TG} {tb : TS} {D : Ends} {σ : L2.St} {H : Hp} {ta : TA} {sp : Sp} {vs : List V} {E : XK} {P : List V → Prop} (h : EvA ta σ H vs) (hs : SpN sp (vs ++ []) H P)
    (k : ∀ xs p H1, P xs → H p = none → Ex H H1 → H1 p = some (.lst xs) → tFor (iEnum K (tRefs p)) g tb D σ H1) : tFor (iEnum K (tCons (tCall sp [] E ta) tNil)) g tb D σ H :=
  h H (Ex.refl H) _ fun H1 e1 => hs H1 e1 _ (fun xs p H2 hP hp e2 h2 => k xs p H2 hP (fresh_back e1 hp) (e1.trans e2) h2) E
/-- x = [e] * n, e a new tuple -/
theorem q_repU {te tb : TE} {D : Ends} {σ : L2.St} {H : Hp} {tz : TS} {i : Nat} {xs : List V} {n : Int} (h : EvU te σ H xs) (hb : ∀ H1, Ex H H1 → Ev tb σ H1 (.int n)) (h0 : 0 ≤ n) (h1 : n ≤ 100000)
    (k : ∀ t p H1, H t = none → H p = none → Ex H H1 → H1 t = some (.tup xs) → H1 p = some (.lst (List.replicate n.toNat (.ref t))) → tz D (σ.set i (some (.ref p))) H1) : tSeq (tAsg (tOp rRep (tLst (tCons te tNil)) tb) (gName i)) tz D σ H :=
  h H (Ex.refl H) _ fun t H1 ht e1 h2 => ⟨by show 1 ≤ sizeLine; decide, fun p0 hp0 => hb _ (e1.trans (Ex.new hp0)) _ (Ex.refl _) _ fun H3 e3 => ⟨p0, n, [.ref t], rfl, rfl, e3 p0 _ upd_same, by omega, by omega, sz_of (by show 1 * n.toNat ≤ _; omega), fun r hr => by
    rw [flat1]
    have ex := (e1.trans (Ex.new hp0)).trans e3
    exact k t r _ ht (fresh_back ex hr) (ex.trans (Ex.new hr)) (by rw [upd_ne (ne_of_none (((Ex.new hp0).trans e3) t _ h2) hr)]; exact ((Ex.new hp0).trans e3) t _ h2) upd_same⟩⟩
theorem refs_set {qs : List Win} {j : Nat} {q : Win} : refs (qs.set j q) = (refs qs).set j (.ref q.1) := by
  unfold refs
  rw [List.map_set]
theorem TW.set {H : Hp} {qs : List Win} {j : Nat} {q : Win} (h : TW H qs) (hq : H q.1 = some (.tup [.int q.2.1, .int q.2.2])) : TW H (qs.set j q) := fun r hr => by
  rcases List.mem_or_eq_of_mem_set hr with h' | h'
  · exact h r h'
  · rw [h']; exact hq
theorem int_at {ns : List Int} {i : Nat} {x : V} (h : (ns.map V.int)[i]? = some x) : ∃ n, x = .int n ∧ ns[i]? = some n := by
  rw [List.getElem?_map] at h
  cases hc : ns[i]? with
  | none => rw [hc] at h; cases h
  | some c => rw [hc] at h; exact ⟨c, (Option.some.inj h).symm, rfl⟩
theorem in_rg {z : Int} {n : Nat} (h : z ∈ rgI n) : ∃ j : Nat, z = (j : Int) ∧ j < n := by
  obtain ⟨j, hj, rfl⟩ := List.mem_map.mp h
  exact ⟨j, rfl, List.mem_range.mp hj⟩
theorem perm_len {ns : List Int} {n : Nat} (h : ns.Perm (rgI n)) : ns.length = n := by
  have := h.length_eq
  unfold rgI at this
  rw [List.length_map, List.length_range] at this
  exact this

end Su
namespace Su
/-! ### a row spoilt -/
theorem cut_to (xs : List V) (k : Nat) : cutV xs none (some (k : Int)) = xs.take k := by
  unfold cutV
  rw [HT.sIx_nat, HT.sIx_none, List.drop_zero, Nat.sub_zero]
  by_cases h : k ≤ xs.length
  · rw [Nat.min_eq_left h]
  · rw [Nat.min_eq_right (by omega), List.take_of_length_le (Nat.le_refl _), List.take_of_length_le (by omega)]
theorem el_cat {ta tb : TE} {σ : L2.St} {H : Hp} {xs ys : List V} (ha : EvL ta σ H xs) (hb : EvL tb σ H ys) (hz : xs.length + ys.length ≤ 100000) : EvL (tOp rCat ta tb) σ H (xs ++ ys) := fun H1 e Q q =>
  ha H1 e _ fun p H2 hp e2 h2 => hb H2 (e.trans e2) _ fun p2 H3 hp3 e3 h3 => ⟨p, p2, xs, ys, rfl, rfl, e3 p _ h2, h3, sz_of hz, fun r hr => q r _ (fresh_back (e2.trans e3) hr) ((e2.trans e3).trans (Ex.new hr)) upd_same⟩
theorem q_asgSub {l : Addr} {xs : List V} {z : Int} {j : Nat} {te ta tb : TE} {σ : L2.St} {H : Hp} {v : V} {D : Ends} {tz : TS} (hl : H l = some (.lst xs)) (h : Ev te σ H v) (ho : Ev ta σ H (.ref l)) (hi : Ev tb σ H (.int z)) (hz : z = (j : Int)) (hj : j < xs.length)
    (k : ∀ H1, Ex H H1 → tz D σ (upd H1 l (.lst (xs.set j v)))) : tSeq (tAsg te (gSub ta tb rSetL)) tz D σ H := s_asgSub (D := { D with nx := tz D }) hl h ho hi hz hj k
theorem ints_set (ms : List Int) (j : Nat) (v : Int) : (ms.map V.int).set j (.int v) = (ms.set j v).map V.int := (List.map_set).symm
theorem at5 {a b c d e z : Int} (h0 : 0 ≤ z) (h : z < 5) : ∃ v : Int, atI [V.int a, .int b, .int c, .int d, .int e] z = some (.int v) := by
  have h4 : z = 0 ∨ z = 1 ∨ z = 2 ∨ z = 3 ∨ z = 4 := by omega
  rcases h4 with rfl | rfl | rfl | rfl | rfl
  · exact ⟨a, rfl⟩
  · exact ⟨b, rfl⟩
  · exact ⟨c, rfl⟩
  · exact ⟨d, rfl⟩
  · exact ⟨e, rfl⟩
theorem int_eqd {i j : Int} : decide (V.int i = V.int j) = decide (i = j) := by
  by_cases h : i = j
  · rw [h, decide_eq_true rfl, decide_eq_true rfl]
  · rw [decide_eq_false h, decide_eq_false (fun z => h (V.int.inj z))]

end Su
namespace Su
section
variable {P : Program} {w : World} {K : PySem.W.Frag} {mg : Str → Option Value} {base : Heap}
def spWhole : Sp := fun vs H Q _ => ∃ i : Int, vs = [.int i] ∧ ∀ H', Ex H H' → Q (.bl true) H'
theorem spV_whole {i : Int} {H : Hp} : SpV spWhole [.int i] H (.bl true) := fun H1 _ Q q _ => ⟨i, rfl, q⟩
theorem ok__law_whole {f : Addr} {fd : FuncData} {k : Nat} (F : Fun K "_law_whole" "_law_whole" s__law_whole f fd) (T : Top K mg) : FnOk P w K mg base CX0 (k + 1) f fd ["_law_told"] spWhole := by
  have nd := sc__law_whole.nd
  refine F.ok sc__law_whole (fun vs H Q E h => ?_) (fun cdv A outer s H vs Q E hr h => ?_)
  · obtain ⟨a, rfl, _⟩ := h
    rfl
  · obtain ⟨i, rfl, q⟩ := h
    refine ⟨_, (pss_one (ps_ret (pe_and (pe_callB call_isi (by rfl) T.m_isinstance (by decide +kernel) (pa_cons (pv 0) (pa_cons (pe_bltn (v := .ty "int") (by rfl) T.m_int (by decide +kernel) rfl) pa_nil))) (pe_one (pe_not (pe_callB call_isi (by rfl) T.m_isinstance (by decide +kernel) (pa_cons (pv 0) (pa_cons (pe_bltn (v := .ty "bool") (by rfl) T.m_bool (by decide +kernel) rfl) pa_nil)))))))), ?_⟩
    refine s_ret (by walk_at "ev") fun H1 e1 => ?_
    exact q H1 e1
end

end Su
namespace Su
/-! ### more ways of calls -/
theorem s_forE1 {K : PySem.W.Frag} {te : TE} {g : TG} {tb : TS} {D : Ends} {σ : L2.St} {H : Hp} {Pc : Addr → Hp → Prop} (hcall : ∀ Q : VK, (∀ p H1, Pc p H1 → Q (.ref p) H1) → te σ H Q) (k : ∀ p H1, Pc p H1 → tFor (iEnum K (tCons (tC (.ref p)) tNil)) g tb D σ H1) :
    tFor (iEnum K (tCons te tNil)) g tb D σ H := hcall _ fun p H1 h => k p H1 h
theorem s_tryw1 {sp : Sp} {W : WX} {te : TE} {xs : List V} {σ : L2.St} {H : Hp} {i : Nat} {D : Ends} (h : EvL te σ H xs) (hs : ∀ p H1, H p = none → Ex H H1 → H1 p = some (.lst xs) → sp [.ref p] H1 (fun v H2 => D.nx (σ.set i (some v)) H2) (WE W σ)) : tAsg (tCallS sp (WE W) (tCons te tNil)) (gName i) D σ H :=
  h H (Ex.refl H) _ fun p H1 hp e1 h1 => hs p H1 hp e1 h1
theorem rc_isi_lst {K : PySem.W.Frag} {H : Hp} {p : Addr} {xs : List V} {n : String} {b : Bool} (h : H p = some (.lst xs)) (hk : kitB "list" n = some b) : RC (rIsi K) [.ref p, .ty n] H (.bl b) :=
  fun H1 e _ q => ⟨.ref p, .ty n, .type "list", .type n, b, rfl, .ty n, .base (.lst (e _ _ h)), kit_ty hk, q H1 (Ex.refl H1)⟩
theorem int_eq {i j : Int} : decide (V.int i = V.int j) = decide (i = j) := by
  by_cases h : i = j
  · rw [h, decide_eq_true rfl, decide_eq_true rfl]
  · rw [decide_eq_false h, decide_eq_false (fun z => h (V.int.inj z))]
theorem q_callQ {sp : Sp} {dvs vs : List V} {E : XK} {ta : TA} {σ : L2.St} {H : Hp} {i : Nat} {D : Ends} {tz : TS} (h : EvA ta σ H vs) (k : ∀ H1, Ex H H1 → sp (vs ++ dvs) H1 (fun v H2 => tz D (σ.set i (some v)) H2) E) : tSeq (tAsg (tCall sp dvs E ta) (gName i)) tz D σ H :=
  h H (Ex.refl H) _ fun H1 e1 => k H1 e1

end Su
namespace Su
/-! ### the numbered orders: mathematics -/
def freeN (n h : Nat) : List Nat := (List.range n).filter fun k => !h.testBit k
def fitN (ws : List (Int × Int)) (t : Int) (k : Nat) : Bool := match ws[k]? with
  | some w => decide (w.1 ≤ t) && decide (t ≤ w.2)
  | none => false
def turnN (n h : Nat) : Int := (n : Int) - ((freeN n h).length : Int) + 1
def nxtN (ws : List (Int × Int)) (h : Nat) : List Nat := (freeN ws.length h).filter (fitN ws (turnN ws.length h))
def wayF (ws : List (Int × Int)) : Nat → Nat → Int
  | 0, _ => 1
  | f + 1, h => ((nxtN ws h).map fun k => wayF ws f (h ||| 2 ^ k)).sum
def way (ws : List (Int × Int)) (h : Nat) : Int := wayF ws (freeN ws.length h).length h
def preN (f : Nat → Int) (l : List Nat) (a : Nat) : Int := ((l.filter fun k => decide (k < a)).map f).sum
def lessN (ws : List (Int × Int)) (h a : Nat) : Int := preN (fun k => way ws (h ||| 2 ^ k)) (nxtN ws h) a
def numOf (ws : List (Int × Int)) : Nat → List Nat → Int
  | _, [] => 0
  | h, a :: r => lessN ws h a + numOf ws (h ||| 2 ^ a) r
def Path (ws : List (Int × Int)) : Nat → List Nat → Prop
  | h, [] => freeN ws.length h = []
  | h, a :: r => a ∈ nxtN ws h ∧ Path ws (h ||| 2 ^ a) r
theorem free_nodup (n h : Nat) : (freeN n h).Nodup := List.nodup_range.filter _
theorem free_mem {n h k : Nat} : k ∈ freeN n h ↔ k < n ∧ h.testBit k = false := by
  unfold freeN
  rw [List.mem_filter, List.mem_range, Bool.not_eq_true']
theorem bit_or {h a j : Nat} : (h ||| 2 ^ a).testBit j = (h.testBit j || decide (a = j)) := by rw [Nat.testBit_or, Nat.testBit_two_pow]
theorem free_or (n h a : Nat) : freeN n (h ||| 2 ^ a) = (freeN n h).erase a := by
  rw [(free_nodup n h).erase_eq_filter]
  unfold freeN
  rw [List.filter_filter]
  apply List.filter_congr
  intro j _
  rw [bit_or]
  by_cases e : a = j
  · subst e; simp
  · have e' : ¬ j = a := fun z => e z.symm
    cases h.testBit j <;> simp [e, e']
theorem free_or_len {n h a : Nat} (ha : a ∈ freeN n h) : (freeN n (h ||| 2 ^ a)).length + 1 = (freeN n h).length := by
  rw [free_or, List.length_erase_of_mem ha]
  have := List.length_pos_of_mem ha
  omega
theorem nxt_free {ws : List (Int × Int)} {h k : Nat} (hk : k ∈ nxtN ws h) : k ∈ freeN ws.length h := (List.mem_filter.mp hk).1
theorem nxt_lt {ws : List (Int × Int)} {h k : Nat} (hk : k ∈ nxtN ws h) : k < ws.length := (free_mem.mp (nxt_free hk)).1
theorem nxt_sorted (ws : List (Int × Int)) (h : Nat) : (nxtN ws h).Pairwise (· < ·) := (List.pairwise_lt_range.filter _).filter _
theorem way_full {ws : List (Int × Int)} {h : Nat} (he : freeN ws.length h = []) : way ws h = 1 := by
  unfold way
  rw [he]
  rfl
theorem way_step {ws : List (Int × Int)} {h : Nat} (he : freeN ws.length h ≠ []) : way ws h = ((nxtN ws h).map fun k => way ws (h ||| 2 ^ k)).sum := by
  unfold way
  obtain ⟨f, hf⟩ : ∃ f, (freeN ws.length h).length = f + 1 := ⟨(freeN ws.length h).length - 1, by have := List.length_pos_iff.mpr he; omega⟩
  rw [hf]
  show ((nxtN ws h).map fun k => wayF ws f (h ||| 2 ^ k)).sum = _
  congr 1
  apply List.map_congr_left
  intro k hk
  have := free_or_len (nxt_free hk)
  have e : (freeN ws.length (h ||| 2 ^ k)).length = f := by omega
  rw [e]
theorem sum_nonneg {l : List Int} (h : ∀ x ∈ l, 0 ≤ x) : 0 ≤ l.sum := by
  induction l with
  | nil => exact Int.le_refl 0
  | cons a r ih =>
    rw [List.sum_cons]
    have h1 := h a List.mem_cons_self
    have h2 := ih fun x hx => h x (List.mem_cons_of_mem _ hx)
    omega
theorem wayF_nonneg (ws : List (Int × Int)) : ∀ f h, 0 ≤ wayF ws f h
  | 0, _ => by show (0 : Int) ≤ 1; decide
  | f + 1, h => sum_nonneg fun x hx => by
    obtain ⟨k, _, rfl⟩ := List.mem_map.mp hx
    exact wayF_nonneg ws f _
theorem way_nonneg (ws : List (Int × Int)) (h : Nat) : 0 ≤ way ws h := wayF_nonneg ws _ h
section
variable {f : Nat → Int}
theorem pre_cons (x : Nat) (r : List Nat) (a : Nat) : preN f (x :: r) a = (if x < a then f x else 0) + preN f r a := by
  unfold preN
  by_cases h : x < a
  · rw [List.filter_cons_of_pos (by rw [decide_eq_true h]), List.map_cons, List.sum_cons, if_pos h]
  · rw [List.filter_cons_of_neg (by rw [decide_eq_false h]; decide), if_neg h, Int.zero_add]
theorem pre_nonneg (hf : ∀ k, 0 ≤ f k) (l : List Nat) (a : Nat) : 0 ≤ preN f l a := sum_nonneg fun x hx => by
  obtain ⟨k, _, rfl⟩ := List.mem_map.mp hx
  exact hf k
theorem pre_le (hf : ∀ k, 0 ≤ f k) {a b : Nat} (h : a ≤ b) : ∀ l, preN f l a ≤ preN f l b
  | [] => Int.le_refl _
  | x :: r => by
    have ih := pre_le hf h r
    have := hf x
    rw [pre_cons, pre_cons]
    split <;> split <;> omega
theorem pre_lt (hf : ∀ k, 0 ≤ f k) {a b : Nat} (h : a < b) : ∀ l, a ∈ l → preN f l a + f a ≤ preN f l b
  | [], ha => absurd ha List.not_mem_nil
  | x :: r, ha => by
    rw [pre_cons, pre_cons]
    have hx := hf x
    rcases List.mem_cons.mp ha with e | ha
    · subst e
      have := pre_le hf (Nat.le_of_lt h) r
      rw [if_neg (Nat.lt_irrefl _), if_pos h]
      omega
    · have ih := pre_lt hf h r ha
      split <;> split <;> omega
theorem pre_sum (hf : ∀ k, 0 ≤ f k) {a : Nat} : ∀ l, a ∈ l → preN f l a + f a ≤ (l.map f).sum
  | [], ha => absurd ha List.not_mem_nil
  | x :: r, ha => by
    have le : ∀ l, preN f l a ≤ (l.map f).sum := fun l => by
      induction l with
      | nil => exact Int.le_refl _
      | cons y s ih =>
        have := hf y
        rw [pre_cons, List.map_cons, List.sum_cons]
        split <;> omega
    rw [pre_cons, List.map_cons, List.sum_cons]
    have hx := hf x
    rcases List.mem_cons.mp ha with e | ha
    · subst e
      have := le r
      rw [if_neg (Nat.lt_irrefl _)]
      omega
    · have ih := pre_sum hf r ha
      split <;> omega
theorem pre_zero : ∀ (s : List Nat) (z : Nat), (∀ y ∈ s, z ≤ y) → preN f s z = 0
  | [], _, _ => rfl
  | y :: s, z, h => by
    rw [pre_cons, if_neg (by have := h y List.mem_cons_self; omega), pre_zero s z fun w hw => h w (List.mem_cons_of_mem _ hw)]
    rfl
theorem pre_best (hf : ∀ k, 0 ≤ f k) : ∀ (l : List Nat) (left : Int) (m : Nat), l.Pairwise (· < ·) → left < (l.map f).sum → m ∈ l → preN f l m ≤ left → (∀ y ∈ l, preN f l y ≤ left → y ≤ m) → left < preN f l m + f m
  | [], _, _, _, _, hm, _, _ => absurd hm List.not_mem_nil
  | x :: r, left, m, hp, hs, hm, hle, hmax => by
    obtain ⟨p1, p2⟩ := List.pairwise_cons.mp hp
    rw [List.map_cons, List.sum_cons] at hs
    rcases List.mem_cons.mp hm with e | hm
    · subst e
      rw [pre_cons, if_neg (Nat.lt_irrefl _), pre_zero r m fun y hy => Nat.le_of_lt (p1 y hy)]
      cases r with
      | nil =>
        rw [List.map_nil, List.sum_nil] at hs
        omega
      | cons y s =>
        have hy := p1 y List.mem_cons_self
        have py := hmax y (List.mem_cons_of_mem _ List.mem_cons_self)
        rw [pre_cons, if_pos hy, pre_zero (y :: s) y fun w hw => by
          rcases List.mem_cons.mp hw with e | hw
          · rw [e]; exact Nat.le_refl _
          · exact Nat.le_of_lt ((List.pairwise_cons.mp p2).1 w hw)] at py
        omega
    · have hx := p1 m hm
      rw [pre_cons, if_pos hx] at hle ⊢
      have := pre_best hf r (left - f x) m p2 (by omega) hm (by omega) fun y hy hle' => hmax y (List.mem_cons_of_mem _ hy) (by rw [pre_cons, if_pos (p1 y hy)]; omega)
      omega
theorem pre_first (hf : ∀ k, 0 ≤ f k) {l : List Nat} {left : Int} (hp : l.Pairwise (· < ·)) (h0 : 0 ≤ left) (hs : left < (l.map f).sum) : ∃ x ∈ l, preN f l x ≤ left := by
  cases l with
  | nil =>
    rw [List.map_nil, List.sum_nil] at hs
    omega
  | cons x r =>
    refine ⟨x, List.mem_cons_self, ?_⟩
    have z : (x :: r).filter (fun k => decide (k < x)) = [] := by
      rw [List.filter_eq_nil_iff]
      intro y hy
      rcases List.mem_cons.mp hy with e | hy
      · rw [e, decide_eq_false (Nat.lt_irrefl _)]; decide
      · have := (List.pairwise_cons.mp hp).1 y hy
        rw [decide_eq_false (by omega)]; decide
    unfold preN
    rw [z]
    exact h0
end
theorem less_nonneg (ws : List (Int × Int)) (h a : Nat) : 0 ≤ lessN ws h a := pre_nonneg (fun k => way_nonneg ws _) _ _
theorem less_lt {ws : List (Int × Int)} {h a b : Nat} (hab : a < b) (ha : a ∈ nxtN ws h) : lessN ws h a + way ws (h ||| 2 ^ a) ≤ lessN ws h b := pre_lt (f := fun k => way ws (h ||| 2 ^ k)) (fun k => way_nonneg ws _) hab _ ha
theorem free_ne {n h a : Nat} (ha : a ∈ freeN n h) : freeN n h ≠ [] := fun e => by rw [e] at ha; cases ha
theorem less_way {ws : List (Int × Int)} {h a : Nat} (ha : a ∈ nxtN ws h) : lessN ws h a + way ws (h ||| 2 ^ a) ≤ way ws h := by
  rw [way_step (free_ne (nxt_free ha))]
  exact pre_sum (f := fun k => way ws (h ||| 2 ^ k)) (fun k => way_nonneg ws _) _ ha
theorem path_num {ws : List (Int × Int)} : ∀ (r : List Nat) (h : Nat), Path ws h r → 0 ≤ numOf ws h r ∧ numOf ws h r < way ws h
  | [], h, p => by
    rw [way_full p]
    exact ⟨Int.le_refl _, by show (0 : Int) < 1; decide⟩
  | a :: r, h, ⟨ha, p⟩ => by
    have ⟨i1, i2⟩ := path_num r _ p
    have := less_way ha
    have := less_nonneg ws h a
    show 0 ≤ lessN ws h a + numOf ws (h ||| 2 ^ a) r ∧ lessN ws h a + numOf ws (h ||| 2 ^ a) r < _
    omega
theorem path_less {ws : List (Int × Int)} {h a b : Nat} {r s : List Nat} (p : Path ws h (a :: r)) (q : Path ws h (b :: s)) (hab : a < b) : numOf ws h (a :: r) < numOf ws h (b :: s) := by
  have := (path_num r _ p.2).2
  have := (path_num s _ q.2).1
  have := less_lt hab p.1
  show lessN ws h a + numOf ws (h ||| 2 ^ a) r < lessN ws h b + numOf ws (h ||| 2 ^ b) s
  omega
theorem path_len {ws : List (Int × Int)} : ∀ (r : List Nat) (h : Nat), Path ws h r → r.length = (freeN ws.length h).length
  | [], h, p => by
    have p : freeN ws.length h = [] := p
    rw [p]
  | a :: r, h, ⟨ha, p⟩ => by
    have := path_len r _ p
    have := free_or_len (nxt_free ha)
    rw [List.length_cons]
    omega
theorem path_inj {ws : List (Int × Int)} : ∀ (r s : List Nat) (h : Nat), Path ws h r → Path ws h s → numOf ws h r = numOf ws h s → r = s
  | [], [], _, _, _, _ => rfl
  | [], b :: s, h, p, q, _ => absurd p (free_ne (nxt_free q.1))
  | a :: r, [], h, p, q, _ => absurd q (free_ne (nxt_free p.1))
  | a :: r, b :: s, h, p, q, e => by
    rcases Nat.lt_trichotomy a b with c | c | c
    · have := path_less p q c
      omega
    · subst c
      have e : lessN ws h a + numOf ws (h ||| 2 ^ a) r = lessN ws h a + numOf ws (h ||| 2 ^ a) s := e
      rw [path_inj r s _ p.2 q.2 (by omega)]
    · have := path_less q p c
      omega
/-- less at the first place where two rows differ -/
def lexN : List Nat → List Nat → Bool
  | a :: r, b :: s => if a = b then lexN r s else decide (a < b)
  | _, _ => false
theorem path_lex {ws : List (Int × Int)} : ∀ (r s : List Nat) (h : Nat), Path ws h r → Path ws h s → numOf ws h r < numOf ws h s → lexN r s = true
  | [], [], _, _, _, e => absurd e (Int.lt_irrefl _)
  | [], b :: s, h, p, q, _ => absurd p (free_ne (nxt_free q.1))
  | a :: r, [], h, p, q, _ => absurd q (free_ne (nxt_free p.1))
  | a :: r, b :: s, h, p, q, e => by
    show (if a = b then lexN r s else decide (a < b)) = true
    rcases Nat.lt_trichotomy a b with c | c | c
    · rw [if_neg (Nat.ne_of_lt c)]
      exact decide_eq_true c
    · subst c
      have e : lessN ws h a + numOf ws (h ||| 2 ^ a) r < lessN ws h a + numOf ws (h ||| 2 ^ a) s := e
      rw [if_pos rfl]
      exact path_lex r s _ p.2 q.2 (by omega)
    · have := path_less q p c
      omega
theorem path_perm {ws : List (Int × Int)} : ∀ (r : List Nat) (h : Nat), Path ws h r → (freeN ws.length h).Perm r
  | [], h, p => by
    have p : freeN ws.length h = [] := p
    rw [p]
  | a :: r, h, ⟨ha, p⟩ => by
    have ih := path_perm r _ p
    rw [free_or] at ih
    exact (List.perm_cons_erase (nxt_free ha)).trans (List.Perm.cons _ ih)
theorem path_fit {ws : List (Int × Int)} : ∀ (r : List Nat) (h : Nat), Path ws h r → ∀ (j : Nat) a, r[j]? = some a → fitN ws ((ws.length : Int) - r.length + 1 + j) a = true
  | [], h, _, j, a, e => by rw [List.getElem?_nil] at e; cases e
  | a :: r, h, ⟨ha, p⟩, 0, b, e => by
    cases e
    have hf := (List.mem_filter.mp ha).2
    have hl := path_len (a :: r) h ⟨ha, p⟩
    unfold turnN at hf
    rw [← hl] at hf
    rw [show ((0 : Nat) : Int) = 0 from rfl, Int.add_zero]
    exact hf
  | a :: r, h, ⟨ha, p⟩, j + 1, b, e => by
    have := path_fit r _ p j b (by rw [List.getElem?_cons_succ] at e; exact e)
    rw [List.length_cons]
    have z : (ws.length : Int) - ((r.length + 1 : Nat) : Int) + 1 + ((j + 1 : Nat) : Int) = (ws.length : Int) - r.length + 1 + j := by omega
    rw [z]
    exact this
theorem path_of {ws : List (Int × Int)} : ∀ (r : List Nat) (h : Nat), (freeN ws.length h).Perm r → (∀ (j : Nat) a, r[j]? = some a → fitN ws ((ws.length : Int) - r.length + 1 + j) a = true) → Path ws h r
  | [], h, hp, _ => List.perm_nil.mp hp
  | a :: r, h, hp, hf => by
    have hm : a ∈ freeN ws.length h := hp.mem_iff.mpr List.mem_cons_self
    have h0 := hf 0 a rfl
    rw [show ((0 : Nat) : Int) = 0 from rfl, Int.add_zero] at h0
    refine ⟨List.mem_filter.mpr ⟨hm, ?_⟩, path_of r _ ?_ fun j b e => ?_⟩
    · unfold turnN
      rw [hp.length_eq]
      exact h0
    · rw [free_or]
      have := hp.erase a
      rw [List.erase_cons_head] at this
      exact this
    · have := hf (j + 1) b (by rw [List.getElem?_cons_succ]; exact e)
      rw [List.length_cons] at this
      have z : (ws.length : Int) - ((r.length + 1 : Nat) : Int) + 1 + ((j + 1 : Nat) : Int) = (ws.length : Int) - r.length + 1 + j := by omega
      rw [z] at this
      exact this
theorem free_zero (n : Nat) : freeN n 0 = List.range n := by
  unfold freeN
  rw [List.filter_eq_self]
  intro k _
  rw [Nat.zero_testBit]
  rfl
theorem free_full (n : Nat) : freeN n (2 ^ n - 1) = [] := by
  unfold freeN
  rw [List.filter_eq_nil_iff]
  intro k hk
  rw [Nat.testBit_two_pow_sub_one, decide_eq_true (List.mem_range.mp hk)]
  decide
theorem free_some {n h : Nat} (hh : h < 2 ^ n - 1) : freeN n h ≠ [] := fun e => by
  have : h = 2 ^ n - 1 := by
    apply Nat.eq_of_testBit_eq
    intro j
    rw [Nat.testBit_two_pow_sub_one]
    by_cases hj : j < n
    · rw [decide_eq_true hj]
      cases hb : h.testBit j with
      | true => rfl
      | false =>
        have : j ∈ freeN n h := free_mem.mpr ⟨hj, hb⟩
        rw [e] at this
        cases this
    · rw [decide_eq_false hj]
      exact Nat.testBit_lt_two_pow (Nat.lt_of_lt_of_le (by omega : h < 2 ^ n) (Nat.pow_le_pow_right (by decide) (by omega)))
  omega
theorem or_gt {h k : Nat} (hb : h.testBit k = false) : h < h ||| 2 ^ k := by
  have h1 : h ≤ h ||| 2 ^ k := Nat.left_le_or
  rcases Nat.lt_or_eq_of_le h1 with c | c
  · exact c
  · have : (h ||| 2 ^ k).testBit k = true := by rw [bit_or, decide_eq_true rfl, Bool.or_true]
    rw [← c, hb] at this
    cases this
theorem or_lt {n h k : Nat} (hh : h < 2 ^ n) (hk : k < n) : h ||| 2 ^ k < 2 ^ n := Nat.or_lt_two_pow hh (Nat.pow_lt_pow_right (by decide) hk)
theorem bit_of (h k : Nat) : h / 2 ^ k % 2 = if h.testBit k then 1 else 0 := by
  rw [Nat.testBit_eq_decide_div_mod_eq]
  by_cases e : h / 2 ^ k % 2 = 1
  · rw [decide_eq_true e, e]; rfl
  · rw [decide_eq_false e]
    have : h / 2 ^ k % 2 < 2 := Nat.mod_lt _ (by decide)
    show _ = 0
    omega
theorem best_step {ws : List (Int × Int)} {h m : Nat} {left : Int} (hl : left < way ws h) (he : freeN ws.length h ≠ []) (hm : m ∈ nxtN ws h) (hle : lessN ws h m ≤ left) (hmax : ∀ y ∈ nxtN ws h, lessN ws h y ≤ left → y ≤ m) : 0 ≤ left - lessN ws h m ∧ left - lessN ws h m < way ws (h ||| 2 ^ m) := by
  rw [way_step he] at hl
  have := pre_best (f := fun k => way ws (h ||| 2 ^ k)) (fun k => way_nonneg ws _) (nxtN ws h) left m (nxt_sorted ws h) hl hm hle hmax
  have z : left < lessN ws h m + way ws (h ||| 2 ^ m) := this
  omega
theorem some_step {ws : List (Int × Int)} {h : Nat} {left : Int} (h0 : 0 ≤ left) (hl : left < way ws h) (he : freeN ws.length h ≠ []) : ∃ x ∈ nxtN ws h, lessN ws h x ≤ left := by
  rw [way_step he] at hl
  exact pre_first (f := fun k => way ws (h ||| 2 ^ k)) (fun k => way_nonneg ws _) (nxt_sorted ws h) h0 hl

end Su
namespace Su
/-! ### the program's numbered orders, walked -/
def natI (l : List Nat) : List Int := l.map fun k : Nat => (k : Int)
theorem natI_len (l : List Nat) : (natI l).length = l.length := List.length_map _
theorem nat_given (l : List Nat) (p : Nat → Bool) (v : Nat → V) : given l.length (fun i => p (l.getD i 0)) (fun i => v (l.getD i 0)) = (l.filter p).map v := by
  have h : (List.range l.length).map (fun i => l.getD i 0) = l := by
    apply List.ext_getElem?
    intro i
    rw [List.getElem?_map]
    by_cases hi : i < l.length
    · rw [List.getElem?_range hi, List.getElem?_eq_getElem hi]
      show some (l.getD i 0) = _
      rw [List.getD_eq_getElem?_getD, List.getElem?_eq_getElem hi]
      rfl
    · rw [List.getElem?_eq_none (by rw [List.length_range]; omega), List.getElem?_eq_none (by omega)]
      rfl
  conv => rhs; rw [← h]
  unfold given
  rw [List.filter_map, List.map_map]
  rfl
theorem nat_given1 (l : List Nat) (v : Nat → V) : given l.length (fun _ => true) (fun i => v (l.getD i 0)) = l.map v := by
  have z := nat_given l (fun _ => true) v
  rw [List.filter_eq_self.mpr (fun _ _ => rfl)] at z
  exact z
theorem nat_at {l : List Nat} {i : Nat} {x : V} (h : ((natI l).map V.int)[i]? = some x) : ∃ k, x = .int (k : Nat) ∧ l[i]? = some k ∧ l.getD i 0 = k := by
  unfold natI at h
  rw [List.map_map, List.getElem?_map] at h
  cases hc : l[i]? with
  | none => rw [hc] at h; cases h
  | some c => rw [hc] at h; exact ⟨c, (Option.some.inj h).symm, rfl, by rw [List.getD_eq_getElem?_getD, hc]; rfl⟩
theorem natI_int (l : List Nat) : (natI l).map V.int = l.map fun k : Nat => V.int (k : Nat) := by
  unfold natI
  rw [List.map_map]
  rfl
def wayL (ws : List (Int × Int)) : List Int := (List.range (2 ^ ws.length)).map (way ws)
theorem wayL_at {ws : List (Int × Int)} {h : Nat} (hh : h < 2 ^ ws.length) : (wayL ws)[h]? = some (way ws h) := by
  unfold wayL
  rw [List.getElem?_map, List.getElem?_range hh]
  rfl
theorem ints_at {L : List Int} {h : Nat} {x : Int} (e : L[h]? = some x) : atI (L.map V.int) ((h : Nat) : Int) = some (.int x) := atI_nat (by rw [List.getElem?_map, e]; rfl)
theorem ev_sumN {K : PySem.W.Frag} {σ : L2.St} {H : Hp} {te : TE} {ns : List Int} (h : EvL te σ H (ns.map V.int)) : Ev (tCB (rSum K) (tCons te tNil)) σ H (.int ns.sum) := fun H1 e Q q =>
  h H1 e _ fun p H2 _ e2 h2 => ⟨p, ns, rfl, sq_of h2, q H2 e2⟩
theorem ev_maxN {K : PySem.W.Frag} {σ : L2.St} {H : Hp} {te : TE} {ns : List Int} {M : Int} (h : EvL te σ H (ns.map V.int)) (hM : M ∈ ns) (hmax : ∀ y ∈ ns, y ≤ M) : Ev (tCB (rMax K) (tCons te tNil)) σ H (.int M) := fun H1 e Q q =>
  h H1 e _ fun p H2 _ e2 h2 => ⟨p, ns, rfl, sq_of h2, List.length_pos_of_mem hM, fun m hm hle => by
    have e1 := hle M hM
    have e3 := hmax m hm
    obtain rfl : m = M := by omega
    exact q H2 e2⟩
theorem list_max : ∀ (l : List Nat), l ≠ [] → ∃ M ∈ l, ∀ y ∈ l, y ≤ M
  | [], h => absurd rfl h
  | a :: r, _ => by
    by_cases hr : r = []
    · subst hr
      exact ⟨a, List.mem_cons_self, fun y hy => by rw [List.mem_singleton.mp hy]; exact Nat.le_refl _⟩
    · obtain ⟨M, hM, hm⟩ := list_max r hr
      rcases Nat.lt_or_ge M a with c | c
      · exact ⟨a, List.mem_cons_self, fun y hy => by
          rcases List.mem_cons.mp hy with e | hy
          · rw [e]; exact Nat.le_refl _
          · have := hm y hy; omega⟩
      · exact ⟨M, List.mem_cons_of_mem _ hM, fun y hy => by
          rcases List.mem_cons.mp hy with e | hy
          · rw [e]; exact c
          · exact hm y hy⟩
/-- for .. in range(a, -1, -1) -/
theorem s_forDown {ta : TA} {j : Nat} {a : Int} {tu : TS} {D : Ends} {σ : L2.St} {H : Hp} (h : EvA ta σ H [.int a, .int (-1), .int (-1)]) (ha : -1 ≤ a ∧ a ≤ 100000) (Pv : Nat → L2.St → Hp → Prop) (h0 : ∀ H1, Ex H H1 → Pv 0 σ H1)
    (hs : ∀ (i : Nat) σ' H', (i : Int) ≤ a → Pv i σ' H' → tu { D with nx := Pv (i + 1), ct := Pv (i + 1), bk := D.nx } (σ'.set j (some (.int (a - (i : Int))))) H') (hd : ∀ σ' H', Pv (a + 1).toNat σ' H' → D.nx σ' H') : tFor (iRng3 ta) (gName j) tu D σ H :=
  h H (Ex.refl H) _ fun H1 e => ⟨a, -1, -1, (a - -1).toNat, rfl, RgC.neg (by omega) (by omega) (by decide) (by decide), by
    have en : (a - -1).toNat = (a + 1).toNat := by omega
    rw [en]
    refine ⟨fun i m σ' H' => m = (a + 1).toNat - i ∧ i ≤ (a + 1).toNat ∧ Pv i σ' H', ⟨(a + 1).toNat, by simp, Nat.zero_le _, h0 H1 e⟩, ?_⟩
    rintro i m σ' H' ⟨rfl, hi, p⟩
    by_cases hlt : i < (a + 1).toNat
    · refine .inr ⟨hlt, Pv (i + 1), fun σ2 H2 p' => ⟨(a + 1).toNat - (i + 1), by omega, rfl, hlt, p'⟩, fun y H2 hy => ?_⟩
      obtain ⟨rfl, rfl⟩ := hy
      have := hs i σ' H2 (by omega) p
      have ez : a + (i : Int) * -1 = a - (i : Int) := by omega
      show tu _ (σ'.set j (some (.int (a + (i : Int) * -1)))) H2
      rw [ez]
      exact this
    · have ei : i = (a + 1).toNat := by omega
      subst ei
      exact .inl ⟨Nat.le_refl _, hd σ' H' p⟩⟩
theorem rv_shr {H : Hp} {h k : Nat} : RV (fun x y H Q => ∃ (i : Int) (k : Nat), x = .int i ∧ y = .int (k : Int) ∧ Q (.int (i / 2 ^ k)) H) (.int (h : Nat)) (.int (k : Nat)) H (.int ((h / 2 ^ k : Nat) : Int)) := fun H1 _ _ q => ⟨h, k, rfl, rfl, by
  have e : ((h : Nat) : Int) / 2 ^ k = ((h / 2 ^ k : Nat) : Int) := by
    rw [Int.natCast_ediv, Int.natCast_pow]
    rfl
  rw [e]
  exact q H1 (Ex.refl H1)⟩
theorem rv_odd {H : Hp} {h : Nat} : RV (fun x y H Q => ∃ n : Nat, x = .int (n : Int) ∧ y = .int 1 ∧ Q (.int ((n % 2 : Nat) : Int)) H) (.int (h : Nat)) (.int 1) H (.int ((h % 2 : Nat) : Int)) := fun H1 _ _ q => ⟨h, rfl, rfl, q H1 (Ex.refl H1)⟩
theorem rv_one {H : Hp} {k : Nat} (hk : k ≤ 1000) : RV (fun x y H Q => ∃ k : Nat, x = .int 1 ∧ y = .int (k : Int) ∧ k ≤ 134217727 ∧ Q (.int (2 ^ k)) H) (.int 1) (.int (k : Nat)) H (.int ((2 ^ k : Nat) : Int)) := fun H1 _ _ q => ⟨k, rfl, rfl, by omega, by
  have e : (2 : Int) ^ k = ((2 ^ k : Nat) : Int) := by rw [Int.natCast_pow]; rfl
  rw [e]
  exact q H1 (Ex.refl H1)⟩
theorem bitor_nat (x y : Nat) : Builtin.bitOr (x : Int) (y : Int) = ((x ||| y : Nat) : Int) := by
  have n1 : ∀ z : Nat, Builtin.bitNot (z : Int) = -(z : Int) - 1 := fun z => rfl
  have n2 : ∀ z : Nat, Builtin.bitNot (-(z : Int) - 1) = (z : Int) := fun z => by
    show -(-(z : Int) - 1) - 1 = (z : Int)
    omega
  unfold Builtin.bitOr
  rw [n1, n1]
  unfold Builtin.bitAnd
  rw [decide_eq_false (by omega : ¬ (0 : Int) ≤ -(x : Int) - 1), decide_eq_false (by omega : ¬ (0 : Int) ≤ -(y : Int) - 1)]
  show Builtin.bitNot (Builtin.bitNot (((Builtin.bitNot (-(x : Int) - 1)).toNat ||| (Builtin.bitNot (-(y : Int) - 1)).toNat : Nat) : Int)) = _
  rw [n2, n2, Int.toNat_natCast, Int.toNat_natCast, n1, n2]
theorem rv_or {H : Hp} {x y : Nat} : RV (rI0 fun i j => .int (Builtin.bitOr i j)) (.int (x : Nat)) (.int (y : Nat)) H (.int ((x ||| y : Nat) : Int)) := fun H1 _ _ q => ⟨x, y, rfl, rfl, by have z := q H1 (Ex.refl H1); rw [← bitor_nat] at z; exact z⟩
theorem nat_eqd {i j : Nat} : decide (V.int (i : Nat) = V.int (j : Nat)) = decide (i = j) := by
  by_cases h : i = j
  · rw [h, decide_eq_true rfl, decide_eq_true rfl]
  · rw [decide_eq_false h, decide_eq_false (fun z => h (by have := V.int.inj z; omega))]
section
variable {P : Program} {w : World} {K : PySem.W.Frag} {mg : Str → Option Value} {base : Heap}
def spWith : Sp := fun vs H Q _ => ∃ h a : Nat, vs = [.int (h : Nat), .int (a : Nat)] ∧ a ≤ 1000 ∧ ∀ H', Ex H H' → Q (.int ((h ||| 2 ^ a : Nat) : Int)) H'
theorem spV_with {h a : Nat} {H : Hp} (ha : a ≤ 1000) : SpV spWith [.int (h : Nat), .int (a : Nat)] H (.int ((h ||| 2 ^ a : Nat) : Int)) := fun H1 _ Q q _ => ⟨h, a, rfl, ha, q⟩
theorem ok_with_window {f : Addr} {fd : FuncData} {k : Nat} (F : Fun K "with_window" "with_window" s_with_window f fd) (T : Top K mg) : FnOk P w K mg base CX0 (k + 1) f fd ["held", "at"] spWith := by
  have nd := sc_with_window.nd
  refine F.ok sc_with_window (fun vs H Q E h => ?_) (fun cdv A outer s H vs Q E hr h => ?_)
  · obtain ⟨h, a, rfl, _⟩ := h
    rfl
  · obtain ⟨h, a, rfl, ha, q⟩ := h
    refine ⟨_, (pss_one (ps_ret (pe_op op_or (pv 0) (pe_op op_oneShl pe_int (pv 1))))), ?_⟩
    exact s_ret (ev_op (ev_var rfl) (ev_op ev_c (ev_var rfl) (rv_one ha)) rv_or) fun H1 e1 => q H1 e1
def spNext (K : PySem.W.Frag) : Sp := fun vs H Q _ => ∃ (l : Addr) (qs : List Win) (h : Nat), vs = [.ref l, .int (h : Nat)] ∧ SqL K H l (refs qs) ∧ TW H qs ∧ qs.length ≤ 1000 ∧ ∀ H' p, H p = none → Ex H H' → H' p = some (.lst ((natI (nxtN (wsOf qs) h)).map V.int)) → Q (.ref p) H'
theorem spL_next {l : Addr} {qs : List Win} {h : Nat} {H : Hp} (hl : SqL K H l (refs qs)) (ht : TW H qs) (hn : qs.length ≤ 1000) : SpL (spNext K) [.ref l, .int (h : Nat)] H ((natI (nxtN (wsOf qs) h)).map V.int) :=
  fun H1 e Q q _ => ⟨l, qs, h, rfl, ex_l e hl, ht.ex e, hn, fun H' p hp e' h' => q p H' hp e' h'⟩
theorem ok_next_windows {f : Addr} {fd : FuncData} {k : Nat} (F : Fun K "next_windows" "next_windows" s_next_windows f fd) (T : Top K mg) : FnOk P w K mg base CX0 (k + 1) f fd ["windows", "held"] (spNext K) := by
  have nd := sc_next_windows.nd
  refine F.ok sc_next_windows (fun vs H Q E h => ?_) (fun cdv A outer s H vs Q E hr h => ?_)
  · obtain ⟨l, qs, h, rfl, _⟩ := h
    rfl
  · obtain ⟨l, qs, h, rfl, hl, ht, hn, q⟩ := h
    refine ⟨_, (pss_cons (ps_setLc (i := 2) (own := [("at", 4)]) (g := gName 4) (tt := _) rfl nd rfl rfl (sw_true rfl rfl rfl (by decide +kernel)) (pi_range1 rfl T.m_range (pa_cons (pe_callB call_len_seq (by rfl) T.m_len PySem.boot_len (pa_cons (pv 0) pa_nil)) pa_nil)) (blkOk_by (own := [("at", 4)]) (N := Su.N_next_windows) (sc := defScope s_next_windows) (by decide +kernel)) (fun _ _ _ _ _ => (pg_name (i := 4) nd rfl (.inl rfl))) (fun _ _ _ _ _ => (pts_one (pt_cmpR op_eq (pe_op op_odd (pe_op op_shrN (pv 1) (pv 4)) pe_int) pe_int (nomark _)))) (fun _ _ _ _ _ => (pv 4)))
      (pss_cons (ps_set (i := 3) nd rfl (.inr rfl) (pe_op op_add (pe_op op_sub (pe_callB call_len_seq (by rfl) T.m_len PySem.boot_len (pa_cons (pv 0) pa_nil)) (pe_callB call_len_seq (by rfl) T.m_len PySem.boot_len (pa_cons (pv 2) pa_nil))) pe_int))
      (pss_one (ps_ret (pe_lc (own := [("at", 4)]) (g := gName 4) (tt := _) rfl nd (pi_list (pv 2)) (blkOk_by (own := [("at", 4)]) (N := Su.N_next_windows) (sc := defScope s_next_windows) (by decide +kernel)) (fun _ _ _ _ _ => (pg_name (i := 4) nd rfl (.inl rfl))) (fun _ _ _ _ _ => (pts_one (pt_chain op_le op_le (pe_ix (ix_tupK (K := K) rfl) (pe_ix (ix_listK (K := K) rfl) (pv 0) (pv 4) (fun _ _ => rfl)) pe_int (fun _ _ => rfl)) (pv 3) (pe_ix (ix_tupK (K := K) rfl) (pe_ix (ix_listK (K := K) rfl) (pv 0) (pv 4) (fun _ _ => rfl)) pe_int (fun _ _ => rfl))))) (fun _ _ _ _ _ => (pv 4))))))), ?_⟩
    have hlen : ∀ {H1 : Hp} {σ : L2.St} {te : TE}, Ex H H1 → Ev te σ H1 (.ref l) → Ev (tCB (rLenS K) (tCons te tNil)) σ H1 (.int ((wsOf qs).length : Int)) := fun e h => ev_is (ev_len h (ex_l e hl)) (congrArg (fun n : Nat => V.int (n : Int)) (refs_len.trans ws_len.symm))
    refine q_asgL (xs := (natI (freeN (wsOf qs).length h)).map V.int) ?_ fun fr H1 hfr e1 h1 => ?_
    · rw [natI_int, show (freeN (wsOf qs).length h).map (fun k : Nat => V.int (k : Nat)) = given (((wsOf qs).length : Int)).toNat (fun k => !h.testBit k) (fun k : Nat => V.int (k : Nat)) from rfl]
      refine el_lcR1 _ _ (ea_cons (hlen (Ex.refl H) (ev_var rfl)) ea_nil) (by rw [ws_len]; omega) (fun x => rfl) (fun i Hb eb hi => ?_) (fun i Hb eb hi _ => ev_var rfl)
      refine et_is (et_test (ev_op (ev_op (ev_op (ev_var rfl) (ev_var rfl) rv_shr) ev_c rv_odd) ev_c (rv_eq rfl))) ?_
      rw [show V.int 0 = V.int ((0 : Nat) : Int) from rfl, nat_eqd, bit_of]
      cases h.testBit i <;> rfl
    have hl1 := ex_l e1 hl
    refine q_asg (v := .int (turnN (wsOf qs).length h)) (ev_is (ev_op (ev_op (hlen e1 (ev_var rfl)) (ev_len (ev_var rfl) (sq_of h1)) rv_I0) ev_c rv_I0) (by rw [List.length_map, natI_len]; rfl)) fun H2 e2 => ?_
    have h2 := e2 _ _ h1
    have hl2 := ex_l e2 hl1
    have ht2 := ht.ex (e1.trans e2)
    refine s_retL (xs := (natI (nxtN (wsOf qs) h)).map V.int) ?_ fun p H3 hp e3 h3 => q H3 p (fresh_back (e1.trans e2) hp) ((e1.trans e2).trans e3) h3
    have hfree : (freeN (wsOf qs).length h).length ≤ qs.length := by
      have := List.length_filter_le (fun k => !h.testBit k) (List.range (wsOf qs).length)
      rw [List.length_range, ws_len] at this
      rw [ws_len]
      exact this
    rw [natI_int, nxtN, ← nat_given, show (freeN (wsOf qs).length h).length = ((natI (freeN (wsOf qs).length h)).map V.int).length by rw [List.length_map, natI_len]]
    refine el_lcL _ _ (ev_var rfl) (sq_of h2) (by rw [List.length_map, natI_len]; omega) (fun x => rfl) (fun i x Hb eb gx => ?_) (fun i x Hb eb gx _ => ?_)
    · obtain ⟨k, rfl, gk, ek⟩ := nat_at gx
      have hk := (free_mem.mp (List.mem_of_getElem? gk)).1
      rw [ws_len] at hk
      obtain ⟨w, gw⟩ : ∃ w, qs[k]? = some w := ⟨_, List.getElem?_eq_getElem hk⟩
      have hw := ht2.ex eb w (List.mem_of_getElem? gw)
      have hlb := ex_l eb hl2
      rw [ek]
      have hv : fitN (wsOf qs) (turnN (wsOf qs).length h) k = (decide (w.2.1 ≤ turnN (wsOf qs).length h) && decide (turnN (wsOf qs).length h ≤ w.2.2)) := by
        unfold fitN
        rw [ws_at gw]
      rw [hv]
      exact et_chain (ev_w0 (ev_win (ev_var rfl) (ev_var rfl) hlb gw) hw) (ev_var rfl) (ev_w1 (ev_win (ev_var rfl) (ev_var rfl) hlb gw) hw)
    · obtain ⟨k, rfl, gk, ek⟩ := nat_at gx
      rw [ek]
      exact ev_var rfl
def spWays (K : PySem.W.Frag) : Sp := fun vs H Q _ => ∃ (l : Addr) (qs : List Win), vs = [.ref l] ∧ SqL K H l (refs qs) ∧ TW H qs ∧ qs.length ≤ 8 ∧ ∀ H' p, H p = none → Ex H H' → H' p = some (.lst ((wayL (wsOf qs)).map V.int)) → Q (.ref p) H'
theorem spL_ways {l : Addr} {qs : List Win} {H : Hp} (hl : SqL K H l (refs qs)) (ht : TW H qs) (hn : qs.length ≤ 8) : SpL (spWays K) [.ref l] H ((wayL (wsOf qs)).map V.int) :=
  fun H1 e Q q _ => ⟨l, qs, rfl, ex_l e hl, ht.ex e, hn, fun H' p hp e' h' => q p H' hp e' h'⟩
theorem nxt_len (ws : List (Int × Int)) (h : Nat) : (nxtN ws h).length ≤ ws.length := by
  have h1 := List.length_filter_le (fitN ws (turnN ws.length h)) (freeN ws.length h)
  have h2 := List.length_filter_le (fun k => !h.testBit k) (List.range ws.length)
  rw [List.length_range] at h2
  exact Nat.le_trans h1 h2
theorem ok_ways_on {f : Addr} {fd : FuncData} (F : Fun K "ways_on" "ways_on" s_ways_on f fd) (T : Top K mg) : FnOk P w K mg base CX0 2 f fd ["windows"] (spWays K) := by
  have nd := sc_ways_on.nd
  have G_next_windows : FnOk P w K mg base CX0 1 T.f_next_windows T.fd_next_windows ["windows", "held"] (spNext K) := ok_next_windows T.F_next_windows T
  have G_with_window : FnOk P w K mg base CX0 1 T.f_with_window T.fd_with_window ["held", "at"] spWith := ok_with_window T.F_with_window T
  refine F.ok sc_ways_on (fun vs H Q E h => ?_) (fun cdv A outer s H vs Q E hr h => ?_)
  · obtain ⟨l, qs, rfl, _⟩ := h
    rfl
  · obtain ⟨l, qs, rfl, hl, ht, hn, q⟩ := h
    refine ⟨_, (pss_cons (ps_set (i := 1) nd rfl (.inl rfl) (pe_op op_sub (pe_op op_oneShl pe_int (pe_callB call_len_seq (by rfl) T.m_len PySem.boot_len (pa_cons (pv 0) pa_nil))) pe_int))
      (pss_cons (ps_set (i := 2) nd rfl (.inr rfl) (pe_op op_cat (pe_op op_rep (pe_lst (pa_cons pe_int pa_nil)) (pv 1)) (pe_lst (pa_cons pe_int pa_nil))))
      (pss_cons (ps_for PassesOwn.never rfl (pi_range3 rfl T.m_range (pa_cons (pe_op op_sub (pv 1) pe_int) (pa_cons (pe_un un_neg pe_int) (pa_cons (pe_un un_neg pe_int) pa_nil)))) (pg_name (i := 3) nd rfl (.inr rfl))
        (pss_one (ps_asg (pe_callB (cr_sum rfl) (by rfl) T.m_sum (by decide +kernel) (pa_cons (pe_lc (own := [("at", 4)]) (g := gName 4) (tt := tYes) rfl nd (pi_list (pe_call G_next_windows (hr.mono (by decide)) (by rfl) T.m_next_windows T.F_next_windows.kp T.b_next_windows .nil pass0 (pa_cons (pv 0) (pa_cons (pv 3) pa_nil)))) (blkOk_by (own := [("at", 4)]) (N := Su.N_ways_on) (sc := defScope s_ways_on) (by decide +kernel)) (fun _ _ _ _ _ => (pg_name (i := 4) nd rfl (.inl rfl))) (fun _ _ _ _ _ => pts_nil) (fun _ _ _ _ _ => (pe_ix (ix_listK (K := K) rfl) (pv 2) (pe_call G_with_window (hr.mono (by decide)) (by rfl) T.m_with_window T.F_with_window.kp T.b_with_window .nil pass0 (pa_cons (pv 3) (pa_cons (pv 4) pa_nil))) (fun _ _ => rfl)))) pa_nil)) (pg_sub (pv 2) (pv 3) set_list))))
      (pss_one (ps_ret (pv 2)))))), ?_⟩
    have hp2 : 2 ^ qs.length ≤ 2 ^ 8 := Nat.pow_le_pow_right (by decide) hn
    have hp1 : 1 ≤ 2 ^ qs.length := Nat.one_le_two_pow
    obtain ⟨fu, hfu⟩ : ∃ fu : Nat, 2 ^ qs.length = fu + 1 := ⟨2 ^ qs.length - 1, by omega⟩
    have hfu8 : fu < 256 := by
      rw [hfu] at hp2
      have : (2 : Nat) ^ 8 = 256 := by decide
      omega
    refine q_asg (v := .int (fu : Nat)) (ev_is (ev_op (ev_op ev_c (ev_is (ev_len (ev_var rfl) hl) (congrArg (fun n : Nat => V.int (n : Int)) refs_len)) (rv_one (by omega))) ev_c rv_I0) (by rw [hfu]; exact congrArg V.int (by omega))) fun H1 e1 => ?_
    refine q_asgL (xs := (List.replicate fu (0 : Int) ++ [1]).map V.int) ?_ fun p H2 hp e2 h2 => ?_
    · have := el_cat (ta := tOp rRep (tLst (tCons (tC (V.int 0)) tNil)) (tVar 1)) (tb := tLst (tCons (tC (V.int 1)) tNil)) (σ := [some (.ref l), some (.int (fu : Nat)), none, none, none]) (H := H1) (el_rep1 (k := (fu : Nat)) (el_lst (ea_cons ev_c ea_nil) (by show 1 ≤ 100000; decide)) (ev_var rfl) (by omega) (by omega)) (el_lst (ea_cons ev_c ea_nil) (by show 1 ≤ 100000; decide)) (by rw [List.length_replicate]; show _ + 1 ≤ _; omega)
      rw [Int.toNat_natCast] at this
      rw [List.map_append, List.map_replicate]
      exact this
    have e12 := e1.trans e2
    refine s_forDown (a := (fu : Int) - 1) (ea_cons (ev_op (ev_var rfl) ev_c rv_I0) (ea_cons (ev_un ev_c ru_neg) (ea_cons (ev_un ev_c ru_neg) ea_nil))) (by omega) (fun i σ' H' => ∃ (L : List Int) (y : Option V), σ' = [some (.ref l), some (.int (fu : Nat)), some (.ref p), y, none] ∧ Ex H H' ∧ H' p = some (.lst (L.map V.int)) ∧ L.length = fu + 1 ∧ ∀ x, fu - i ≤ x → x ≤ fu → L[x]? = some (way (wsOf qs) x)) ?_ ?_ ?_
    · intro H3 e3
      refine ⟨List.replicate fu (0 : Int) ++ [1], none, rfl, e12.trans e3, e3 _ _ h2, by rw [List.length_append, List.length_replicate]; rfl, fun x h1 h2 => ?_⟩
      obtain rfl : x = fu := by omega
      rw [way_full (by rw [show x = 2 ^ (wsOf qs).length - 1 by rw [ws_len, hfu]; rfl]; exact free_full _), List.getElem?_append_right (by rw [List.length_replicate]; exact Nat.le_refl _), List.length_replicate, Nat.sub_self]
      rfl
    · rintro i σ' H' hi ⟨L, y, rfl, ex, hL, hLl, hLw⟩
      obtain ⟨h, hh⟩ : ∃ h : Nat, (fu : Int) - 1 - (i : Int) = (h : Int) := ⟨((fu : Int) - 1 - (i : Int)).toNat, by omega⟩
      rw [hh]
      have hhf : h < fu := by omega
      have hne : freeN (wsOf qs).length h ≠ [] := free_some (by rw [ws_len, hfu]; exact hhf)
      have hl' := ex_l ex hl
      have ht' := ht.ex ex
      refine s_asgSub (v := .int (way (wsOf qs) h)) hL ?_ (ev_var rfl) (ev_var rfl) rfl (by rw [List.length_map]; omega) fun H3 e3 => ?_
      · rw [way_step hne]
        refine ev_sumN ?_
        rw [List.map_map, ← nat_given1, show (nxtN (wsOf qs) h).length = ((natI (nxtN (wsOf qs) h)).map V.int).length by rw [List.length_map, natI_len]]
        refine el_lcNL _ _ (el_call (ea_cons (ev_var rfl) (ea_cons (ev_var rfl) ea_nil)) (spL_next hl' ht' (by omega))) (by rw [List.length_map, natI_len]; have := nxt_len (wsOf qs) h; rw [ws_len] at this; omega) (fun x => rfl) (fun i x Hb eb gx => et_yes) (fun i x Hb eb gx _ => ?_)
        obtain ⟨k, rfl, gk, ek⟩ := nat_at gx
        have hk := List.mem_of_getElem? gk
        have hk1 := nxt_lt hk
        rw [ws_len] at hk1
        rw [ek]
        have hg : h < h ||| 2 ^ k := or_gt (free_mem.mp (nxt_free hk)).2
        have hlt := or_lt (n := qs.length) (h := h) (k := k) (by omega) hk1
        exact ev_op (ev_var rfl) (ev_call (ea_cons (ev_var rfl) (ea_cons (ev_var rfl) ea_nil)) (spV_with (by omega))) (rv_ixL (sq_of (eb _ _ hL)) (ints_at (hLw _ (by omega) (by omega))))
      · refine ⟨L.set h (way (wsOf qs) h), _, rfl, ex_up (ex.trans e3) (fresh_back e1 hp), ?_, by rw [List.length_set]; exact hLl, fun x h1 h2 => ?_⟩
        · rw [upd_same, ints_set]
        · rw [List.getElem?_set]
          by_cases hx : h = x
          · subst hx
            rw [if_pos rfl, if_pos (by omega)]
          · rw [if_neg hx]
            exact hLw x (by omega) h2
    · rintro σ' H' ⟨L, y, rfl, ex, hL, hLl, hLw⟩
      refine s_ret (ev_var rfl) fun H3 e3 => ?_
      refine q H3 p (fresh_back e1 hp) (ex.trans e3) ?_
      rw [e3 _ _ hL]
      have : L = wayL (wsOf qs) := by
        apply List.ext_getElem?
        intro x
        by_cases hx : x ≤ fu
        · rw [hLw x (by omega) hx, wayL_at (by rw [ws_len, hfu]; omega)]
        · rw [List.getElem?_eq_none (by omega), List.getElem?_eq_none (by unfold wayL; rw [List.length_map, List.length_range, ws_len, hfu]; omega)]
      rw [this]
def spLess (K : PySem.W.Frag) : Sp := fun vs H Q _ => ∃ (l W : Addr) (qs : List Win) (h a : Nat), vs = [.ref l, .ref W, .int (h : Nat), .int (a : Nat)] ∧ SqL K H l (refs qs) ∧ TW H qs ∧ qs.length ≤ 8 ∧ SqL K H W ((wayL (wsOf qs)).map V.int) ∧ h < 2 ^ qs.length ∧ ∀ H', Ex H H' → Q (.int (lessN (wsOf qs) h a)) H'
theorem spV_less {l W : Addr} {qs : List Win} {h a : Nat} {H : Hp} (hl : SqL K H l (refs qs)) (ht : TW H qs) (hn : qs.length ≤ 8) (hW : SqL K H W ((wayL (wsOf qs)).map V.int)) (hh : h < 2 ^ qs.length) : SpV (spLess K) [.ref l, .ref W, .int (h : Nat), .int (a : Nat)] H (.int (lessN (wsOf qs) h a)) :=
  fun H1 e Q q _ => ⟨l, W, qs, h, a, rfl, ex_l e hl, ht.ex e, hn, ex_l e hW, hh, q⟩
theorem nat_ltd {i j : Nat} : decide (((i : Nat) : Int) < ((j : Nat) : Int)) = decide (i < j) := by
  by_cases h : i < j
  · rw [decide_eq_true h, decide_eq_true (by omega)]
  · rw [decide_eq_false h, decide_eq_false (by omega)]
theorem ok_lesser_ways {f : Addr} {fd : FuncData} (F : Fun K "lesser_ways" "lesser_ways" s_lesser_ways f fd) (T : Top K mg) : FnOk P w K mg base CX0 2 f fd ["windows", "ways", "held", "at"] (spLess K) := by
  have nd := sc_lesser_ways.nd
  have G_next_windows : FnOk P w K mg base CX0 1 T.f_next_windows T.fd_next_windows ["windows", "held"] (spNext K) := ok_next_windows T.F_next_windows T
  have G_with_window : FnOk P w K mg base CX0 1 T.f_with_window T.fd_with_window ["held", "at"] spWith := ok_with_window T.F_with_window T
  refine F.ok sc_lesser_ways (fun vs H Q E h => ?_) (fun cdv A outer s H vs Q E hr h => ?_)
  · obtain ⟨l, W, qs, h, a, rfl, _⟩ := h
    rfl
  · obtain ⟨l, W, qs, h, a, rfl, hl, ht, hn, hW, hh, q⟩ := h
    refine ⟨_, (pss_one (ps_ret (pe_callB (cr_sum rfl) (by rfl) T.m_sum (by decide +kernel) (pa_cons (pe_lc (own := [("k", 4)]) (g := gName 4) (tt := _) rfl nd (pi_list (pe_call G_next_windows (hr.mono (by decide)) (by rfl) T.m_next_windows T.F_next_windows.kp T.b_next_windows .nil pass0 (pa_cons (pv 0) (pa_cons (pv 2) pa_nil)))) (blkOk_by (own := [("k", 4)]) (N := Su.N_lesser_ways) (sc := defScope s_lesser_ways) (by decide +kernel)) (fun _ _ _ _ _ => (pg_name (i := 4) nd rfl (.inl rfl))) (fun _ _ _ _ _ => (pts_one (pt_cmpR op_lt (pv 4) (pv 3) (nomark _)))) (fun _ _ _ _ _ => (pe_ix (ix_listK (K := K) rfl) (pv 1) (pe_call G_with_window (hr.mono (by decide)) (by rfl) T.m_with_window T.F_with_window.kp T.b_with_window .nil pass0 (pa_cons (pv 2) (pa_cons (pv 4) pa_nil))) (fun _ _ => rfl)))) pa_nil)))), ?_⟩
    refine s_ret (v := .int (lessN (wsOf qs) h a)) ?_ fun H1 e1 => q H1 e1
    unfold lessN preN
    refine ev_sumN ?_
    rw [List.map_map, ← nat_given, show (nxtN (wsOf qs) h).length = ((natI (nxtN (wsOf qs) h)).map V.int).length by rw [List.length_map, natI_len]]
    refine el_lcNL _ _ (el_call (ea_cons (ev_var rfl) (ea_cons (ev_var rfl) ea_nil)) (spL_next hl ht (by omega))) (by rw [List.length_map, natI_len]; have := nxt_len (wsOf qs) h; rw [ws_len] at this; omega) (fun x => rfl) (fun i x Hb eb gx => ?_) (fun i x Hb eb gx _ => ?_)
    · obtain ⟨k, rfl, gk, ek⟩ := nat_at gx
      rw [ek]
      exact et_is (et_test (ev_op (ev_var rfl) (ev_var rfl) rv_I0)) nat_ltd
    · obtain ⟨k, rfl, gk, ek⟩ := nat_at gx
      have hk1 := nxt_lt (List.mem_of_getElem? gk)
      rw [ws_len] at hk1
      rw [ek]
      exact ev_op (ev_var rfl) (ev_call (ea_cons (ev_var rfl) (ea_cons (ev_var rfl) ea_nil)) (spV_with (by omega))) (rv_ixL (ex_l eb hW) (ints_at (wayL_at (by rw [ws_len]; exact or_lt hh hk1))))
end

end Su
namespace Su
/-! ### counted, told by number, numbered -/
theorem inR_fit {ws : List (Int × Int)} {r : List Nat} {i a : Nat} (e : r[i]? = some a) : inRound ws (natI r) i = fitN ws (1 + (i : Int)) a := by
  unfold inRound fitN natI
  rw [List.getElem?_map, e]
  show (match ws[((a : Nat) : Int).toNat]? with | some w => _ | none => _) = _
  rw [Int.toNat_natCast]
theorem nat_perm {r : List Nat} {n : Nat} : (natI r).Perm (rgI n) ↔ r.Perm (List.range n) := by
  unfold natI rgI
  refine ⟨fun h => ?_, fun h => h.map _⟩
  have := h.map Int.toNat
  rw [List.map_map, List.map_map] at this
  have e : ∀ l : List Nat, l.map (Int.toNat ∘ fun k : Nat => (k : Int)) = l := fun l => by
    conv => rhs; rw [← List.map_id l]
    apply List.map_congr_left
    intro k _
    exact Int.toNat_natCast k
  rw [e, e] at this
  exact this
theorem ord_path {ws : List (Int × Int)} {ns : List Int} (h : isOrd ws ns = true) : ∃ r : List Nat, ns = natI r ∧ Path ws 0 r ∧ r.length = ws.length := by
  unfold isOrd at h
  rw [Bool.and_eq_true] at h
  obtain ⟨h1, h2⟩ := h
  have hp := (sortI_eq ns ws.length).mp (of_decide_eq_true h1)
  have hn : ns = natI (ns.map Int.toNat) := by
    unfold natI
    rw [List.map_map]
    conv => lhs; rw [← List.map_id ns]
    apply List.map_congr_left
    intro z hz
    obtain ⟨j, rfl, _⟩ := in_rg (hp.mem_iff.mp hz)
    show ((j : Nat) : Int) = ((((j : Nat) : Int).toNat : Nat) : Int)
    rw [Int.toNat_natCast]
  generalize ns.map Int.toNat = r at hn
  subst hn
  have hr := nat_perm.mp hp
  have hlen : r.length = ws.length := by rw [hr.length_eq, List.length_range]
  refine ⟨r, rfl, path_of r 0 ?_ fun j a e => ?_, hlen⟩
  · rw [free_zero]
    exact hr.symm
  · have hj : j < r.length := (List.getElem?_eq_some_iff.mp e).1
    have h3 := List.all_eq_true.mp h2 (inRound ws (natI r) j) (List.mem_map.mpr ⟨j, List.mem_range.mpr (by rw [natI_len]; exact hj), rfl⟩)
    have h4 : inRound ws (natI r) j = true := h3
    rw [inR_fit e] at h4
    rw [hlen, show (ws.length : Int) - (ws.length : Int) + 1 + (j : Int) = 1 + (j : Int) by omega]
    exact h4
theorem path_full {ws : List (Int × Int)} {r : List Nat} (p : Path ws 0 r) : r.length = ws.length := by
  rw [path_len r 0 p, free_zero, List.length_range]
theorem path_ord {ws : List (Int × Int)} {r : List Nat} (p : Path ws 0 r) : isOrd ws (natI r) = true := by
  have hlen := path_full p
  have hp := path_perm r 0 p
  rw [free_zero] at hp
  unfold isOrd
  rw [decide_eq_true ((sortI_eq _ _).mpr (nat_perm.mpr hp.symm)), Bool.true_and, List.all_eq_true]
  intro b hb
  obtain ⟨j, hj, rfl⟩ := List.mem_map.mp hb
  have hj := List.mem_range.mp hj
  rw [natI_len] at hj
  obtain ⟨a, ha⟩ : ∃ a, r[j]? = some a := ⟨_, List.getElem?_eq_getElem hj⟩
  have h4 := path_fit r 0 p j a ha
  rw [hlen, show (ws.length : Int) - (ws.length : Int) + 1 + (j : Int) = 1 + (j : Int) by omega] at h4
  show inRound ws (natI r) j = true
  rw [inR_fit ha]
  exact h4
section
variable {P : Program} {w : World} {K : PySem.W.Frag} {mg : Str → Option Value} {base : Heap}
def spRefuse (K : PySem.W.Frag) (fT : Addr) : Sp := fun vs H Q E => ∃ (l : Addr) (xs : List V), vs = [.ref l] ∧ SqL K H l xs ∧ (xs.length ≤ 8 → ∀ H', Ex H H' → Q .non H') ∧ (8 < xs.length → ∀ H', Ex H H' → E (.ref fT) none H')
theorem okx_refuse_many {f : Addr} {fd : FuncData} {k : Nat} (F : Fun K "refuse_many" "refuse_many" s_refuse_many f fd) (T : Top K mg) : FnOk P w K mg base (L2.CX P w) (k + 1) f fd ["windows"] (spRefuse K T.f_TooMany) := by
  have nd := sc_refuse_many.nd
  refine F.okX sc_refuse_many (fun vs H Q E h => ?_) (fun cdv A outer s H vs Q E hr h => ?_)
  · obtain ⟨l, xs, rfl, _⟩ := h
    rfl
  · obtain ⟨l, xs, rfl, hl, q, qx⟩ := h
    refine ⟨_, (pss_one (ps_if (pt_cmpR op_gt (pe_callB call_len_seq (by rfl) T.m_len PySem.boot_len (pa_cons (pv 0) pa_nil)) (pe_glob (v := .int 8) (by rfl) T.m_MOST_WINDOWS ⟨_, rfl⟩) (nomark _))
        (pss_one (ps_raise rfl (takes_of rfl rfl rfl rfl) (pmk_own0 PySem.F.excBase_ValueError T.x_TooMany T.m_TooMany T.kp_TooMany (raises_own T.sb_TooMany T.ty_TooMany) (by rfl))))
        pss_nil)), ?_⟩
    refine s_when (b := decide ((xs.length : Int) > 8)) (et_test (ev_op (ev_len (ev_var rfl) hl) ev_c rv_I0)) (fun hb H1 e1 => ?_) (fun hb H1 e1 => ?_)
    · exact qx (by have := of_decide_eq_true hb; omega) H1 e1
    · exact q (by have := of_decide_eq_false hb; omega) H1 e1
/-- the call of refuse_many that stands ahead -/
theorem q_refuse {fT l : Addr} {qs : List Win} {E : XK} {ta : TA} {σ : L2.St} {H : Hp} {D : Ends} {tz : TS} (h : EvA ta σ H [.ref l]) (hl : SqL K H l (refs qs)) (h1 : qs.length ≤ 8 → ∀ H1, Ex H H1 → tz D σ H1) (h2 : 8 < qs.length → ∀ H1, Ex H H1 → E (.ref fT) none H1) :
    tSeq (tDrop (tCall (spRefuse K fT) [] E ta)) tz D σ H := h H (Ex.refl H) _ fun H1 e1 => ⟨l, refs qs, rfl, ex_l e1 hl, fun hn H2 e2 => h1 (by rw [refs_len] at hn; exact hn) H2 (e1.trans e2), fun hn H2 e2 => h2 (by rw [refs_len] at hn; exact hn) H2 (e1.trans e2)⟩
def spCount (K : PySem.W.Frag) (fT : Addr) : Sp := fun vs H Q E => ∃ (l : Addr) (qs : List Win), vs = [.ref l] ∧ SqL K H l (refs qs) ∧ TW H qs ∧ (qs.length ≤ 8 → ∀ H', Ex H H' → Q (.int (way (wsOf qs) 0)) H') ∧ (8 < qs.length → ∀ H', Ex H H' → E (.ref fT) none H')
theorem okx_count_orders {f : Addr} {fd : FuncData} (F : Fun K "count_orders" "count_orders" s_count_orders f fd) (T : Top K mg) : FnOk P w K mg base (L2.CX P w) 3 f fd ["windows"] (spCount K T.f_TooMany) := by
  have nd := sc_count_orders.nd
  have G_refuse_many : FnOk P w K mg base (L2.CX P w) 1 T.f_refuse_many T.fd_refuse_many ["windows"] (spRefuse K T.f_TooMany) := okx_refuse_many T.F_refuse_many T
  have G_ways_on : FnOk P w K mg base CX0 2 T.f_ways_on T.fd_ways_on ["windows"] (spWays K) := ok_ways_on T.F_ways_on T
  refine F.okX sc_count_orders (fun vs H Q E h => ?_) (fun cdv A outer s H vs Q E hr h => ?_)
  · obtain ⟨l, qs, rfl, _⟩ := h
    rfl
  · obtain ⟨l, qs, rfl, hl, ht, q, qx⟩ := h
    refine ⟨_, (pss_cons (ps_expr (pe_call G_refuse_many (hr.mono (by decide)) (by rfl) T.m_refuse_many T.F_refuse_many.kp T.b_refuse_many .nil (passes_call (takes_of rfl rfl rfl rfl) (fun _ _ _ _ h => h)) (pa_cons (pv 0) pa_nil)))
      (pss_one (ps_ret (pe_ix ix_list (pe_call G_ways_on (hr.mono (by decide)) (by rfl) T.m_ways_on T.F_ways_on.kp T.b_ways_on .nil pass0 (pa_cons (pv 0) pa_nil)) pe_int (fun _ _ => rfl))))), ?_⟩
    refine q_refuse (ea_cons (ev_var rfl) ea_nil) hl (fun hn H1 e1 => ?_) qx
    exact s_ret (ev_opL1 (el_call (ea_cons (ev_var rfl) ea_nil) (spL_ways (ex_l e1 hl) (ht.ex e1) hn)) (fun H2 e2 => ev_c) fun p H2 h2 e2 => rv_ixL (sq_of h2) (ints_at (h := 0) (wayL_at Nat.one_le_two_pow))) fun H2 e2 => q hn H2 (e1.trans e2)
def spByNum (K : PySem.W.Frag) (fT fB : Addr) : Sp := fun vs H Q E => ∃ (l : Addr) (qs : List Win) (num : Int), vs = [.ref l, .int num] ∧ SqL K H l (refs qs) ∧ TW H qs ∧ (8 < qs.length → ∀ H', Ex H H' → E (.ref fT) none H') ∧
  (qs.length ≤ 8 → ¬ (0 ≤ num ∧ num < way (wsOf qs) 0) → ∀ H', Ex H H' → E (.ref fB) none H') ∧
  (qs.length ≤ 8 → 0 ≤ num → num < way (wsOf qs) 0 → ∀ (r : List Nat) H' p, H p = none → Ex H H' → H' p = some (.lst ((natI r).map V.int)) → Path (wsOf qs) 0 r → numOf (wsOf qs) 0 r = num → Q (.ref p) H')
theorem okx_order_by_number {f : Addr} {fd : FuncData} (F : Fun K "order_by_number" "order_by_number" s_order_by_number f fd) (T : Top K mg) : FnOk P w K mg base (L2.CX P w) 3 f fd ["windows", "number"] (spByNum K T.f_TooMany T.f_BadNumber) := by
  have nd := sc_order_by_number.nd
  have G_refuse_many : FnOk P w K mg base (L2.CX P w) 1 T.f_refuse_many T.fd_refuse_many ["windows"] (spRefuse K T.f_TooMany) := okx_refuse_many T.F_refuse_many T
  have G_ways_on : FnOk P w K mg base CX0 2 T.f_ways_on T.fd_ways_on ["windows"] (spWays K) := ok_ways_on T.F_ways_on T
  have G_next_windows : FnOk P w K mg base CX0 1 T.f_next_windows T.fd_next_windows ["windows", "held"] (spNext K) := ok_next_windows T.F_next_windows T
  have G_with_window : FnOk P w K mg base CX0 1 T.f_with_window T.fd_with_window ["held", "at"] spWith := ok_with_window T.F_with_window T
  have G_lesser_ways : FnOk P w K mg base CX0 2 T.f_lesser_ways T.fd_lesser_ways ["windows", "ways", "held", "at"] (spLess K) := ok_lesser_ways T.F_lesser_ways T
  refine F.okX sc_order_by_number (fun vs H Q E h => ?_) (fun cdv A outer s H vs Q E hr h => ?_)
  · obtain ⟨l, qs, num, rfl, _⟩ := h
    rfl
  · obtain ⟨l, qs, num, rfl, hl, ht, qT, qB, q⟩ := h
    refine ⟨_, (pss_cons (ps_expr (pe_call G_refuse_many (hr.mono (by decide)) (by rfl) T.m_refuse_many T.F_refuse_many.kp T.b_refuse_many .nil (passes_call (takes_of rfl rfl rfl rfl) (fun _ _ _ _ h => h)) (pa_cons (pv 0) pa_nil)))
      (pss_cons (ps_set (i := 2) nd rfl (.inr rfl) (pe_call G_ways_on (hr.mono (by decide)) (by rfl) T.m_ways_on T.F_ways_on.kp T.b_ways_on .nil pass0 (pa_cons (pv 0) pa_nil)))
      (pss_cons (ps_if (PW.pt (pw_or (pt_cmpR op_lt (pv 1) pe_int (nomark _)) (pw_or1 (pt_cmpR op_ge (pv 1) (pe_ix ix_list (pv 2) pe_int (fun _ _ => rfl)) (nomark _)))))
        (pss_one (ps_raise rfl (takes_of rfl rfl rfl rfl) (pmk_own0 PySem.F.excBase_ValueError T.x_BadNumber T.m_BadNumber T.kp_BadNumber (raises_own T.sb_BadNumber T.ty_BadNumber) (by rfl))))
        pss_nil)
      (pss_cons (ps_set (i := 3) nd rfl (.inl rfl) (pe_lst pa_nil))
      (pss_cons (ps_set (i := 4) nd rfl (.inr rfl) pe_int)
      (pss_cons (ps_set (i := 5) nd rfl (.inr rfl) (pv 1))
      (pss_cons (ps_while (passes_of rfl) (pt_cmpR op_lt (pe_callB call_len_seq (by rfl) T.m_len PySem.boot_len (pa_cons (pv 3) pa_nil)) (pe_callB call_len_seq (by rfl) T.m_len PySem.boot_len (pa_cons (pv 0) pa_nil)) (nomark _))
        (pss_cons (ps_set (i := 6) nd rfl (.inl rfl) (pe_callB (cr_max rfl) (by rfl) T.m_max (by decide +kernel) (pa_cons (pe_lc (own := [("at", 7)]) (g := gName 7) (tt := _) rfl nd (pi_list (pe_call G_next_windows (hr.mono (by decide)) (by rfl) T.m_next_windows T.F_next_windows.kp T.b_next_windows .nil pass0 (pa_cons (pv 0) (pa_cons (pv 4) pa_nil)))) (blkOk_by (own := [("at", 7)]) (N := Su.N_order_by_number) (sc := defScope s_order_by_number) (by decide +kernel)) (fun _ _ _ _ _ => (pg_name (i := 7) nd rfl (.inl rfl))) (fun _ _ _ _ _ => (pts_one (pt_cmpR op_le (pe_call G_lesser_ways (hr.mono (by decide)) (by rfl) T.m_lesser_ways T.F_lesser_ways.kp T.b_lesser_ways .nil pass0 (pa_cons (pv 0) (pa_cons (pv 2) (pa_cons (pv 4) (pa_cons (pv 7) pa_nil))))) (pv 5) (nomark _)))) (fun _ _ _ _ _ => (pv 7))) pa_nil)))
          (pss_cons (ps_aug (i := 5) nd rfl (.inr rfl) (pe_call G_lesser_ways (hr.mono (by decide)) (by rfl) T.m_lesser_ways T.F_lesser_ways.kp T.b_lesser_ways .nil pass0 (pa_cons (pv 0) (pa_cons (pv 2) (pa_cons (pv 4) (pa_cons (pv 6) pa_nil))))) ip_sub)
          (pss_cons (ps_expr (pe_bm PySem.F.plainAttrs_list PySem.F.slot_list_append PySem.F.type_list_append mt_append (pv 3) (pa_cons (pv 6) pa_nil)))
          (pss_one (ps_set (i := 4) nd rfl (.inr rfl) (pe_call G_with_window (hr.mono (by decide)) (by rfl) T.m_with_window T.F_with_window.kp T.b_with_window .nil pass0 (pa_cons (pv 4) (pa_cons (pv 6) pa_nil)))))))))
      (pss_one (ps_ret (pv 3)))))))))), ?_⟩
    refine q_refuse (ea_cons (ev_var rfl) ea_nil) hl (fun hn H1 e1 => ?_) qT
    have hl1 := ex_l e1 hl
    have ht1 := ht.ex e1
    refine q_asgL (el_call (ea_cons (ev_var rfl) ea_nil) (spL_ways hl1 ht1 hn)) fun W H2 hW e2 h2 => ?_
    have hl2 := ex_l e2 hl1
    have ht2 := ht1.ex e2
    refine q_when (b := decide (num < 0) || decide (num ≥ way (wsOf qs) 0)) (et_or (et_test (ev_op (ev_var rfl) ev_c rv_I0)) fun _ => et_test (ev_op (ev_var rfl) (ev_op (ev_var rfl) ev_c (rv_ixL (sq_of h2) (ints_at (h := 0) (wayL_at Nat.one_le_two_pow)))) rv_I0)) (fun hb H3 e3 => ?_) (fun hb H3 e3 => ?_)
    · refine qB hn (fun ⟨h1, h2⟩ => ?_) H3 ((e1.trans e2).trans e3)
      rcases Bool.or_eq_true_iff.mp hb with z | z <;> have := of_decide_eq_true z <;> omega
    rw [Bool.or_eq_false_iff] at hb
    have n0 : 0 ≤ num := by have := of_decide_eq_false hb.1; omega
    have n1 : num < way (wsOf qs) 0 := by have := of_decide_eq_false hb.2; omega
    have q := q hn n0 n1
    have hl3 := ex_l e3 hl2
    have ht3 := ht2.ex e3
    have hW3 := e3 _ _ h2
    refine q_asgL (el_lst ea_nil (by decide)) fun R H4 hR e4 h4 => ?_
    refine q_asg ev_c fun H5 e5 => ?_
    refine q_asg (ev_var rfl) fun H6 e6 => ?_
    have e36 := (e4.trans e5).trans e6
    refine q_while (fun m σ' H' => ∃ (rs : List Nat) (h : Nat) (left : Int) (y : Option V), σ' = [some (.ref l), some (.int num), some (.ref W), some (.ref R), some (.int (h : Nat)), some (.int left), y, none] ∧ m = qs.length - rs.length ∧ Ex H3 H' ∧ H' R = some (.lst ((natI rs).map V.int)) ∧ (freeN (wsOf qs).length h).length + rs.length = qs.length ∧ h < 2 ^ qs.length ∧ 0 ≤ left ∧ left < way (wsOf qs) h ∧
      ∀ t, Path (wsOf qs) h t → numOf (wsOf qs) h t = left → Path (wsOf qs) 0 (rs ++ t) ∧ numOf (wsOf qs) 0 (rs ++ t) = num) qs.length ⟨[], 0, num, none, rfl, rfl, e36, e6 _ _ (e5 _ _ h4), by rw [free_zero, List.length_range, ws_len]; rfl, Nat.pow_pos (by decide), n0, n1, fun t p1 p2 => ⟨p1, p2⟩⟩ ?_
    rintro m σ' H' ⟨rs, h, left, y, rfl, rfl, ex, hRR, hfl, hh, l0, l1, hall⟩
    have hl' := ex_l ex hl3
    have ht' := ht3.ex ex
    have hW' := ex _ _ hW3
    refine ⟨decide ((rs.length : Int) < (qs.length : Int)), et_test (ev_op (ev_is (ev_len (ev_var rfl) (sq_of hRR)) (by rw [List.length_map, natI_len])) (ev_is (ev_len (ev_var rfl) hl') (by rw [refs_len])) rv_I0), fun hb H7 e7 => ?_, fun hb H7 e7 => ?_⟩
    · have hlt : rs.length < qs.length := by have := of_decide_eq_true hb; omega
      have hne : freeN (wsOf qs).length h ≠ [] := fun z => by rw [z, List.length_nil] at hfl; omega
      have hl7 := ex_l e7 hl'
      have ht7 := ht'.ex e7
      have hW7 := e7 _ _ hW'
      have hRR7 := e7 _ _ hRR
      obtain ⟨x0, hx0, hx1⟩ := some_step l0 l1 hne
      obtain ⟨M, hM, hmax⟩ := list_max ((nxtN (wsOf qs) h).filter fun k => decide (lessN (wsOf qs) h k ≤ left)) (fun z => by
        have : x0 ∈ (nxtN (wsOf qs) h).filter fun k => decide (lessN (wsOf qs) h k ≤ left) := List.mem_filter.mpr ⟨hx0, decide_eq_true hx1⟩
        rw [z] at this
        cases this)
      obtain ⟨hM1, hM2⟩ := List.mem_filter.mp hM
      have hM2 := of_decide_eq_true hM2
      have hM3 := nxt_lt hM1
      rw [ws_len] at hM3
      obtain ⟨b0, b1⟩ := best_step l1 hne hM1 hM2 fun y hy hle => hmax y (List.mem_filter.mpr ⟨hy, decide_eq_true hle⟩)
      refine ⟨fun σ2 H2 => ∃ m', m' < qs.length - rs.length ∧ ∃ (rs : List Nat) (h : Nat) (left : Int) (y : Option V), σ2 = [some (.ref l), some (.int num), some (.ref W), some (.ref R), some (.int (h : Nat)), some (.int left), y, none] ∧ m' = qs.length - rs.length ∧ Ex H3 H2 ∧ H2 R = some (.lst ((natI rs).map V.int)) ∧ (freeN (wsOf qs).length h).length + rs.length = qs.length ∧ h < 2 ^ qs.length ∧ 0 ≤ left ∧ left < way (wsOf qs) h ∧
        ∀ t, Path (wsOf qs) h t → numOf (wsOf qs) h t = left → Path (wsOf qs) 0 (rs ++ t) ∧ numOf (wsOf qs) 0 (rs ++ t) = num, fun _ _ z => z, ?_⟩
      refine q_asg (v := .int (M : Nat)) (ev_maxN (ns := natI ((nxtN (wsOf qs) h).filter fun k => decide (lessN (wsOf qs) h k ≤ left))) ?_ (List.mem_map.mpr ⟨M, hM, rfl⟩) fun y hy => ?_) fun H8 e8 => ?_
      · rw [natI_int, ← nat_given, show (nxtN (wsOf qs) h).length = ((natI (nxtN (wsOf qs) h)).map V.int).length by rw [List.length_map, natI_len]]
        refine el_lcNL _ _ (el_call (ea_cons (ev_var rfl) (ea_cons (ev_var rfl) ea_nil)) (spL_next hl7 ht7 (by omega))) (by rw [List.length_map, natI_len]; have := nxt_len (wsOf qs) h; rw [ws_len] at this; omega) (fun x => rfl) (fun i x Hb eb gx => ?_) (fun i x Hb eb gx _ => ?_)
        · obtain ⟨k, rfl, gk, ek⟩ := nat_at gx
          rw [ek]
          exact et_test (ev_op (ev_call (ea_cons (ev_var rfl) (ea_cons (ev_var rfl) (ea_cons (ev_var rfl) (ea_cons (ev_var rfl) ea_nil)))) (spV_less (ex_l eb hl7) (ht7.ex eb) hn (sq_of (eb _ _ hW7)) hh)) (ev_var rfl) rv_I0)
        · obtain ⟨k, rfl, gk, ek⟩ := nat_at gx
          rw [ek]
          exact ev_var rfl
      · obtain ⟨k, hk, rfl⟩ := List.mem_map.mp hy
        have := hmax k hk
        show ((k : Nat) : Int) ≤ (M : Int)
        omega
      have hl8 := ex_l e8 hl7
      have ht8 := ht7.ex e8
      have hW8 := e8 _ _ hW7
      have hRR8 := e8 _ _ hRR7
      refine q_aug (f := fun i j => i - j) rfl (ev_call (ea_cons (ev_var rfl) (ea_cons (ev_var rfl) (ea_cons (ev_var rfl) (ea_cons (ev_var rfl) ea_nil)))) (spV_less hl8 ht8 hn (sq_of hW8) hh)) fun H9 e9 => ?_
      have hRR9 := e9 _ _ hRR8
      refine q_app hRR9 (ev_var rfl) (ev_var rfl) (by rw [List.length_map, natI_len]; omega) fun H10 e10 => ?_
      refine s_asg (ev_call (ea_cons (ev_var rfl) (ea_cons (ev_var rfl) ea_nil)) (spV_with (by omega))) fun H11 e11 => ?_
      have e3R : H3 R = none := hR
      refine ⟨qs.length - (rs ++ [M]).length, by rw [List.length_append]; show _ - (_ + 1) < _; omega, rs ++ [M], h ||| 2 ^ M, left - lessN (wsOf qs) h M, _, rfl, rfl, (ex_up ((((ex.trans e7).trans e8).trans e9).trans e10) e3R).trans e11, ?_, ?_, or_lt hh hM3, b0, b1, fun t p1 p2 => ?_⟩
      · rw [e11 _ _ upd_same]
        unfold natI
        rw [List.map_append, List.map_append]
        rfl
      · have := free_or_len (nxt_free hM1)
        rw [List.length_append]
        show _ + (rs.length + 1) = _
        omega
      · have := hall (M :: t) ⟨hM1, p1⟩ (by show lessN (wsOf qs) h M + numOf (wsOf qs) (h ||| 2 ^ M) t = left; omega)
        rw [List.append_assoc]
        exact this
    · have hlt : ¬ rs.length < qs.length := by have := of_decide_eq_false hb; omega
      have hne : freeN (wsOf qs).length h = [] := List.eq_nil_of_length_eq_zero (by omega)
      have hw := way_full hne
      have := hall [] hne (by show (0 : Int) = left; omega)
      rw [List.append_nil] at this
      refine s_ret (ev_var rfl) fun H8 e8 => ?_
      exact q rs H8 R (fresh_back ((e1.trans e2).trans e3) hR) ((((e1.trans e2).trans e3).trans ex).trans (e7.trans e8)) (e8 _ _ (e7 _ _ hRR)) this.1 this.2
end

end Su
namespace Su
section
variable {P : Program} {w : World} {K : PySem.W.Frag} {mg : Str → Option Value} {base : Heap}
def spNumber (K : PySem.W.Frag) (fT fB : Addr) : Sp := fun vs H Q E => ∃ (l rr : Addr) (qs : List Win) (ns : List Int), vs = [.ref l, .ref rr] ∧ SqL K H l (refs qs) ∧ TW H qs ∧ qs.length ≤ 1000 ∧ SqL K H rr (ns.map V.int) ∧ ns.length ≤ 1000 ∧ (8 < qs.length → ∀ H', Ex H H' → E (.ref fT) none H') ∧
  (qs.length ≤ 8 → isOrd (wsOf qs) ns = false → ∀ H', Ex H H' → E (.ref fB) none H') ∧ (qs.length ≤ 8 → ∀ r, ns = natI r → Path (wsOf qs) 0 r → ∀ H', Ex H H' → Q (.int (numOf (wsOf qs) 0 r)) H')
theorem spV_isOrd {l r : Addr} {qs : List Win} {ns : List Int} {H : Hp} (hl : SqL K H l (refs qs)) (ht : TW H qs) (hq : qs.length ≤ 1000) (hr : SqL K H r (ns.map V.int)) (hn : ns.length ≤ 1000) : SpV (spIsOrder K) [.ref l, .ref r] H (.bl (isOrd (wsOf qs) ns)) := fun H1 e Q q _ => ⟨l, r, qs, ns, rfl, ex_l e hl, ht.ex e, hq, ex_l e hr, hn, q⟩
theorem okx_number_of_order {f : Addr} {fd : FuncData} (F : Fun K "number_of_order" "number_of_order" s_number_of_order f fd) (T : Top K mg) : FnOk P w K mg base (L2.CX P w) 3 f fd ["windows", "row"] (spNumber K T.f_TooMany T.f_BadNumber) := by
  have nd := sc_number_of_order.nd
  have G_refuse_many : FnOk P w K mg base (L2.CX P w) 1 T.f_refuse_many T.fd_refuse_many ["windows"] (spRefuse K T.f_TooMany) := okx_refuse_many T.F_refuse_many T
  have G_is_order : FnOk P w K mg base CX0 1 T.f_is_order T.fd_is_order ["windows", "row"] (spIsOrder K) := ok_is_order T.F_is_order T
  have G_ways_on : FnOk P w K mg base CX0 2 T.f_ways_on T.fd_ways_on ["windows"] (spWays K) := ok_ways_on T.F_ways_on T
  have G_with_window : FnOk P w K mg base CX0 1 T.f_with_window T.fd_with_window ["held", "at"] spWith := ok_with_window T.F_with_window T
  have G_lesser_ways : FnOk P w K mg base CX0 2 T.f_lesser_ways T.fd_lesser_ways ["windows", "ways", "held", "at"] (spLess K) := ok_lesser_ways T.F_lesser_ways T
  refine F.okX sc_number_of_order (fun vs H Q E h => ?_) (fun cdv A outer s H vs Q E hr h => ?_)
  · obtain ⟨l, rr, qs, ns, rfl, _⟩ := h
    rfl
  · obtain ⟨l, rr, qs, ns, rfl, hl, ht, hq, hrr, hns, qT, qB, q⟩ := h
    refine ⟨_, (pss_cons (ps_expr (pe_call G_refuse_many (hr.mono (by decide)) (by rfl) T.m_refuse_many T.F_refuse_many.kp T.b_refuse_many .nil (passes_call (takes_of rfl rfl rfl rfl) (fun _ _ _ _ h => h)) (pa_cons (pv 0) pa_nil)))
      (pss_cons (ps_if (pt_not (pt_val (pe_call G_is_order (hr.mono (by decide)) (by rfl) T.m_is_order T.F_is_order.kp T.b_is_order .nil pass0 (pa_cons (pv 0) (pa_cons (pv 1) pa_nil)))))
        (pss_one (ps_raise rfl (takes_of rfl rfl rfl rfl) (pmk_own0 PySem.F.excBase_ValueError T.x_BadNumber T.m_BadNumber T.kp_BadNumber (raises_own T.sb_BadNumber T.ty_BadNumber) (by rfl))))
        pss_nil)
      (pss_cons (ps_set (i := 2) nd rfl (.inl rfl) (pe_call G_ways_on (hr.mono (by decide)) (by rfl) T.m_ways_on T.F_ways_on.kp T.b_ways_on .nil pass0 (pa_cons (pv 0) pa_nil)))
      (pss_cons (ps_set (i := 3) nd rfl (.inl rfl) pe_int)
      (pss_cons (ps_set (i := 4) nd rfl (.inl rfl) pe_int)
      (pss_cons (ps_for (passes_of rfl) rfl (pi_list (pv 1)) (pg_name (i := 5) nd rfl (.inl rfl))
        (pss_cons (ps_aug (i := 3) nd rfl (.inl rfl) (pe_call G_lesser_ways (hr.mono (by decide)) (by rfl) T.m_lesser_ways T.F_lesser_ways.kp T.b_lesser_ways .nil pass0 (pa_cons (pv 0) (pa_cons (pv 2) (pa_cons (pv 4) (pa_cons (pv 5) pa_nil))))) ip_add)
          (pss_one (ps_set (i := 4) nd rfl (.inl rfl) (pe_call G_with_window (hr.mono (by decide)) (by rfl) T.m_with_window T.F_with_window.kp T.b_with_window .nil pass0 (pa_cons (pv 4) (pa_cons (pv 5) pa_nil)))))))
      (pss_one (ps_ret (pv 3))))))))), ?_⟩
    refine q_refuse (ea_cons (ev_var rfl) ea_nil) hl (fun hn H1 e1 => ?_) qT
    refine q_when (b := !isOrd (wsOf qs) ns) (et_not (et_B (ev_call (ea_cons (ev_var rfl) (ea_cons (ev_var rfl) ea_nil)) (spV_isOrd (ex_l e1 hl) (ht.ex e1) hq (ex_l e1 hrr) hns)))) (fun hb H2 e2 => ?_) (fun hb H2 e2 => ?_)
    · rw [Bool.not_eq_true'] at hb
      exact qB hn hb H2 (e1.trans e2)
    rw [Bool.not_eq_false'] at hb
    obtain ⟨r, rfl, hp, hrl⟩ := ord_path hb
    have q := q hn r rfl hp
    have hl2 := ex_l (e1.trans e2) hl
    have ht2 := ht.ex (e1.trans e2)
    have hrr2 := ex_l (e1.trans e2) hrr
    refine q_asgL (el_call (ea_cons (ev_var rfl) ea_nil) (spL_ways hl2 ht2 hn)) fun W H3 hW e3 h3 => ?_
    refine q_asg ev_c fun H4 e4 => ?_
    refine q_asg ev_c fun H5 e5 => ?_
    have e25 := (e3.trans e4).trans e5
    refine q_forL (xs := (natI r).map V.int) (ev_var rfl) (ex_l e25 hrr2) (fun i σ' H' => ∃ (t : Int) (h : Nat) (y : Option V), σ' = [some (.ref l), some (.ref rr), some (.ref W), some (.int t), some (.int (h : Nat)), y] ∧ Ex H5 H' ∧ h < 2 ^ qs.length ∧ Path (wsOf qs) h (r.drop i) ∧ t + numOf (wsOf qs) h (r.drop i) = numOf (wsOf qs) 0 r) ?_ ?_ ?_ ?_
    · intro H6 e6
      exact ⟨0, 0, none, rfl, e6, Nat.pow_pos (by decide), hp, Int.zero_add _⟩
    · rintro i σ' H' _ ⟨t, h, y, rfl, ex, _⟩
      exact ex_l (e25.trans ex) hrr2
    · rintro i x σ' H' gx ⟨t, h, y, rfl, ex, hh, hpa, hnum⟩
      obtain ⟨k, rfl, gk, ek⟩ := nat_at gx
      have hi : i < r.length := (List.getElem?_eq_some_iff.mp gk).1
      have hd : r.drop i = k :: r.drop (i + 1) := by
        rw [List.drop_eq_getElem_cons hi]
        rw [List.getElem?_eq_getElem hi] at gk
        rw [Option.some.inj gk]
      rw [hd] at hpa hnum
      have hk1 := nxt_lt hpa.1
      rw [ws_len] at hk1
      have ex2 := e25.trans ex
      have hnum : t + (lessN (wsOf qs) h k + numOf (wsOf qs) (h ||| 2 ^ k) (r.drop (i + 1))) = numOf (wsOf qs) 0 r := hnum
      refine q_aug (f := fun i j => i + j) rfl (ev_call (ea_cons (ev_var rfl) (ea_cons (ev_var rfl) (ea_cons (ev_var rfl) (ea_cons (ev_var rfl) ea_nil)))) (spV_less (ex_l ex2 hl2) (ht2.ex ex2) hn (sq_of (ex _ _ (e5 _ _ (e4 _ _ h3)))) hh)) fun H6 e6 => ?_
      refine s_asg (ev_call (ea_cons (ev_var rfl) (ea_cons (ev_var rfl) ea_nil)) (spV_with (by omega))) fun H7 e7 => ?_
      exact ⟨_, _, _, rfl, (ex.trans e6).trans e7, or_lt hh hk1, hpa.2, by omega⟩
    · rintro σ' H' ⟨t, h, y, rfl, ex, hh, hpa, hnum⟩
      rw [List.length_map, natI_len, List.drop_length] at hnum
      have hnum : t + 0 = numOf (wsOf qs) 0 r := hnum
      refine s_ret (ev_var rfl) fun H6 e6 => ?_
      have z := q H6 (((e1.trans e2).trans e25).trans (ex.trans e6))
      rw [← hnum, Int.add_zero] at z
      exact z
end

end Su
namespace Su
/-! ### windows around a planted order -/
theorem natI_inj : ∀ {a b : List Nat}, natI a = natI b → a = b
  | [], [], _ => rfl
  | [], y :: s, h => by cases h
  | x :: r, [], h => by cases h
  | x :: r, y :: s, h => by
    unfold natI at h
    rw [List.map_cons, List.map_cons] at h
    obtain ⟨h1, h2⟩ := List.cons.inj h
    rw [natI_inj (a := r) (b := s) h2, show x = y by omega]
theorem perm_nat {ns : List Int} {n : Nat} (hp : ns.Perm (rgI n)) : ∃ r : List Nat, ns = natI r ∧ r.Perm (List.range n) := by
  have hn : ns = natI (ns.map Int.toNat) := by
    unfold natI
    rw [List.map_map]
    conv => lhs; rw [← List.map_id ns]
    apply List.map_congr_left
    intro z hz
    obtain ⟨j, rfl, _⟩ := in_rg (hp.mem_iff.mp hz)
    show ((j : Nat) : Int) = ((((j : Nat) : Int).toNat : Nat) : Int)
    rw [Int.toNat_natCast]
  refine ⟨ns.map Int.toNat, hn, ?_⟩
  rw [hn] at hp
  exact nat_perm.mp hp
/-- the first i places of r lie within their windows -/
def Planted (qs : List Win) (r : List Nat) (i : Nat) : Prop := ∀ j k : Nat, j < i → r[j]? = some k → ∃ q, qs[k]? = some q ∧ q.2.1 ≤ (j : Int) + 1 ∧ (j : Int) + 1 ≤ q.2.2
theorem Planted.step {qs : List Win} {r : List Nat} {i k : Nat} {q : Win} (h : Planted qs r i) (hr : r.Nodup) (hk : r[i]? = some k) (hl : k < qs.length) (h1 : q.2.1 ≤ (i : Int) + 1) (h2 : (i : Int) + 1 ≤ q.2.2) : Planted (qs.set k q) r (i + 1) := fun j m hj hm => by
  by_cases e : j = i
  · subst e
    rw [hk] at hm
    cases hm
    exact ⟨q, by rw [List.getElem?_set, if_pos rfl, if_pos hl], h1, h2⟩
  · have hne : k ≠ m := fun z => by
      subst z
      exact e ((List.getElem?_inj (List.getElem?_eq_some_iff.mp hm).1 hr).mp (hm.trans hk.symm))
    obtain ⟨q', g, g1, g2⟩ := h j m (by omega) hm
    exact ⟨q', by rw [List.getElem?_set, if_neg hne]; exact g, g1, g2⟩
theorem Planted.path {qs : List Win} {r : List Nat} (h : Planted qs r r.length) (hp : r.Perm (List.range qs.length)) : Path (wsOf qs) 0 r := by
  have hl : r.length = qs.length := by rw [hp.length_eq, List.length_range]
  refine path_of r 0 (by rw [free_zero, ws_len]; exact hp.symm) fun j a e => ?_
  obtain ⟨q, g, g1, g2⟩ := h j a (List.getElem?_eq_some_iff.mp e).1 e
  unfold fitN
  rw [ws_at g]
  show (decide _ && decide _) = true
  rw [ws_len, hl, show (qs.length : Int) - (qs.length : Int) + 1 + (j : Int) = (j : Int) + 1 by omega, decide_eq_true g1, decide_eq_true g2]
  rfl
theorem at4v {a b c d z : Int} (h0 : 0 ≤ z) (h : z < 4) : ∃ v : Int, atI [V.int a, .int b, .int c, .int d] z = some (.int v) ∧ (v = a ∨ v = b ∨ v = c ∨ v = d) := by
  have h4 : z = 0 ∨ z = 1 ∨ z = 2 ∨ z = 3 := by omega
  rcases h4 with rfl | rfl | rfl | rfl
  · exact ⟨a, rfl, .inl rfl⟩
  · exact ⟨b, rfl, .inr (.inl rfl)⟩
  · exact ⟨c, rfl, .inr (.inr (.inl rfl))⟩
  · exact ⟨d, rfl, .inr (.inr (.inr rfl))⟩
section
variable {P : Program} {w : World} {K : PySem.W.Frag} {mg : Str → Option Value} {base : Heap}
theorem spV_count {fT l : Addr} {qs : List Win} {H : Hp} (hl : SqL K H l (refs qs)) (ht : TW H qs) (hn : qs.length ≤ 8) : SpV (spCount K fT) [.ref l] H (.int (way (wsOf qs) 0)) := fun H1 e Q q E => ⟨l, qs, rfl, ex_l e hl, ht.ex e, fun _ H' e' => q H' e', fun h => absurd hn (by omega)⟩
theorem spN_bynum {fT fB l : Addr} {qs : List Win} {num : Int} {H : Hp} (hl : SqL K H l (refs qs)) (ht : TW H qs) (hn : qs.length ≤ 8) (h0 : 0 ≤ num) (h1 : num < way (wsOf qs) 0) : SpN (spByNum K fT fB) [.ref l, .int num] H (fun xs => ∃ r : List Nat, Path (wsOf qs) 0 r ∧ numOf (wsOf qs) 0 r = num ∧ xs = (natI r).map V.int) :=
  fun H1 e Q q E => ⟨l, qs, num, rfl, ex_l e hl, ht.ex e, fun h => absurd hn (by omega), fun _ h => absurd ⟨h0, h1⟩ h, fun _ _ _ r H' p hp e' h' pa hnum => q _ p H' ⟨r, pa, hnum, rfl⟩ hp e' h'⟩
/-- .. told: which list it is -/
theorem spL_bynum {fT fB l : Addr} {qs : List Win} {r : List Nat} {H : Hp} (hl : SqL K H l (refs qs)) (ht : TW H qs) (hn : qs.length ≤ 8) (hp : Path (wsOf qs) 0 r) : SpL (spByNum K fT fB) [.ref l, .int (numOf (wsOf qs) 0 r)] H ((natI r).map V.int) := fun H1 e Q q E => by
  have hb := path_num r 0 hp
  refine ⟨l, qs, _, rfl, ex_l e hl, ht.ex e, fun h => absurd hn (by omega), fun _ h => absurd hb h, fun _ _ _ r' H' p hp' e' h' pa hnum => q p H' hp' e' ?_⟩
  rw [h', path_inj r' r 0 pa hp hnum]
def spWholes (K : PySem.W.Frag) : Sp := fun vs H Q _ => ∃ (l : Addr) (ns : List Int), vs = [.ref l] ∧ H l = some (.lst (ns.map V.int)) ∧ ns.length ≤ 1000 ∧ ∀ H', Ex H H' → Q (.bl true) H'
theorem spV_wholes {l : Addr} {ns : List Int} {H : Hp} (hl : H l = some (.lst (ns.map V.int))) (hn : ns.length ≤ 1000) : SpV (spWholes K) [.ref l] H (.bl true) := fun H1 e Q q _ => ⟨l, ns, rfl, e _ _ hl, hn, q⟩
theorem ok__law_wholes {f : Addr} {fd : FuncData} {k : Nat} (F : Fun K "_law_wholes" "_law_wholes" s__law_wholes f fd) (T : Top K mg) : FnOk P w K mg base CX0 (k + 1) f fd ["_law_told"] (spWholes K) := by
  have nd := sc__law_wholes.nd
  refine F.ok sc__law_wholes (fun vs H Q E h => ?_) (fun cdv A outer s H vs Q E hr h => ?_)
  · obtain ⟨l, ns, rfl, _⟩ := h
    rfl
  · obtain ⟨l, ns, rfl, hl, hn, q⟩ := h
    refine ⟨_, (pss_cons (ps_if (pt_not (pt_val (pe_callB call_isi (by rfl) T.m_isinstance (by decide +kernel) (pa_cons (pv 0) (pa_cons (pe_bltn (v := .ty "list") (by rfl) T.m_list (by decide +kernel) rfl) pa_nil)))))
        (pss_one (ps_ret pe_bl))
        pss_nil)
      (pss_one (ps_ret (pe_callB (cr_all rfl) (by rfl) T.m_all (by decide +kernel) (pa_cons (pe_lc (own := [("_law_one", 1)]) (g := gName 1) (tt := tYes) rfl nd (pi_list (pv 0)) (blkOk_by (own := [("_law_one", 1)]) (N := Su.N__law_wholes) (sc := defScope s__law_wholes) (by decide +kernel)) (fun _ _ _ _ _ => (pg_name (i := 1) nd rfl (.inl rfl))) (fun _ _ _ _ _ => pts_nil) (fun _ _ _ _ _ => (pe_and (pe_callB (call_isiK' (K := K) rfl) (by rfl) T.m_isinstance (by decide +kernel) (pa_cons (pv 1) (pa_cons (pe_bltn (v := .ty "int") (by rfl) T.m_int (by decide +kernel) rfl) pa_nil))) (pe_one (pe_not (pe_callB (call_isiK' (K := K) rfl) (by rfl) T.m_isinstance (by decide +kernel) (pa_cons (pv 1) (pa_cons (pe_bltn (v := .ty "bool") (by rfl) T.m_bool (by decide +kernel) rfl) pa_nil)))))))) pa_nil))))), ?_⟩
    refine q_when (b := false) (et_not (a := true) (et_B (ev_cb (by walk_at "ea") (rc_isi_lst (b := true) hl (by decide +kernel))))) (fun h => by cases h) fun _ H1 e1 => ?_
    refine s_ret (v := .bl ((ns.map fun _ => true).all id)) (ev_allB ?_) fun H2 e2 => ?_
    · have hg : (ns.map fun _ => true).map V.bl = given (ns.map V.int).length (fun _ => true) fun _ => .bl true := by
        unfold given
        rw [List.filter_eq_self.mpr (fun _ _ => rfl), List.map_map, List.length_map]
        apply List.ext_getElem?
        intro i
        rw [List.getElem?_map, List.getElem?_map]
        by_cases hi : i < ns.length
        · rw [List.getElem?_eq_getElem hi, List.getElem?_range hi]
          rfl
        · rw [List.getElem?_eq_none (by omega), List.getElem?_eq_none (by rw [List.length_range]; omega)]
          rfl
      rw [hg]
      refine el_lcL _ _ (ev_var rfl) (sq_of (e1 _ _ hl)) (by rw [List.length_map]; omega) (fun x => rfl) (fun i x Hb eb gx => et_yes) (fun i x Hb eb gx _ => ?_)
      obtain ⟨z, rfl, gz⟩ := int_at gx
      exact ev_andV (a := true) (b := true) (ev_cb (by walk_at "ea") (rc_isi_int (b := true) (by decide +kernel))) fun _ => ev_notV (a := false) (ev_cb (by walk_at "ea") (rc_isi_int (b := false) (by decide +kernel)))
    · have : (ns.map fun _ => true).all id = true := by
        rw [List.all_eq_true]
        intro b hb
        obtain ⟨_, _, rfl⟩ := List.mem_map.mp hb
        rfl
      rw [this]
      exact q H2 (e1.trans e2)
end

end Su
namespace Su
section
variable {P : Program} {w : World} {K : PySem.W.Frag} {mg : Str → Option Value} {base : Heap}
theorem spV_number {fT fB l rr : Addr} {qs : List Win} {r : List Nat} {H : Hp} (hl : SqL K H l (refs qs)) (ht : TW H qs) (hn : qs.length ≤ 8) (hr : SqL K H rr ((natI r).map V.int)) (hp : Path (wsOf qs) 0 r) : SpV (spNumber K fT fB) [.ref l, .ref rr] H (.int (numOf (wsOf qs) 0 r)) := fun H1 e Q q E =>
  ⟨l, rr, qs, natI r, rfl, ex_l e hl, ht.ex e, by omega, ex_l e hr, by rw [natI_len, path_full hp, ws_len]; omega, fun h => absurd hn (by omega), fun _ h => absurd h (by rw [path_ord hp]; decide), fun _ r' er _ H' e' => by rw [← natI_inj er]; exact q H' e'⟩
theorem spV_keeps {l r : Addr} {qs : List Win} {ns : List Int} {H : Hp} (hl : SqL K H l (refs qs)) (ht : TW H qs) (hq : qs.length ≤ 1000) (hr : SqL K H r (ns.map V.int)) (hn : ns.length ≤ 1000) : SpV (spKeeps K) [.ref l, .ref r] H (.bl (isOrd (wsOf qs) ns)) := fun H1 e Q q _ => ⟨l, r, qs, ns, rfl, ex_l e hl, ht.ex e, hq, ex_l e hr, hn, fun H' e' => q H' e'⟩
end

end Su
namespace Su
theorem q_asgL2 {t1 t2 : TE} {σ : L2.St} {H : Hp} {xs ys : List V} {i : Nat} {D : Ends} {tz : TS} (h1 : EvL t1 σ H xs) (h2 : ∀ H1, Ex H H1 → EvL t2 σ H1 ys)
    (k : ∀ a b p H1, H a = none → H b = none → H p = none → Ex H H1 → H1 a = some (.lst xs) → H1 b = some (.lst ys) → H1 p = some (.lst [.ref a, .ref b]) → tz D (σ.set i (some (.ref p))) H1) : tSeq (tAsg (tLst (tCons t1 (tCons t2 tNil))) (gName i)) tz D σ H :=
  h1 H (Ex.refl H) _ fun a H1 ha e1 h1' => h2 H1 e1 H1 (Ex.refl H1) _ fun b H2 hb e2 h2' => ⟨by show 2 ≤ sizeLine; decide, fun p hp => k a b p _ ha (fresh_back e1 hb) (fresh_back (e1.trans e2) hp) ((e1.trans e2).trans (Ex.new hp)) (by rw [upd_ne (ne_of_none (e2 _ _ h1') hp)]; exact e2 _ _ h1') (by rw [upd_ne (ne_of_none h2' hp)]; exact h2') upd_same⟩
theorem shaped_two (a b : List Int) : SeqAt.shaped (.list [intD a, intD b]) = true := by
  have d1 : ∀ l : List Int, (intD l).depth = 1 := fun l => by
    have h2 : ∀ l : List Int, PyData.depthAll (l.map .int) = 0 := by
      intro l
      induction l with
      | nil => simp [PyData.depthAll]
      | cons a r ih => simp [PyData.depthAll, PyData.depth, ih]
    unfold intD
    simp [PyData.depth, h2]
  unfold SeqAt.shaped
  rw [Bool.and_eq_true]
  refine ⟨?_, ?_⟩
  · simp [PyData.canLay0, PyData.canLayAll0, lay_of_shaped (shaped_ints a), lay_of_shaped (shaped_ints b)]
  · simp [PyData.depth, PyData.depthAll, d1]
section
variable {P : Program} {w : World} {K : PySem.W.Frag} {mg : Str → Option Value} {base : Heap}
def spLaw (K : PySem.W.Frag) : Sp := fun vs H Q _ => ∃ (a : Addr) (ns : List Int), vs = [.ref a] ∧ SqL K H a (ns.map V.int) ∧ ns.length ≤ 63 ∧ ∀ H', Q (.bl true) H'
set_option maxHeartbeats 4000000 in
theorem ok_law {f : Addr} {fd : FuncData} (F : Fun K "law" "law" s_law f fd) (T : Top K mg) : FnOk P w K mg base CX0 4 f fd ["_law_script"] (spLaw K) := by
  have nd := sc_law.nd
  have G__law_draws : FnOk P w K mg base CX0 1 T.f__law_draws T.fd__law_draws ["_law_script", "_law_many"] (spDraws K) := ok__law_draws T.F__law_draws T
  have G__law_perm : FnOk P w K mg base CX0 1 T.f__law_perm T.fd__law_perm ["_law_some", "_law_size"] (spPerm K) := ok__law_perm T.F__law_perm T
  have G__law_whole : FnOk P w K mg base CX0 1 T.f__law_whole T.fd__law_whole ["_law_told"] spWhole := ok__law_whole T.F__law_whole T
  have G__law_wholes : FnOk P w K mg base CX0 1 T.f__law_wholes T.fd__law_wholes ["_law_told"] (spWholes K) := ok__law_wholes T.F__law_wholes T
  have G__law_keeps : FnOk P w K mg base CX0 1 T.f__law_keeps T.fd__law_keeps ["_law_windows", "_law_row"] (spKeeps K) := ok__law_keeps T.F__law_keeps T
  have G_count_orders : FnOk P w K mg base (L2.CX P w) 3 T.f_count_orders T.fd_count_orders ["windows"] (spCount K T.f_TooMany) := okx_count_orders T.F_count_orders T
  have G_order_by_number : FnOk P w K mg base (L2.CX P w) 3 T.f_order_by_number T.fd_order_by_number ["windows", "number"] (spByNum K T.f_TooMany T.f_BadNumber) := okx_order_by_number T.F_order_by_number T
  have G_number_of_order : FnOk P w K mg base (L2.CX P w) 3 T.f_number_of_order T.fd_number_of_order ["windows", "row"] (spNumber K T.f_TooMany T.f_BadNumber) := okx_number_of_order T.F_number_of_order T
  refine F.ok sc_law (fun vs H Q E h => ?_) (fun cdv A outer s H vs Q E hr h => ?_)
  · obtain ⟨a, ns, rfl, _⟩ := h
    rfl
  · obtain ⟨a, ns, rfl, hS, hlen, q⟩ := h
    refine ⟨_, (pss_cons (ps_set (i := 1) nd rfl (.inl rfl) (pe_call G__law_draws (hr.mono (by decide)) (by rfl) T.m__law_draws T.F__law_draws.kp T.b__law_draws .nil pass0 (pa_cons (pv 0) (pa_cons pe_int pa_nil))))
      (pss_cons (ps_set (i := 2) nd rfl (.inl rfl) (pe_op op_add pe_int (pe_op op_mod (pe_ix ix_list (pv 1) pe_int (fun _ _ => rfl)) pe_int)))
      (pss_cons (ps_set (i := 3) nd rfl (.inl rfl) (pe_op op_rep (pe_lst (pa_cons (pe_tup (pa_cons pe_int (pa_cons (pv 2) pa_nil))) pa_nil)) (pv 2)))
      (pss_cons (ps_set (i := 4) nd rfl (.inl rfl) (pe_call G__law_perm (hr.mono (by decide)) (by rfl) T.m__law_perm T.F__law_perm.kp T.b__law_perm .nil pass0 (pa_cons (pe_slice sl_list (pv 1) (po_some pe_int) po_none) (pa_cons (pv 2) pa_nil))))
      (pss_cons (ps_for PassesOwn.never rfl (pi_enum (by rfl) T.m_enumerate (pa_cons (pv 4) pa_nil)) (pg_tup rfl (pgs_cons (pg_name (i := 5) nd rfl (.inl rfl)) (pgs_cons (pg_name (i := 6) nd rfl (.inl rfl)) pgs_nil)))
        (pss_cons (ps_set (i := 7) nd rfl (.inl rfl) (pe_op op_sub (pe_op op_add (pv 5) pe_int) (pe_op op_mod (pe_ix ix_list (pv 1) (pe_op op_add (pe_op op_add pe_int (pv 2)) (pv 5)) (fun _ _ => rfl)) (pe_op op_add (pv 5) pe_int))))
          (pss_one (ps_asg (pe_tup (pa_cons (pv 7) (pa_cons (pe_op op_add (pe_op op_add (pv 5) pe_int) (pe_op op_mod (pe_ix ix_list (pv 1) (pe_op op_add (pe_op op_add pe_int (pe_op op_mul pe_int (pv 2))) (pv 5)) (fun _ _ => rfl)) (pe_op op_sub (pv 2) (pv 5)))) pa_nil))) (pg_sub (pv 3) (pv 6) set_list)))))
      (pss_cons (ps_set (i := 8) nd rfl (.inl rfl) (pe_callTy call_list_of (by rfl) T.m_list (by decide +kernel) (pa_cons (pv 3) pa_nil)))
      (pss_cons (ps_set (i := 9) nd rfl (.inl rfl) (pe_call G_count_orders (hr.mono (by decide)) (by rfl) T.m_count_orders T.F_count_orders.kp T.b_count_orders .nil passL (pa_cons (pv 8) pa_nil)))
      (pss_cons (ps_if (PW.pt (pw_or (pt_not (pt_val (pe_call G__law_whole (hr.mono (by decide)) (by rfl) T.m__law_whole T.F__law_whole.kp T.b__law_whole .nil pass0 (pa_cons (pv 9) pa_nil)))) (pw_or1 (pt_cmpR op_lt (pv 9) pe_int (nomark _)))))
        (pss_one (ps_ret pe_bl))
        pss_nil)
      (pss_cons (ps_set (i := 6) nd rfl (.inl rfl) (pe_ix ix_list (pe_lst (pa_cons pe_int (pa_cons (pe_op op_sub (pv 9) pe_int) (pa_cons (pe_op op_mod (pe_ix ix_list (pv 1) pe_int (fun _ _ => rfl)) (pv 9)) (pa_cons (pe_op op_mod (pe_op op_mul (pe_ix ix_list (pv 1) pe_int (fun _ _ => rfl)) pe_int) (pv 9)) pa_nil))))) (pe_op op_mod (pe_ix ix_list (pv 1) pe_int (fun _ _ => rfl)) pe_int) (fun _ _ => rfl)))
      (pss_cons (ps_set (i := 10) nd rfl (.inl rfl) (pe_call G_order_by_number (hr.mono (by decide)) (by rfl) T.m_order_by_number T.F_order_by_number.kp T.b_order_by_number .nil passL (pa_cons (pv 8) (pa_cons (pv 6) pa_nil))))
      (pss_cons (ps_if (PW.pt (pw_or (pt_not (pt_val (pe_call G__law_wholes (hr.mono (by decide)) (by rfl) T.m__law_wholes T.F__law_wholes.kp T.b__law_wholes .nil pass0 (pa_cons (pv 10) pa_nil)))) (pw_or1 (pt_not (pt_val (pe_call G__law_keeps (hr.mono (by decide)) (by rfl) T.m__law_keeps T.F__law_keeps.kp T.b__law_keeps .nil pass0 (pa_cons (pv 3) (pa_cons (pv 10) pa_nil))))))))
        (pss_one (ps_ret pe_bl))
        pss_nil)
      (pss_cons (ps_set (i := 11) nd rfl (.inl rfl) (pe_lst (pa_cons (pe_callTy call_list_of (by rfl) T.m_list (by decide +kernel) (pa_cons (pv 10) pa_nil)) (pa_cons (pe_callTy call_list_of (by rfl) T.m_list (by decide +kernel) (pa_cons (pv 4) pa_nil)) pa_nil))))
      (pss_cons (ps_set (i := 12) nd rfl (.inl rfl) (pe_call G_number_of_order (hr.mono (by decide)) (by rfl) T.m_number_of_order T.F_number_of_order.kp T.b_number_of_order .nil passL (pa_cons (pv 8) (pa_cons (pe_ix ix_list (pv 11) pe_int (fun _ _ => rfl)) pa_nil))))
      (pss_cons (ps_if (PW.pt (pw_or (pt_not (pt_val (pe_call G__law_whole (hr.mono (by decide)) (by rfl) T.m__law_whole T.F__law_whole.kp T.b__law_whole .nil pass0 (pa_cons (pv 12) pa_nil)))) (pw_or1 (pt_cmpR op_ne (pv 12) (pv 6) (nomark _)))))
        (pss_one (ps_ret pe_bl))
        pss_nil)
      (pss_cons (ps_set (i := 13) nd rfl (.inl rfl) (pe_call G_number_of_order (hr.mono (by decide)) (by rfl) T.m_number_of_order T.F_number_of_order.kp T.b_number_of_order .nil passL (pa_cons (pv 8) (pa_cons (pe_ix ix_list (pv 11) pe_int (fun _ _ => rfl)) pa_nil))))
      (pss_cons (ps_if (pt_cmpR (op_neD hr.units) (pv 11) (pe_lst (pa_cons (pv 10) (pa_cons (pv 4) pa_nil))) (nomark _))
        (pss_one (ps_ret pe_bl))
        pss_nil)
      (pss_cons (ps_if (PW.pt (pw_or (pt_not (pt_val (pe_call G__law_whole (hr.mono (by decide)) (by rfl) T.m__law_whole T.F__law_whole.kp T.b__law_whole .nil pass0 (pa_cons (pv 13) pa_nil)))) (pw_or (pt_not (pt_chain op_le op_lt pe_int (pv 13) (pv 9))) (pw_or1 (pt_cmpR (op_neD hr.units) (pv 8) (pv 3) (nomark _))))))
        (pss_one (ps_ret pe_bl))
        pss_nil)
      (pss_cons (ps_set (i := 14) nd rfl (.inl rfl) (pe_call G_order_by_number (hr.mono (by decide)) (by rfl) T.m_order_by_number T.F_order_by_number.kp T.b_order_by_number .nil passL (pa_cons (pv 8) (pa_cons (pv 13) pa_nil))))
      (pss_one (ps_ret (pe_and (pe_call G__law_wholes (hr.mono (by decide)) (by rfl) T.m__law_wholes T.F__law_wholes.kp T.b__law_wholes .nil pass0 (pa_cons (pv 14) pa_nil)) (pe_one (pe_cmpR (op_eqD hr.units) (pv 14) (pv 4) (nomark _)))))))))))))))))))))))), ?_⟩
    refine q_callN (by walk_at "ea") (spN_draws (m := 32) hS hlen (by decide)) ?_
    rintro _ p H1 ⟨rows, hR, rfl⟩ hp e1 h1
    have hl := hR.1
    have hs1 := sq_of (K := K) h1
    obtain ⟨n, hn⟩ : ∃ n : Nat, 1 + rows.getD (Int.toNat 0) 0 % 8 = (n : Int) := ⟨(1 + rows.getD (Int.toNat 0) 0 % 8).toNat, by omega⟩
    have hn1 : 1 ≤ n := by omega
    have hn8 : n ≤ 8 := by omega
    have hs := hs1
    refine q_asg (v := .int (n : Int)) (ev_is (by walk_at "ev") (congrArg V.int hn)) fun H2 e2 => ?_
    have hs := ex_l e2 hs
    refine q_repU (eu_tup (by walk_at "ea") (by show 2 ≤ 100000; decide)) (fun H3 e3 => ev_var rfl) (by omega) (by omega) fun t0 wp H3 ht0 hwp e3 h3 h4 => ?_
    rw [Int.toNat_natCast] at h4
    have hs := ex_l e3 hs
    -- planted
    refine (el_sl (by walk_at "ev") (eo_some (by walk_at "ev")) eo_none hs) H3 (Ex.refl H3) _ fun p0 H5 hp0 e5 h5 => ?_
    rw [show (4 : Int) = ((4 : Nat) : Int) from rfl, cut_from, ← List.map_drop] at h5
    refine (show EvA _ _ H5 [.int (n : Int)] from by walk_at "ea") H5 (Ex.refl H5) _ fun H6 e6 => ?_
    refine spN_perm (rows := rows.drop 4) (sq_of (ex_g e6 h5)) (by rw [List.length_drop]; omega) (by omega) H6 (Ex.refl H6) _ ?_ E0
    rintro _ pp H7 ⟨ns0, hpm, rfl⟩ hpp e7 h7
    obtain ⟨r0, rfl, hr0⟩ := perm_nat hpm
    have hr0l : r0.length = n := by rw [hr0.length_eq, List.length_range]
    have hnd : r0.Nodup := hr0.nodup_iff.mpr List.nodup_range
    have e37 := (e5.trans e6).trans e7
    have h4 := e37 _ _ h4
    have h3 := e37 _ _ h3
    have e27 := e3.trans e37
    have hne : wp ≠ pp := ne_of_none ((e5.trans e6) _ _ (show H3 wp = _ from by assumption)) hpp
    dsimp only
    refine s_forE (xs := (natI r0).map V.int) (by walk_at "ea") (sq_of h7) (fun i σ' H' => ∃ (qs : List Win) (y5 y6 y7 : Option V), σ' = [some (.ref a), some (.ref p), some (.int (n : Int)), some (.ref wp), some (.ref pp), y5, y6, y7, none, none, none, none, none, none, none] ∧ Ex H2 H' ∧ H' pp = some (.lst ((natI r0).map V.int)) ∧ H' wp = some (.lst (refs qs)) ∧ TW H' qs ∧ qs.length = n ∧ Planted qs r0 i) ?_ ?_ ?_ ?_
    · intro H8 e8
      refine ⟨List.replicate n (t0, 1, (n : Int)), none, none, none, rfl, e27.trans e8, e8 _ _ h7, ?_, ?_, List.length_replicate, fun j k hj => by omega⟩
      · rw [e8 _ _ h4]
        unfold refs
        rw [List.map_replicate]
      · intro r hr
        rw [List.eq_of_mem_replicate hr]
        exact e8 _ _ h3
    · rintro i σ' H' _ ⟨qs, y5, y6, y7, rfl, ex, h4, _⟩
      exact sq_of h4
    · rintro i x Tt σ' Hc gx ⟨qs, y5, y6, y7, rfl, ex, g7, g4, ht, hql, hpl⟩ nT
      obtain ⟨k, rfl, gk, _⟩ := nat_at gx
      have hi : i < n := by rw [← hr0l]; exact (List.getElem?_eq_some_iff.mp gk).1
      have hk : k < n := List.mem_range.mp (hr0.mem_iff.mp (List.mem_of_getElem? gk))
      refine ⟨_, tg_two (st_of upd_same) tg_name tg_name, ?_⟩
      have eT : Ex Hc (upd Hc Tt (.tup [.int (i : Nat), .int ((k : Nat) : Int)])) := Ex.new nT
      have ex := ex.trans eT
      have g7 := eT _ _ g7
      have g4 := eT _ _ g4
      have ht := ht.ex eT
      generalize upd Hc Tt (.tup [.int (i : Nat), .int ((k : Nat) : Int)]) = H8 at ex g7 g4 ht ⊢
      have hs := ex_l ex (ex_l e2 hs1)
      have f0 := Int.emod_nonneg (rows.getD ((4 : Int) + (n : Int) + (i : Int)).toNat 0) (show (i : Int) + 1 ≠ 0 by omega)
      have f1 := Int.emod_lt_of_pos (rows.getD ((4 : Int) + (n : Int) + (i : Int)).toNat 0) (show 0 < (i : Int) + 1 by omega)
      have l0 := Int.emod_nonneg (rows.getD ((4 : Int) + 2 * (n : Int) + (i : Int)).toNat 0) (show (n : Int) - (i : Int) ≠ 0 by omega)
      refine q_asg (v := .int ((i : Int) + 1 - rows.getD ((4 : Int) + (n : Int) + (i : Int)).toNat 0 % ((i : Int) + 1))) (by walk_at "ev") fun H9 e9 => ?_
      have hs := ex_l e9 hs
      refine s_viaU (xs := [.int ((i : Int) + 1 - rows.getD ((4 : Int) + (n : Int) + (i : Int)).toNat 0 % ((i : Int) + 1)), .int ((i : Int) + 1 + rows.getD ((4 : Int) + 2 * (n : Int) + (i : Int)).toNat 0 % ((n : Int) - (i : Int)))]) (eu_tup (by walk_at "ea") (by show 2 ≤ 100000; decide)) fun t8 H10 ht8 e10 h10 => ?_
      generalize rows.getD ((4 : Int) + (n : Int) + (i : Int)).toNat 0 % ((i : Int) + 1) = u1 at f0 f1 h10 ⊢
      generalize rows.getD ((4 : Int) + 2 * (n : Int) + (i : Int)).toNat 0 % ((n : Int) - (i : Int)) = u2 at l0 h10 ⊢
      have e8b := e9.trans e10
      refine s_asgSub (e8b _ _ g4) ev_c (ev_var rfl) (ev_var rfl) rfl (by rw [refs_len, hql]; exact hk) fun H11 e11 => ?_
      have e8c := e8b.trans e11
      refine ⟨qs.set k (t8, (i : Int) + 1 - u1, (i : Int) + 1 + u2), _, _, _, rfl, ex_up (ex.trans e8c) hwp, ?_, ?_, ?_, by rw [List.length_set]; exact hql, hpl.step hnd gk (by omega) (by show (i : Int) + 1 - u1 ≤ _; omega) (by show _ ≤ (i : Int) + 1 + u2; omega)⟩
      · rw [upd_ne hne.symm]
        exact e8c _ _ g7
      · rw [upd_same, refs_set]
      · refine TW.set ((ht.ex e8c).upd (e8c _ _ g4)) ?_
        rw [upd_ne (ne_of (e11 _ _ h10) (e8c _ _ g4) (fun z => nomatch z))]
        exact e11 _ _ h10
    rintro σ' H8 ⟨qs, y5, y6, y7, rfl, ex, g7, g4, ht, hql, hpl⟩
    rw [List.length_map, natI_len] at hpl
    dsimp only
    have hpath : Path (wsOf qs) 0 r0 := hpl.path (by rw [hql]; exact hr0)
    have hq8 : qs.length ≤ 8 := by omega
    have hs8 := ex_l ex (ex_l e2 hs1)
    have hb0 := path_num r0 0 hpath
    obtain ⟨mw, hmw⟩ : ∃ mw, way (wsOf qs) 0 = mw := ⟨_, rfl⟩
    rw [hmw] at hb0
    clear hs h4 h3 e27 e37 e7 e6 e5 h5 hp0 e3
    refine q_asgL (el_list (ev_var rfl) (sq_of g4)) fun l2 H9 hl2 e9 h9 => ?_
    refine q_asg (v := .int mw) (ev_is (ev_call (ea_cons (ev_var rfl) ea_nil) (spV_count (sq_of h9) (ht.ex e9) hq8)) (congrArg V.int hmw)) fun H10 e10 => ?_
    refine q_when (b := false) (et_or (a := false) (b := false) (et_not (a := true) (et_B (ev_call (by walk_at "ea") spV_whole))) fun _ => et_is (et_test (ev_op (ev_var rfl) ev_c rv_I0)) (decide_eq_false (by omega))) (fun h => by cases h) fun _ H11 e11 => ?_
    have e8b := (e9.trans e10).trans e11
    have hs := ex_l e8b hs8
    have hl11 := e11 _ _ (e10 _ _ h9)
    have m0 := Int.emod_nonneg (rows.getD (Int.toNat 2) 0) (show mw ≠ 0 by omega)
    have m1 := Int.emod_lt_of_pos (rows.getD (Int.toNat 2) 0) (show 0 < mw by omega)
    have m2 := Int.emod_nonneg (rows.getD (Int.toNat 2) 0 * 1009) (show mw ≠ 0 by omega)
    have m3 := Int.emod_lt_of_pos (rows.getD (Int.toNat 2) 0 * 1009) (show 0 < mw by omega)
    obtain ⟨num, hnum, hcase⟩ := at4v (a := 0) (b := mw - 1) (c := rows.getD (Int.toNat 2) 0 % mw) (d := rows.getD (Int.toNat 2) 0 * 1009 % mw) (Int.emod_nonneg (rows.getD (Int.toNat 1) 0) (show (4 : Int) ≠ 0 by decide)) (Int.emod_lt_of_pos (rows.getD (Int.toNat 1) 0) (show (0 : Int) < 4 by decide))
    have n0 : 0 ≤ num ∧ num < mw := by rcases hcase with rfl | rfl | rfl | rfl <;> omega
    refine q_asg (v := .int num) (ev_opL1 (el_lst (vs := [V.int 0, .int (mw - 1), .int (rows.getD (Int.toNat 2) 0 % mw), .int (rows.getD (Int.toNat 2) 0 * 1009 % mw)]) (by walk_at "ea") (by show 4 ≤ 100000; decide)) (fun H12 e12 => by have hs := ex_l e12 hs; walk_at "ev") fun p7 H12 h12 e12 => rv_ixL (sq_of h12) hnum) fun H12 e12 => ?_
    have e9c := (e10.trans e11).trans e12
    refine q_callN (by walk_at "ea") (spN_bynum (sq_of (e9c _ _ h9)) (ht.ex (e9.trans e9c)) hq8 n0.1 (by rw [hmw]; exact n0.2)) ?_
    rintro _ rp H13 ⟨r1, hp1, hnum1, rfl⟩ hrp e13 h13
    have hr1l : r1.length = n := by rw [path_full hp1, ws_len, hql]
    have e9d := e9c.trans e13
    have e8d := e9.trans e9d
    refine q_when (b := false) (et_or (a := false) (b := false) (et_not (a := true) (et_B (ev_call (ea_cons (ev_var rfl) ea_nil) (spV_wholes h13 (by rw [natI_len]; omega))))) fun _ => et_not (a := true) (et_B (ev_is (ev_call (ea_cons (ev_var rfl) (ea_cons (ev_var rfl) ea_nil)) (spV_keeps (sq_of (e8d _ _ g4)) (ht.ex e8d) (by omega) (sq_of h13) (by rw [natI_len]; omega))) (by rw [path_ord hp1])))) (fun h => by cases h) fun _ H14 e14 => ?_
    have e8e := e8d.trans e14
    refine q_asgL2 (el_list (ev_var rfl) (sq_of (e14 _ _ h13))) (fun H15 e15 => el_list (ev_var rfl) (sq_of (e15 _ _ (e8e _ _ g7)))) fun ca cb gp H15 hca hcb hgp e15 h15a h15b h15g => ?_
    have e8f := e8e.trans e15
    have e9f := (e9d.trans e14).trans e15
    refine q_asg (v := .int num) (ev_is (ev_call (ea_cons (ev_var rfl) (ea_cons (ev_op (ev_var rfl) ev_c (rv_ixL (sq_of h15g) rfl)) ea_nil)) (spV_number (sq_of (e9f _ _ h9)) (ht.ex e8f) hq8 (sq_of h15a) hp1)) (congrArg V.int hnum1)) fun H16 e16 => ?_
    refine q_when (b := false) (et_or (a := false) (b := false) (et_not (a := true) (et_B (ev_call (ea_cons (ev_var rfl) ea_nil) spV_whole))) fun _ => et_is (et_test (ev_op (ev_var rfl) (ev_var rfl) (rv_ne rfl))) (by rw [int_eqd, decide_eq_true rfl]; rfl)) (fun h => by cases h) fun _ H17 e17 => ?_
    have e15g := e16.trans e17
    refine q_asg (ev_call (ea_cons (ev_var rfl) (ea_cons (ev_op (ev_var rfl) ev_c (rv_ixL (sq_of (e15g _ _ h15g)) rfl)) ea_nil)) (spV_number (sq_of ((e9f.trans e15g) _ _ h9)) (ht.ex (e8f.trans e15g)) hq8 (sq_of (e15g _ _ h15b)) hpath)) fun H18 e18 => ?_
    have e15h := e15g.trans e18
    have e8h := e8f.trans e15h
    have h13h : H18 rp = some (.lst ((natI r1).map V.int)) := (((e14.trans e15).trans e15h)) _ _ h13
    refine q_when (b := false) (et_test (ev_opL (ev_var rfl) (el_lst (ea_cons (ev_var rfl) (ea_cons (ev_var rfl) ea_nil)) (by show 2 ≤ 100000; decide)) fun p19 H19 h19 e19 => rv_neD (d := .list [intD (natI r1), intD (natI r0)]) (.lst (sq_of ((e15h.trans e19) _ _ h15g)) (.cons (dp_ints (sq_of ((e15h.trans e19) _ _ h15a))) (.cons (dp_ints (sq_of ((e15h.trans e19) _ _ h15b))) .nil))) (.lst (sq_of h19) (.cons (dp_ints (sq_of (e19 _ _ h13h))) (.cons (dp_ints (sq_of ((e8h.trans e19) _ _ g7))) .nil))) (shaped_two _ _))) (fun h => by cases h) fun _ H19 e19 => ?_
    have hb1 := path_num r0 0 hpath
    rw [hmw] at hb1
    have e8i := e8h.trans e19
    have e9i := (e9f.trans e15h).trans e19
    refine q_when (b := false) (et_or (a := false) (b := false) (et_not (a := true) (et_B (ev_call (ea_cons (ev_var rfl) ea_nil) spV_whole))) fun _ => et_or (a := false) (b := false) (et_not (a := true) (et_is (et_chain (f := fun i j => decide (i ≤ j)) (g := fun i j => decide (i < j)) ev_c (ev_var rfl) (ev_var rfl)) (by rw [decide_eq_true hb1.1, decide_eq_true hb1.2]; rfl))) fun _ => et_test (ev_op (ev_var rfl) (ev_var rfl) (rv_neD (d := winD qs) (dp_win (sq_of (e9i _ _ h9)) (ht.ex e8i)) (dp_win (sq_of (e8i _ _ g4)) (ht.ex e8i)) (shaped_win qs)))) (fun h => by cases h) fun _ H20 e20 => ?_
    have e9j := e9i.trans e20
    refine q_asgL (el_call (ea_cons (ev_var rfl) (ea_cons (ev_var rfl) ea_nil)) (spL_bynum (sq_of (e9j _ _ h9)) (ht.ex (e9.trans e9j)) hq8 hpath)) fun bp H21 hbp e21 h21 => ?_
    refine s_ret (v := .bl (true && true)) (ev_andV (ev_call (ea_cons (ev_var rfl) ea_nil) (spV_wholes h21 (by rw [natI_len]; omega))) fun _ => ev_op (ev_var rfl) (ev_var rfl) (rv_eqD (d := intD (natI r0)) (dp_ints (sq_of h21)) (dp_ints (sq_of (((e8i.trans e20).trans e21) _ _ g7))) (shaped_ints _))) fun H22 e22 => q H22
end

end Su
namespace Su
def top_mk {K : PySem.W.Frag} {h : Heap} {mg : Str → Option Value} (X : K.In h) (G : h.Ns mainGlobals mg)
    {od0 an0 : Option Addr} {sl0 : Array (Option Value)} {oc0 kV0 dc0 pm0 cd0 ct0 : Value} {f0 : Addr}
    (a0 : PySem.W.nsIn K mainGlobals "is_order" = some (some (.ref f0))) (l0 : K.lookup f0 = some ⟨oc0, od0, .func (PySem.W.fnOf "is_order" "is_order" (defArgs s_is_order) (defBody s_is_order) (defScope s_is_order) .none kV0 dc0 pm0 an0 cd0 ct0), sl0⟩) (c0 : PySem.W.codeIn K cd0 "is_order" = true) (k0 : PySem.W.keepIn K (.ref f0) = true)
    {od1 an1 : Option Addr} {sl1 : Array (Option Value)} {oc1 kV1 dc1 pm1 cd1 ct1 : Value} {f1 : Addr}
    (a1 : PySem.W.nsIn K mainGlobals "count_orders" = some (some (.ref f1))) (l1 : K.lookup f1 = some ⟨oc1, od1, .func (PySem.W.fnOf "count_orders" "count_orders" (defArgs s_count_orders) (defBody s_count_orders) (defScope s_count_orders) .none kV1 dc1 pm1 an1 cd1 ct1), sl1⟩) (c1 : PySem.W.codeIn K cd1 "count_orders" = true) (k1 : PySem.W.keepIn K (.ref f1) = true)
    {od2 an2 : Option Addr} {sl2 : Array (Option Value)} {oc2 kV2 dc2 pm2 cd2 ct2 : Value} {f2 : Addr}
    (a2 : PySem.W.nsIn K mainGlobals "order_by_number" = some (some (.ref f2))) (l2 : K.lookup f2 = some ⟨oc2, od2, .func (PySem.W.fnOf "order_by_number" "order_by_number" (defArgs s_order_by_number) (defBody s_order_by_number) (defScope s_order_by_number) .none kV2 dc2 pm2 an2 cd2 ct2), sl2⟩) (c2 : PySem.W.codeIn K cd2 "order_by_number" = true) (k2 : PySem.W.keepIn K (.ref f2) = true)
    {od3 an3 : Option Addr} {sl3 : Array (Option Value)} {oc3 kV3 dc3 pm3 cd3 ct3 : Value} {f3 : Addr}
    (a3 : PySem.W.nsIn K mainGlobals "number_of_order" = some (some (.ref f3))) (l3 : K.lookup f3 = some ⟨oc3, od3, .func (PySem.W.fnOf "number_of_order" "number_of_order" (defArgs s_number_of_order) (defBody s_number_of_order) (defScope s_number_of_order) .none kV3 dc3 pm3 an3 cd3 ct3), sl3⟩) (c3 : PySem.W.codeIn K cd3 "number_of_order" = true) (k3 : PySem.W.keepIn K (.ref f3) = true)
    {od4 an4 : Option Addr} {sl4 : Array (Option Value)} {oc4 kV4 dc4 pm4 cd4 ct4 : Value} {f4 : Addr}
    (a4 : PySem.W.nsIn K mainGlobals "refuse_many" = some (some (.ref f4))) (l4 : K.lookup f4 = some ⟨oc4, od4, .func (PySem.W.fnOf "refuse_many" "refuse_many" (defArgs s_refuse_many) (defBody s_refuse_many) (defScope s_refuse_many) .none kV4 dc4 pm4 an4 cd4 ct4), sl4⟩) (c4 : PySem.W.codeIn K cd4 "refuse_many" = true) (k4 : PySem.W.keepIn K (.ref f4) = true)
    {od5 an5 : Option Addr} {sl5 : Array (Option Value)} {oc5 kV5 dc5 pm5 cd5 ct5 : Value} {f5 : Addr}
    (a5 : PySem.W.nsIn K mainGlobals "with_window" = some (some (.ref f5))) (l5 : K.lookup f5 = some ⟨oc5, od5, .func (PySem.W.fnOf "with_window" "with_window" (defArgs s_with_window) (defBody s_with_window) (defScope s_with_window) .none kV5 dc5 pm5 an5 cd5 ct5), sl5⟩) (c5 : PySem.W.codeIn K cd5 "with_window" = true) (k5 : PySem.W.keepIn K (.ref f5) = true)
    {od6 an6 : Option Addr} {sl6 : Array (Option Value)} {oc6 kV6 dc6 pm6 cd6 ct6 : Value} {f6 : Addr}
    (a6 : PySem.W.nsIn K mainGlobals "next_windows" = some (some (.ref f6))) (l6 : K.lookup f6 = some ⟨oc6, od6, .func (PySem.W.fnOf "next_windows" "next_windows" (defArgs s_next_windows) (defBody s_next_windows) (defScope s_next_windows) .none kV6 dc6 pm6 an6 cd6 ct6), sl6⟩) (c6 : PySem.W.codeIn K cd6 "next_windows" = true) (k6 : PySem.W.keepIn K (.ref f6) = true)
    {od7 an7 : Option Addr} {sl7 : Array (Option Value)} {oc7 kV7 dc7 pm7 cd7 ct7 : Value} {f7 : Addr}
    (a7 : PySem.W.nsIn K mainGlobals "ways_on" = some (some (.ref f7))) (l7 : K.lookup f7 = some ⟨oc7, od7, .func (PySem.W.fnOf "ways_on" "ways_on" (defArgs s_ways_on) (defBody s_ways_on) (defScope s_ways_on) .none kV7 dc7 pm7 an7 cd7 ct7), sl7⟩) (c7 : PySem.W.codeIn K cd7 "ways_on" = true) (k7 : PySem.W.keepIn K (.ref f7) = true)
    {od8 an8 : Option Addr} {sl8 : Array (Option Value)} {oc8 kV8 dc8 pm8 cd8 ct8 : Value} {f8 : Addr}
    (a8 : PySem.W.nsIn K mainGlobals "lesser_ways" = some (some (.ref f8))) (l8 : K.lookup f8 = some ⟨oc8, od8, .func (PySem.W.fnOf "lesser_ways" "lesser_ways" (defArgs s_lesser_ways) (defBody s_lesser_ways) (defScope s_lesser_ways) .none kV8 dc8 pm8 an8 cd8 ct8), sl8⟩) (c8 : PySem.W.codeIn K cd8 "lesser_ways" = true) (k8 : PySem.W.keepIn K (.ref f8) = true)
    {od9 an9 : Option Addr} {sl9 : Array (Option Value)} {oc9 kV9 dc9 pm9 cd9 ct9 : Value} {f9 : Addr}
    (a9 : PySem.W.nsIn K mainGlobals "_law_draws" = some (some (.ref f9))) (l9 : K.lookup f9 = some ⟨oc9, od9, .func (PySem.W.fnOf "_law_draws" "_law_draws" (defArgs s__law_draws) (defBody s__law_draws) (defScope s__law_draws) .none kV9 dc9 pm9 an9 cd9 ct9), sl9⟩) (c9 : PySem.W.codeIn K cd9 "_law_draws" = true) (k9 : PySem.W.keepIn K (.ref f9) = true)
    {od10 an10 : Option Addr} {sl10 : Array (Option Value)} {oc10 kV10 dc10 pm10 cd10 ct10 : Value} {f10 : Addr}
    (a10 : PySem.W.nsIn K mainGlobals "_law_whole" = some (some (.ref f10))) (l10 : K.lookup f10 = some ⟨oc10, od10, .func (PySem.W.fnOf "_law_whole" "_law_whole" (defArgs s__law_whole) (defBody s__law_whole) (defScope s__law_whole) .none kV10 dc10 pm10 an10 cd10 ct10), sl10⟩) (c10 : PySem.W.codeIn K cd10 "_law_whole" = true) (k10 : PySem.W.keepIn K (.ref f10) = true)
    {od11 an11 : Option Addr} {sl11 : Array (Option Value)} {oc11 kV11 dc11 pm11 cd11 ct11 : Value} {f11 : Addr}
    (a11 : PySem.W.nsIn K mainGlobals "_law_wholes" = some (some (.ref f11))) (l11 : K.lookup f11 = some ⟨oc11, od11, .func (PySem.W.fnOf "_law_wholes" "_law_wholes" (defArgs s__law_wholes) (defBody s__law_wholes) (defScope s__law_wholes) .none kV11 dc11 pm11 an11 cd11 ct11), sl11⟩) (c11 : PySem.W.codeIn K cd11 "_law_wholes" = true) (k11 : PySem.W.keepIn K (.ref f11) = true)
    {od12 an12 : Option Addr} {sl12 : Array (Option Value)} {oc12 kV12 dc12 pm12 cd12 ct12 : Value} {f12 : Addr}
    (a12 : PySem.W.nsIn K mainGlobals "_law_perm" = some (some (.ref f12))) (l12 : K.lookup f12 = some ⟨oc12, od12, .func (PySem.W.fnOf "_law_perm" "_law_perm" (defArgs s__law_perm) (defBody s__law_perm) (defScope s__law_perm) .none kV12 dc12 pm12 an12 cd12 ct12), sl12⟩) (c12 : PySem.W.codeIn K cd12 "_law_perm" = true) (k12 : PySem.W.keepIn K (.ref f12) = true)
    {od13 an13 : Option Addr} {sl13 : Array (Option Value)} {oc13 kV13 dc13 pm13 cd13 ct13 : Value} {f13 : Addr}
    (a13 : PySem.W.nsIn K mainGlobals "_law_keeps" = some (some (.ref f13))) (l13 : K.lookup f13 = some ⟨oc13, od13, .func (PySem.W.fnOf "_law_keeps" "_law_keeps" (defArgs s__law_keeps) (defBody s__law_keeps) (defScope s__law_keeps) .none kV13 dc13 pm13 an13 cd13 ct13), sl13⟩) (c13 : PySem.W.codeIn K cd13 "_law_keeps" = true) (k13 : PySem.W.keepIn K (.ref f13) = true)
    {od14 an14 : Option Addr} {sl14 : Array (Option Value)} {oc14 kV14 dc14 pm14 cd14 ct14 : Value} {f14 : Addr}
    (a14 : PySem.W.nsIn K mainGlobals "law" = some (some (.ref f14))) (l14 : K.lookup f14 = some ⟨oc14, od14, .func (PySem.W.fnOf "law" "law" (defArgs s_law) (defBody s_law) (defScope s_law) .none kV14 dc14 pm14 an14 cd14 ct14), sl14⟩) (c14 : PySem.W.codeIn K cd14 "law" = true) (k14 : PySem.W.keepIn K (.ref f14) = true)
    (z0 : PySem.W.nsIn K mainGlobals "abs" = some none)
    (z1 : PySem.W.nsIn K mainGlobals "all" = some none)
    (z2 : PySem.W.nsIn K mainGlobals "bool" = some none)
    (z3 : PySem.W.nsIn K mainGlobals "enumerate" = some none)
    (z4 : PySem.W.nsIn K mainGlobals "int" = some none)
    (z5 : PySem.W.nsIn K mainGlobals "isinstance" = some none)
    (z6 : PySem.W.nsIn K mainGlobals "len" = some none)
    (z7 : PySem.W.nsIn K mainGlobals "list" = some none)
    (z8 : PySem.W.nsIn K mainGlobals "max" = some none)
    (z9 : PySem.W.nsIn K mainGlobals "range" = some none)
    (z10 : PySem.W.nsIn K mainGlobals "sorted" = some none)
    (z11 : PySem.W.nsIn K mainGlobals "sum" = some none)
    {tk0 : Tok} (n0 : PySem.W.nsIn K mainGlobals "MOST_WINDOWS" = some (some (.int 8 tk0)))
    {fc0 : Addr}
    (x1 : PySem.W.nsIn K mainGlobals "SusuError" = some (some (.ref fc0)))
    {fc2 : Addr}
    (x3 : PySem.W.nsIn K mainGlobals "BadNumber" = some (some (.ref fc2)))
    {fc4 : Addr}
    (x5 : PySem.W.nsIn K mainGlobals "TooMany" = some (some (.ref fc4)))
    (x6 : PySem.W.excIn K fc2 vErr "ValueError.__new__" = true)
    (x7 : PySem.W.keepIn K (.ref fc2) = true)
    (x8_0 : PySem.W.findIn K (.ref fc2) "__getattribute__" = some (some (.builtin "BaseException.__getattribute__")))
    (x8_1 : PySem.W.findIn K (.ref fc2) "__getattr__" = some none)
    (x8_2 : PySem.W.subIn K (.ref fc2) (.type "BaseException") = some true)
    (x8_3 : PySem.W.hasDictIn K fc2 = true)
    (x8_4 : PySem.W.findIn K (.ref fc2) "__class__" = some (some (.builtin "object.__class__")))
    (x8_5 : PySem.W.specialIn K (.builtin "object.__class__") "__get__" = some (some (.builtin "getset_descriptor.__get__")))
    (x8_6 : PySem.W.takesIn K (.builtin "object.__class__") = some true)
    (x8_7 : PySem.W.mroIn K fc2 (.type "object") = some true)
    (x9 : PySem.W.excIn K fc4 vErr "ValueError.__new__" = true)
    (x10 : PySem.W.keepIn K (.ref fc4) = true)
    (x11_0 : PySem.W.findIn K (.ref fc4) "__getattribute__" = some (some (.builtin "BaseException.__getattribute__")))
    (x11_1 : PySem.W.findIn K (.ref fc4) "__getattr__" = some none)
    (x11_2 : PySem.W.subIn K (.ref fc4) (.type "BaseException") = some true)
    (x11_3 : PySem.W.hasDictIn K fc4 = true)
    (x11_4 : PySem.W.findIn K (.ref fc4) "__class__" = some (some (.builtin "object.__class__")))
    (x11_5 : PySem.W.specialIn K (.builtin "object.__class__") "__get__" = some (some (.builtin "getset_descriptor.__get__")))
    (x11_6 : PySem.W.takesIn K (.builtin "object.__class__") = some true)
    (x11_7 : PySem.W.mroIn K fc4 (.type "object") = some true)
    (x12 : PySem.W.subIn K (.ref fc2) (.type "BaseException") = some true)
    (x13 : PySem.W.typeIn K (.ref fc2) = some (.type "type"))
    (x14 : PySem.W.subIn K (.ref fc4) (.type "BaseException") = some true)
    (x15 : PySem.W.typeIn K (.ref fc4) = some (.type "type")) : Top K mg where
      f_is_order := f0
      fd_is_order := _
      F_is_order := fun_mk (st := s_is_order) l0 c0 k0
      b_is_order := (fun_mk (st := s_is_order) l0 c0 k0).binds (ps := ["windows", "row"]) (fun _ _ _ _ _ _ us hl => match us, hl with | [_, _], _ => rfl)
      m_is_order := PySem.W.mg_of X G a0
      f_count_orders := f1
      fd_count_orders := _
      F_count_orders := fun_mk (st := s_count_orders) l1 c1 k1
      b_count_orders := (fun_mk (st := s_count_orders) l1 c1 k1).binds (ps := ["windows"]) (fun _ _ _ _ _ _ us hl => match us, hl with | [_], _ => rfl)
      m_count_orders := PySem.W.mg_of X G a1
      f_order_by_number := f2
      fd_order_by_number := _
      F_order_by_number := fun_mk (st := s_order_by_number) l2 c2 k2
      b_order_by_number := (fun_mk (st := s_order_by_number) l2 c2 k2).binds (ps := ["windows", "number"]) (fun _ _ _ _ _ _ us hl => match us, hl with | [_, _], _ => rfl)
      m_order_by_number := PySem.W.mg_of X G a2
      f_number_of_order := f3
      fd_number_of_order := _
      F_number_of_order := fun_mk (st := s_number_of_order) l3 c3 k3
      b_number_of_order := (fun_mk (st := s_number_of_order) l3 c3 k3).binds (ps := ["windows", "row"]) (fun _ _ _ _ _ _ us hl => match us, hl with | [_, _], _ => rfl)
      m_number_of_order := PySem.W.mg_of X G a3
      f_refuse_many := f4
      fd_refuse_many := _
      F_refuse_many := fun_mk (st := s_refuse_many) l4 c4 k4
      b_refuse_many := (fun_mk (st := s_refuse_many) l4 c4 k4).binds (ps := ["windows"]) (fun _ _ _ _ _ _ us hl => match us, hl with | [_], _ => rfl)
      m_refuse_many := PySem.W.mg_of X G a4
      f_with_window := f5
      fd_with_window := _
      F_with_window := fun_mk (st := s_with_window) l5 c5 k5
      b_with_window := (fun_mk (st := s_with_window) l5 c5 k5).binds (ps := ["held", "at"]) (fun _ _ _ _ _ _ us hl => match us, hl with | [_, _], _ => rfl)
      m_with_window := PySem.W.mg_of X G a5
      f_next_windows := f6
      fd_next_windows := _
      F_next_windows := fun_mk (st := s_next_windows) l6 c6 k6
      b_next_windows := (fun_mk (st := s_next_windows) l6 c6 k6).binds (ps := ["windows", "held"]) (fun _ _ _ _ _ _ us hl => match us, hl with | [_, _], _ => rfl)
      m_next_windows := PySem.W.mg_of X G a6
      f_ways_on := f7
      fd_ways_on := _
      F_ways_on := fun_mk (st := s_ways_on) l7 c7 k7
      b_ways_on := (fun_mk (st := s_ways_on) l7 c7 k7).binds (ps := ["windows"]) (fun _ _ _ _ _ _ us hl => match us, hl with | [_], _ => rfl)
      m_ways_on := PySem.W.mg_of X G a7
      f_lesser_ways := f8
      fd_lesser_ways := _
      F_lesser_ways := fun_mk (st := s_lesser_ways) l8 c8 k8
      b_lesser_ways := (fun_mk (st := s_lesser_ways) l8 c8 k8).binds (ps := ["windows", "ways", "held", "at"]) (fun _ _ _ _ _ _ us hl => match us, hl with | [_, _, _, _], _ => rfl)
      m_lesser_ways := PySem.W.mg_of X G a8
      f__law_draws := f9
      fd__law_draws := _
      F__law_draws := fun_mk (st := s__law_draws) l9 c9 k9
      b__law_draws := (fun_mk (st := s__law_draws) l9 c9 k9).binds (ps := ["_law_script", "_law_many"]) (fun _ _ _ _ _ _ us hl => match us, hl with | [_, _], _ => rfl)
      m__law_draws := PySem.W.mg_of X G a9
      f__law_whole := f10
      fd__law_whole := _
      F__law_whole := fun_mk (st := s__law_whole) l10 c10 k10
      b__law_whole := (fun_mk (st := s__law_whole) l10 c10 k10).binds (ps := ["_law_told"]) (fun _ _ _ _ _ _ us hl => match us, hl with | [_], _ => rfl)
      m__law_whole := PySem.W.mg_of X G a10
      f__law_wholes := f11
      fd__law_wholes := _
      F__law_wholes := fun_mk (st := s__law_wholes) l11 c11 k11
      b__law_wholes := (fun_mk (st := s__law_wholes) l11 c11 k11).binds (ps := ["_law_told"]) (fun _ _ _ _ _ _ us hl => match us, hl with | [_], _ => rfl)
      m__law_wholes := PySem.W.mg_of X G a11
      f__law_perm := f12
      fd__law_perm := _
      F__law_perm := fun_mk (st := s__law_perm) l12 c12 k12
      b__law_perm := (fun_mk (st := s__law_perm) l12 c12 k12).binds (ps := ["_law_some", "_law_size"]) (fun _ _ _ _ _ _ us hl => match us, hl with | [_, _], _ => rfl)
      m__law_perm := PySem.W.mg_of X G a12
      f__law_keeps := f13
      fd__law_keeps := _
      F__law_keeps := fun_mk (st := s__law_keeps) l13 c13 k13
      b__law_keeps := (fun_mk (st := s__law_keeps) l13 c13 k13).binds (ps := ["_law_windows", "_law_row"]) (fun _ _ _ _ _ _ us hl => match us, hl with | [_, _], _ => rfl)
      m__law_keeps := PySem.W.mg_of X G a13
      f_law := f14
      fd_law := _
      F_law := fun_mk (st := s_law) l14 c14 k14
      b_law := (fun_mk (st := s_law) l14 c14 k14).binds (ps := ["_law_script"]) (fun _ _ _ _ _ _ us hl => match us, hl with | [_], _ => rfl)
      m_law := PySem.W.mg_of X G a14
      m_abs := PySem.W.mg_none_of X G z0
      m_all := PySem.W.mg_none_of X G z1
      m_bool := PySem.W.mg_none_of X G z2
      m_enumerate := PySem.W.mg_none_of X G z3
      m_int := PySem.W.mg_none_of X G z4
      m_isinstance := PySem.W.mg_none_of X G z5
      m_len := PySem.W.mg_none_of X G z6
      m_list := PySem.W.mg_none_of X G z7
      m_max := PySem.W.mg_none_of X G z8
      m_range := PySem.W.mg_none_of X G z9
      m_sorted := PySem.W.mg_none_of X G z10
      m_sum := PySem.W.mg_none_of X G z11
      t_MOST_WINDOWS := tk0
      m_MOST_WINDOWS := PySem.W.mg_of X G n0
      f_SusuError := fc0
      m_SusuError := PySem.W.mg_of X G x1
      f_BadNumber := fc2
      m_BadNumber := PySem.W.mg_of X G x3
      f_TooMany := fc4
      m_TooMany := PySem.W.mg_of X G x5
      x_BadNumber := x6
      kp_BadNumber := x7
      e_BadNumber := ⟨x8_0, x8_1, x8_2, x8_3, x8_4, x8_5, x8_6, x8_7⟩
      x_TooMany := x9
      kp_TooMany := x10
      e_TooMany := ⟨x11_0, x11_1, x11_2, x11_3, x11_4, x11_5, x11_6, x11_7⟩
      sb_BadNumber := x12
      ty_BadNumber := x13
      sb_TooMany := x14
      ty_TooMany := x15
theorem all_mk {l : PySem.W.OpenLaw} {w : World} {K : PySem.W.Frag} {h : Heap} {mg : Str → Option Value} {fa : Addr} (X : K.In h) (G : h.Ns mainGlobals mg) (hfa : mg "law" = some (.ref fa))
    {od0 an0 : Option Addr} {sl0 : Array (Option Value)} {oc0 kV0 dc0 pm0 cd0 ct0 : Value} {f0 : Addr}
    (a0 : PySem.W.nsIn K mainGlobals "is_order" = some (some (.ref f0))) (l0 : K.lookup f0 = some ⟨oc0, od0, .func (PySem.W.fnOf "is_order" "is_order" (defArgs s_is_order) (defBody s_is_order) (defScope s_is_order) .none kV0 dc0 pm0 an0 cd0 ct0), sl0⟩) (c0 : PySem.W.codeIn K cd0 "is_order" = true) (k0 : PySem.W.keepIn K (.ref f0) = true)
    {od1 an1 : Option Addr} {sl1 : Array (Option Value)} {oc1 kV1 dc1 pm1 cd1 ct1 : Value} {f1 : Addr}
    (a1 : PySem.W.nsIn K mainGlobals "count_orders" = some (some (.ref f1))) (l1 : K.lookup f1 = some ⟨oc1, od1, .func (PySem.W.fnOf "count_orders" "count_orders" (defArgs s_count_orders) (defBody s_count_orders) (defScope s_count_orders) .none kV1 dc1 pm1 an1 cd1 ct1), sl1⟩) (c1 : PySem.W.codeIn K cd1 "count_orders" = true) (k1 : PySem.W.keepIn K (.ref f1) = true)
    {od2 an2 : Option Addr} {sl2 : Array (Option Value)} {oc2 kV2 dc2 pm2 cd2 ct2 : Value} {f2 : Addr}
    (a2 : PySem.W.nsIn K mainGlobals "order_by_number" = some (some (.ref f2))) (l2 : K.lookup f2 = some ⟨oc2, od2, .func (PySem.W.fnOf "order_by_number" "order_by_number" (defArgs s_order_by_number) (defBody s_order_by_number) (defScope s_order_by_number) .none kV2 dc2 pm2 an2 cd2 ct2), sl2⟩) (c2 : PySem.W.codeIn K cd2 "order_by_number" = true) (k2 : PySem.W.keepIn K (.ref f2) = true)
    {od3 an3 : Option Addr} {sl3 : Array (Option Value)} {oc3 kV3 dc3 pm3 cd3 ct3 : Value} {f3 : Addr}
    (a3 : PySem.W.nsIn K mainGlobals "number_of_order" = some (some (.ref f3))) (l3 : K.lookup f3 = some ⟨oc3, od3, .func (PySem.W.fnOf "number_of_order" "number_of_order" (defArgs s_number_of_order) (defBody s_number_of_order) (defScope s_number_of_order) .none kV3 dc3 pm3 an3 cd3 ct3), sl3⟩) (c3 : PySem.W.codeIn K cd3 "number_of_order" = true) (k3 : PySem.W.keepIn K (.ref f3) = true)
    {od4 an4 : Option Addr} {sl4 : Array (Option Value)} {oc4 kV4 dc4 pm4 cd4 ct4 : Value} {f4 : Addr}
    (a4 : PySem.W.nsIn K mainGlobals "refuse_many" = some (some (.ref f4))) (l4 : K.lookup f4 = some ⟨oc4, od4, .func (PySem.W.fnOf "refuse_many" "refuse_many" (defArgs s_refuse_many) (defBody s_refuse_many) (defScope s_refuse_many) .none kV4 dc4 pm4 an4 cd4 ct4), sl4⟩) (c4 : PySem.W.codeIn K cd4 "refuse_many" = true) (k4 : PySem.W.keepIn K (.ref f4) = true)
    {od5 an5 : Option Addr} {sl5 : Array (Option Value)} {oc5 kV5 dc5 pm5 cd5 ct5 : Value} {f5 : Addr}
    (a5 : PySem.W.nsIn K mainGlobals "with_window" = some (some (.ref f5))) (l5 : K.lookup f5 = some ⟨oc5, od5, .func (PySem.W.fnOf "with_window" "with_window" (defArgs s_with_window) (defBody s_with_window) (defScope s_with_window) .none kV5 dc5 pm5 an5 cd5 ct5), sl5⟩) (c5 : PySem.W.codeIn K cd5 "with_window" = true) (k5 : PySem.W.keepIn K (.ref f5) = true)
    {od6 an6 : Option Addr} {sl6 : Array (Option Value)} {oc6 kV6 dc6 pm6 cd6 ct6 : Value} {f6 : Addr}
    (a6 : PySem.W.nsIn K mainGlobals "next_windows" = some (some (.ref f6))) (l6 : K.lookup f6 = some ⟨oc6, od6, .func (PySem.W.fnOf "next_windows" "next_windows" (defArgs s_next_windows) (defBody s_next_windows) (defScope s_next_windows) .none kV6 dc6 pm6 an6 cd6 ct6), sl6⟩) (c6 : PySem.W.codeIn K cd6 "next_windows" = true) (k6 : PySem.W.keepIn K (.ref f6) = true)
    {od7 an7 : Option Addr} {sl7 : Array (Option Value)} {oc7 kV7 dc7 pm7 cd7 ct7 : Value} {f7 : Addr}
    (a7 : PySem.W.nsIn K mainGlobals "ways_on" = some (some (.ref f7))) (l7 : K.lookup f7 = some ⟨oc7, od7, .func (PySem.W.fnOf "ways_on" "ways_on" (defArgs s_ways_on) (defBody s_ways_on) (defScope s_ways_on) .none kV7 dc7 pm7 an7 cd7 ct7), sl7⟩) (c7 : PySem.W.codeIn K cd7 "ways_on" = true) (k7 : PySem.W.keepIn K (.ref f7) = true)
    {od8 an8 : Option Addr} {sl8 : Array (Option Value)} {oc8 kV8 dc8 pm8 cd8 ct8 : Value} {f8 : Addr}
    (a8 : PySem.W.nsIn K mainGlobals "lesser_ways" = some (some (.ref f8))) (l8 : K.lookup f8 = some ⟨oc8, od8, .func (PySem.W.fnOf "lesser_ways" "lesser_ways" (defArgs s_lesser_ways) (defBody s_lesser_ways) (defScope s_lesser_ways) .none kV8 dc8 pm8 an8 cd8 ct8), sl8⟩) (c8 : PySem.W.codeIn K cd8 "lesser_ways" = true) (k8 : PySem.W.keepIn K (.ref f8) = true)
    {od9 an9 : Option Addr} {sl9 : Array (Option Value)} {oc9 kV9 dc9 pm9 cd9 ct9 : Value} {f9 : Addr}
    (a9 : PySem.W.nsIn K mainGlobals "_law_draws" = some (some (.ref f9))) (l9 : K.lookup f9 = some ⟨oc9, od9, .func (PySem.W.fnOf "_law_draws" "_law_draws" (defArgs s__law_draws) (defBody s__law_draws) (defScope s__law_draws) .none kV9 dc9 pm9 an9 cd9 ct9), sl9⟩) (c9 : PySem.W.codeIn K cd9 "_law_draws" = true) (k9 : PySem.W.keepIn K (.ref f9) = true)
    {od10 an10 : Option Addr} {sl10 : Array (Option Value)} {oc10 kV10 dc10 pm10 cd10 ct10 : Value} {f10 : Addr}
    (a10 : PySem.W.nsIn K mainGlobals "_law_whole" = some (some (.ref f10))) (l10 : K.lookup f10 = some ⟨oc10, od10, .func (PySem.W.fnOf "_law_whole" "_law_whole" (defArgs s__law_whole) (defBody s__law_whole) (defScope s__law_whole) .none kV10 dc10 pm10 an10 cd10 ct10), sl10⟩) (c10 : PySem.W.codeIn K cd10 "_law_whole" = true) (k10 : PySem.W.keepIn K (.ref f10) = true)
    {od11 an11 : Option Addr} {sl11 : Array (Option Value)} {oc11 kV11 dc11 pm11 cd11 ct11 : Value} {f11 : Addr}
    (a11 : PySem.W.nsIn K mainGlobals "_law_wholes" = some (some (.ref f11))) (l11 : K.lookup f11 = some ⟨oc11, od11, .func (PySem.W.fnOf "_law_wholes" "_law_wholes" (defArgs s__law_wholes) (defBody s__law_wholes) (defScope s__law_wholes) .none kV11 dc11 pm11 an11 cd11 ct11), sl11⟩) (c11 : PySem.W.codeIn K cd11 "_law_wholes" = true) (k11 : PySem.W.keepIn K (.ref f11) = true)
    {od12 an12 : Option Addr} {sl12 : Array (Option Value)} {oc12 kV12 dc12 pm12 cd12 ct12 : Value} {f12 : Addr}
    (a12 : PySem.W.nsIn K mainGlobals "_law_perm" = some (some (.ref f12))) (l12 : K.lookup f12 = some ⟨oc12, od12, .func (PySem.W.fnOf "_law_perm" "_law_perm" (defArgs s__law_perm) (defBody s__law_perm) (defScope s__law_perm) .none kV12 dc12 pm12 an12 cd12 ct12), sl12⟩) (c12 : PySem.W.codeIn K cd12 "_law_perm" = true) (k12 : PySem.W.keepIn K (.ref f12) = true)
    {od13 an13 : Option Addr} {sl13 : Array (Option Value)} {oc13 kV13 dc13 pm13 cd13 ct13 : Value} {f13 : Addr}
    (a13 : PySem.W.nsIn K mainGlobals "_law_keeps" = some (some (.ref f13))) (l13 : K.lookup f13 = some ⟨oc13, od13, .func (PySem.W.fnOf "_law_keeps" "_law_keeps" (defArgs s__law_keeps) (defBody s__law_keeps) (defScope s__law_keeps) .none kV13 dc13 pm13 an13 cd13 ct13), sl13⟩) (c13 : PySem.W.codeIn K cd13 "_law_keeps" = true) (k13 : PySem.W.keepIn K (.ref f13) = true)
    {od14 an14 : Option Addr} {sl14 : Array (Option Value)} {oc14 kV14 dc14 pm14 cd14 ct14 : Value} {f14 : Addr}
    (a14 : PySem.W.nsIn K mainGlobals "law" = some (some (.ref f14))) (l14 : K.lookup f14 = some ⟨oc14, od14, .func (PySem.W.fnOf "law" "law" (defArgs s_law) (defBody s_law) (defScope s_law) .none kV14 dc14 pm14 an14 cd14 ct14), sl14⟩) (c14 : PySem.W.codeIn K cd14 "law" = true) (k14 : PySem.W.keepIn K (.ref f14) = true)
    (z0 : PySem.W.nsIn K mainGlobals "abs" = some none)
    (z1 : PySem.W.nsIn K mainGlobals "all" = some none)
    (z2 : PySem.W.nsIn K mainGlobals "bool" = some none)
    (z3 : PySem.W.nsIn K mainGlobals "enumerate" = some none)
    (z4 : PySem.W.nsIn K mainGlobals "int" = some none)
    (z5 : PySem.W.nsIn K mainGlobals "isinstance" = some none)
    (z6 : PySem.W.nsIn K mainGlobals "len" = some none)
    (z7 : PySem.W.nsIn K mainGlobals "list" = some none)
    (z8 : PySem.W.nsIn K mainGlobals "max" = some none)
    (z9 : PySem.W.nsIn K mainGlobals "range" = some none)
    (z10 : PySem.W.nsIn K mainGlobals "sorted" = some none)
    (z11 : PySem.W.nsIn K mainGlobals "sum" = some none)
    {tk0 : Tok} (n0 : PySem.W.nsIn K mainGlobals "MOST_WINDOWS" = some (some (.int 8 tk0)))
    {fc0 : Addr}
    (x1 : PySem.W.nsIn K mainGlobals "SusuError" = some (some (.ref fc0)))
    {fc2 : Addr}
    (x3 : PySem.W.nsIn K mainGlobals "BadNumber" = some (some (.ref fc2)))
    {fc4 : Addr}
    (x5 : PySem.W.nsIn K mainGlobals "TooMany" = some (some (.ref fc4)))
    (x6 : PySem.W.excIn K fc2 vErr "ValueError.__new__" = true)
    (x7 : PySem.W.keepIn K (.ref fc2) = true)
    (x8_0 : PySem.W.findIn K (.ref fc2) "__getattribute__" = some (some (.builtin "BaseException.__getattribute__")))
    (x8_1 : PySem.W.findIn K (.ref fc2) "__getattr__" = some none)
    (x8_2 : PySem.W.subIn K (.ref fc2) (.type "BaseException") = some true)
    (x8_3 : PySem.W.hasDictIn K fc2 = true)
    (x8_4 : PySem.W.findIn K (.ref fc2) "__class__" = some (some (.builtin "object.__class__")))
    (x8_5 : PySem.W.specialIn K (.builtin "object.__class__") "__get__" = some (some (.builtin "getset_descriptor.__get__")))
    (x8_6 : PySem.W.takesIn K (.builtin "object.__class__") = some true)
    (x8_7 : PySem.W.mroIn K fc2 (.type "object") = some true)
    (x9 : PySem.W.excIn K fc4 vErr "ValueError.__new__" = true)
    (x10 : PySem.W.keepIn K (.ref fc4) = true)
    (x11_0 : PySem.W.findIn K (.ref fc4) "__getattribute__" = some (some (.builtin "BaseException.__getattribute__")))
    (x11_1 : PySem.W.findIn K (.ref fc4) "__getattr__" = some none)
    (x11_2 : PySem.W.subIn K (.ref fc4) (.type "BaseException") = some true)
    (x11_3 : PySem.W.hasDictIn K fc4 = true)
    (x11_4 : PySem.W.findIn K (.ref fc4) "__class__" = some (some (.builtin "object.__class__")))
    (x11_5 : PySem.W.specialIn K (.builtin "object.__class__") "__get__" = some (some (.builtin "getset_descriptor.__get__")))
    (x11_6 : PySem.W.takesIn K (.builtin "object.__class__") = some true)
    (x11_7 : PySem.W.mroIn K fc4 (.type "object") = some true)
    (x12 : PySem.W.subIn K (.ref fc2) (.type "BaseException") = some true)
    (x13 : PySem.W.typeIn K (.ref fc2) = some (.type "type"))
    (x14 : PySem.W.subIn K (.ref fc4) (.type "BaseException") = some true)
    (x15 : PySem.W.typeIn K (.ref fc4) = some (.type "type")) :
    ∃ fd : FuncData, (∀ (s : Shared) (v : Value), BindsTo s fd ⟨[v], []⟩ [("_law_script", v)]) ∧ ∀ base : Heap, K.In base → base.Ns mainGlobals mg → FnOk l.prog w K mg base CX0 4 fa fd ["_law_script"] (spLaw K) := by
  have e := hfa.symm.trans (PySem.W.mg_of X G a14)
  cases e
  exact ⟨PySem.W.fnOf "law" "law" (defArgs s_law) (defBody s_law) (defScope s_law) .none kV14 dc14 pm14 an14 cd14 ct14, fun s v => .of_eq rfl, fun base _ _ => ok_law (fun_mk (st := s_law) l14 c14 k14) (top_mk X G a0 l0 c0 k0 a1 l1 c1 k1 a2 l2 c2 k2 a3 l3 c3 k3 a4 l4 c4 k4 a5 l5 c5 k5 a6 l6 c6 k6 a7 l7 c7 k7 a8 l8 c8 k8 a9 l9 c9 k9 a10 l10 c10 k10 a11 l11 c11 k11 a12 l12 c12 k12 a13 l13 c13 k13 a14 l14 c14 k14 z0 z1 z2 z3 z4 z5 z6 z7 z8 z9 z10 z11 n0 x1 x3 x5 x6 x7 x8_0 x8_1 x8_2 x8_3 x8_4 x8_5 x8_6 x8_7 x9 x10 x11_0 x11_1 x11_2 x11_3 x11_4 x11_5 x11_6 x11_7 x12 x13 x14 x15)⟩
end Su
open PySem PySem.W PyProof.Rows
set_option maxHeartbeats 0 in
theorem PySem.Challenge.cw_susu_k10_orders_by_number_holds : PySem.Challenge.rw_susu_k10_orders_by_number.Holds := by
  w_on; o_law; k_head; (case hw => w_witness2)
  k_fill
  refine L2.walk_of (l := PySem.Challenge.rw_susu_k10_orders_by_number) (n := 63) (k := 4) (x := "_law_script") (CX := fun _ => L2.CX0) (sp := fun w => Su.spLaw _) rfl (by decide) rfl ⟨rfl, by decide, by decide⟩ (fun w h Y => PySem.W.kIn_of Y) ?F (fun _ _ a ns hl _ hS => ⟨a, ns, rfl, hS, hl, fun _ => rfl⟩) (fun _ _ _ _ _ h => h)
  case F =>
    intro w mg fa h KX G hmg
    refine' Su.all_mk KX G hmg ?a0 ?l0 ?c0 ?k0 ?a1 ?l1 ?c1 ?k1 ?a2 ?l2 ?c2 ?k2 ?a3 ?l3 ?c3 ?k3 ?a4 ?l4 ?c4 ?k4 ?a5 ?l5 ?c5 ?k5 ?a6 ?l6 ?c6 ?k6 ?a7 ?l7 ?c7 ?k7 ?a8 ?l8 ?c8 ?k8 ?a9 ?l9 ?c9 ?k9 ?a10 ?l10 ?c10 ?k10 ?a11 ?l11 ?c11 ?k11 ?a12 ?l12 ?c12 ?k12 ?a13 ?l13 ?c13 ?k13 ?a14 ?l14 ?c14 ?k14 ?z0 ?z1 ?z2 ?z3 ?z4 ?z5 ?z6 ?z7 ?z8 ?z9 ?z10 ?z11 ?n0 ?x1 ?x3 ?x5 ?x6 ?x7 ?x8_0 ?x8_1 ?x8_2 ?x8_3 ?x8_4 ?x8_5 ?x8_6 ?x8_7 ?x9 ?x10 ?x11_0 ?x11_1 ?x11_2 ?x11_3 ?x11_4 ?x11_5 ?x11_6 ?x11_7 ?x12 ?x13 ?x14 ?x15
    (case a0 => k_is); (case l0 => k_is); (case c0 => k_is); (case k0 => k_is); (case a1 => k_is); (case l1 => k_is); (case c1 => k_is); (case k1 => k_is); (case a2 => k_is); (case l2 => k_is); (case c2 => k_is); (case k2 => k_is); (case a3 => k_is); (case l3 => k_is); (case c3 => k_is); (case k3 => k_is); (case a4 => k_is); (case l4 => k_is); (case c4 => k_is); (case k4 => k_is); (case a5 => k_is); (case l5 => k_is); (case c5 => k_is); (case k5 => k_is); (case a6 => k_is); (case l6 => k_is); (case c6 => k_is); (case k6 => k_is); (case a7 => k_is); (case l7 => k_is); (case c7 => k_is); (case k7 => k_is); (case a8 => k_is); (case l8 => k_is); (case c8 => k_is); (case k8 => k_is); (case a9 => k_is); (case l9 => k_is); (case c9 => k_is); (case k9 => k_is); (case a10 => k_is); (case l10 => k_is); (case c10 => k_is); (case k10 => k_is); (case a11 => k_is); (case l11 => k_is); (case c11 => k_is); (case k11 => k_is); (case a12 => k_is); (case l12 => k_is); (case c12 => k_is); (case k12 => k_is); (case a13 => k_is); (case l13 => k_is); (case c13 => k_is); (case k13 => k_is); (case a14 => k_is); (case l14 => k_is); (case c14 => k_is); (case k14 => k_is); (case z0 => k_is); (case z1 => k_is); (case z2 => k_is); (case z3 => k_is); (case z4 => k_is); (case z5 => k_is); (case z6 => k_is); (case z7 => k_is); (case z8 => k_is); (case z9 => k_is); (case z10 => k_is); (case z11 => k_is); (case n0 => k_is); (case x1 => first | k_is | k_exc | rfl); (case x3 => first | k_is | k_exc | rfl); (case x5 => first | k_is | k_exc | rfl); (case x6 => first | k_is | k_exc | rfl); (case x7 => first | k_is | k_exc | rfl); (case x8_0 => first | k_is | k_exc | rfl); (case x8_1 => first | k_is | k_exc | rfl); (case x8_2 => first | k_is | k_exc | rfl); (case x8_3 => first | k_is | k_exc | rfl); (case x8_4 => first | k_is | k_exc | rfl); (case x8_5 => first | k_is | k_exc | rfl); (case x8_6 => first | k_is | k_exc | rfl); (case x8_7 => first | k_is | k_exc | rfl); (case x9 => first | k_is | k_exc | rfl); (case x10 => first | k_is | k_exc | rfl); (case x11_0 => first | k_is | k_exc | rfl); (case x11_1 => first | k_is | k_exc | rfl); (case x11_2 => first | k_is | k_exc | rfl); (case x11_3 => first | k_is | k_exc | rfl); (case x11_4 => first | k_is | k_exc | rfl); (case x11_5 => first | k_is | k_exc | rfl); (case x11_6 => first | k_is | k_exc | rfl); (case x11_7 => first | k_is | k_exc | rfl); (case x12 => first | k_is | k_exc | rfl); (case x13 => first | k_is | k_exc | rfl); (case x14 => first | k_is | k_exc | rfl); (case x15 => first | k_is | k_exc | rfl)

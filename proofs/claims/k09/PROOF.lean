import PyProof.Rows.All
import Wide.All
import OpenK.AllK
import Wide.FinOn
import KE.KNestM
import KE.KLam
import KE.DataMinKey
import HandS.Nested
import HandS.EndTab
import HandS.Words
import HandS.ForMost
import HandS.WordsExc
import HandS.ExcOwn
import HandS.Exc
import HandS.Evl
import HandS.IsInst
import HandS.Wide
import HandS.Zip
import HandS.More
import KE.GoesEnumKw
import KE.GoesMore
import HandS.SortKw
import KE.KEqDeep
import HandS.Conv
import HandS.ExcIs
import HandS.Strs
import HandS.SetFor
import HandS.Set
import HandS.Iter
import HandS.Dict
import HandS.Comp
import HandS.Deep
import HandS.WideBits
import KE.KDictDisplayH
import HandS.Walk
import PySem.Challenge.RW_susu_k09_orders_counted
set_option Elab.async false
set_option linter.all false
set_option maxRecDepth 100000

namespace Su
open PySem PySem.Spec PyProof.Rows L2 Evl
/-! ### small rules over HandS.Evl -/
theorem CMul.l {i j : Int} (h1 : -(2 ^ 64) < i) (h2 : i < 2 ^ 64) : CMul i j := .inl ⟨h1, h2⟩
theorem CMul.r {i j : Int} (h1 : -(2 ^ 64) < j) (h2 : j < 2 ^ 64) : CMul i j := .inr ⟨h1, h2⟩
theorem rv_mod {H : Hp} {i j : Int} (h : 0 < j) : RV (rI (fun _ j => 0 < j) fun i j => .int (i % j)) (.int i) (.int j) H (.int (i % j)) := rv_I h
theorem rv_div {H : Hp} {i j : Int} (h : 0 < j) (h2 : j < 1073741824) : RV (rI CDiv fun i j => .int (i / j)) (.int i) (.int j) H (.int (i / j)) := rv_I ⟨h, h2⟩
theorem rv_mul {H : Hp} {i j : Int} (h : CMul i j) : RV (rI CMul fun i j => .int (i * j)) (.int i) (.int j) H (.int (i * j)) := rv_I h
theorem rv_pow {H : Hp} {i j : Int} (h : CPow i j) : RV (rI CPow fun i j => .int (i ^ j.toNat)) (.int i) (.int j) H (.int (i ^ j.toNat)) := rv_I h
theorem rv_p18 {H : Hp} : RV (rI CPow fun i j => .int (i ^ j.toNat)) (.int 10) (.int 18) H (.int (10 ^ 18)) := rv_I (C := CPow) (g := fun i j => .int (i ^ j.toNat)) ⟨by decide, by decide, by decide⟩
theorem rv_p12 {H : Hp} : RV (rI CPow fun i j => .int (i ^ j.toNat)) (.int 10) (.int 12) H (.int (10 ^ 12)) := rv_I (C := CPow) (g := fun i j => .int (i ^ j.toNat)) ⟨by decide, by decide, by decide⟩
theorem rv_p20 {H : Hp} : RV (rI CPow fun i j => .int (i ^ j.toNat)) (.int 10) (.int 20) H (.int (10 ^ 20)) := rv_I (C := CPow) (g := fun i j => .int (i ^ j.toNat)) ⟨by decide, by decide, by decide⟩
theorem rv_divW {H : Hp} {i j : Int} (h : CDivW i j) : RV (rI CDivW fun i j => .int (i / j)) (.int i) (.int j) H (.int (i / j)) := rv_I h
theorem rv_mulW {H : Hp} {i j : Int} (h : CMulW i j) : RV (rI CMulW fun i j => .int (i * j)) (.int i) (.int j) H (.int (i * j)) := rv_I h
theorem rc_abs {H : Hp} {i : Int} : RC (fun xs H Q => ∃ i, xs = [V.int i] ∧ Q (.int (if i < 0 then -i else i)) H) [.int i] H (.int (if i < 0 then -i else i)) := fun H1 _ _ q => ⟨i, rfl, q H1 (Ex.refl H1)⟩
theorem rc_max {H : Hp} {i j : Int} : RC (fun xs H Q => ∃ i j, xs = [V.int i, .int j] ∧ Q (.int (if j > i then j else i)) H) [.int i, .int j] H (.int (if j > i then j else i)) := fun H1 _ _ q => ⟨i, j, rfl, q H1 (Ex.refl H1)⟩
theorem rc_min {H : Hp} {i j : Int} : RC (fun xs H Q => ∃ i j, xs = [V.int i, .int j] ∧ Q (.int (if j < i then j else i)) H) [.int i, .int j] H (.int (if j < i then j else i)) := fun H1 _ _ q => ⟨i, j, rfl, q H1 (Ex.refl H1)⟩
theorem rc_len {K : PySem.W.Frag} {H : Hp} {p : Addr} {ys : List V} (h : SqL K H p ys ∨ SqT K H p ys) : RC (fun xs H Q => ∃ p ys, xs = [V.ref p] ∧ (SqL K H p ys ∨ SqT K H p ys) ∧ Q (.int ys.length) H) [.ref p] H (.int ys.length) :=
  fun H1 e _ q => ⟨p, ys, rfl, h.elim (fun h => .inl (ex_l e h)) (fun h => .inr (ex_t e h)), q H1 (Ex.refl H1)⟩
theorem rc_isi_int {K : PySem.W.Frag} {H : Hp} {i : Int} {n : String} {b : Bool} (h : kitB "int" n = some b) : RC (rIsi K) [.int i, .ty n] H (.bl b) :=
  fun H1 _ _ q => ⟨.int i, .ty n, .type "int", .type n, b, rfl, .ty n, .base (.int i), kit_ty h, q H1 (Ex.refl H1)⟩
theorem ex_g {H H' : Hp} {a : Addr} {o : HO} (e : Ex H H') (h : H a = some o) : H' a = some o := e a o h
theorem at_rows {rows : List Int} {z : Int} (h0 : 0 ≤ z) (h : z < rows.length) : atI (rows.map V.int) z = some (.int (rows.getD z.toNat 0)) := by
  have hz : z = ((z.toNat : Nat) : Int) := by omega
  have hl : z.toNat < rows.length := by omega
  refine at_of hz ?_
  rw [List.getElem?_map, List.getElem?_eq_getElem hl, List.getD_eq_getElem?_getD, List.getElem?_eq_getElem hl]
  rfl
theorem at4 {a b c d z : Int} (h0 : 0 ≤ z) (h : z < 4) : atI [V.int a, .int b, .int c, .int d] z = some (.int (if z = 0 then a else if z = 1 then b else if z = 2 then c else d)) := by
  have h4 : z = 0 ∨ z = 1 ∨ z = 2 ∨ z = 3 := by omega
  rcases h4 with rfl | rfl | rfl | rfl <;> rfl
theorem wm {i j : Int} (h1 : i.natAbs < 2 ^ 240) (h2 : j.natAbs < 2 ^ 240) : CMulW i j := wide_mul h1 h2 (by decide) (by decide) (by decide)
theorem wd {i j : Int} (h : 0 < j) (h2 : j.natAbs < 2 ^ 240) : CDivW i j := wide_div h h2 (by decide) (by decide)
theorem n400 {i : Int} {n : Int} (h1 : -n ≤ i) (h2 : i ≤ n) (h : n.toNat < 2 ^ 240) : i.natAbs < 2 ^ 240 := by omega
theorem n400' {i : Int} (h1 : -(10 ^ 70) ≤ i) (h2 : i ≤ 10 ^ 70) : i.natAbs < 2 ^ 240 := n400 h1 h2 (by decide)
theorem decT {p : Prop} [Decidable p] (h : p) {b : Bool} (e : decide p = b) : b = true := by rw [← e]; exact decide_eq_true h
abbrev vErr : List Value := [.type "ValueError", .type "Exception", .type "BaseException", .type "object"]
theorem ex_up {H : Hp} {p : Addr} {o' : HO} {H0 : Hp} (e : Ex H0 H) (hp : H0 p = none) : Ex H0 (upd H p o') := Ex.mut e hp
theorem seq_ne {K : PySem.W.Frag} {H H' : Hp} {a : Addr} {xs : List V} (e : Ex H H') (h : SqL K H a xs) : SqL K H' a xs := ex_l e h
/-- a def's call that hands back a new list of which something is known -/
def SpN (sp : Sp) (vs : List V) (H : Hp) (P : List V → Prop) : Prop := ∀ H1, Ex H H1 → ∀ Q : VK, (∀ xs p H2, P xs → H1 p = none → Ex H1 H2 → H2 p = some (.lst xs) → Q (.ref p) H2) → ∀ E : XK, sp vs H1 Q E
theorem q_callN {sp : Sp} {dvs vs : List V} {E : XK} {ta : TA} {σ : L2.St} {H : Hp} {i : Nat} {D : Ends} {tz : TS} {P : List V → Prop} (h : EvA ta σ H vs) (hs : SpN sp (vs ++ dvs) H P)
    (k : ∀ xs p H1, P xs → H p = none → Ex H H1 → H1 p = some (.lst xs) → tz D (σ.set i (some (.ref p))) H1) : tSeq (tAsg (tCall sp dvs E ta) (gName i)) tz D σ H :=
  h H (Ex.refl H) _ fun H1 e1 => hs H1 e1 _ (fun xs p H2 hP hp e2 h2 => k xs p H2 hP (fresh_back e1 hp) (e1.trans e2) h2) E
theorem s_callN {sp : Sp} {dvs vs : List V} {E : XK} {ta : TA} {σ : L2.St} {H : Hp} {i : Nat} {D : Ends} {P : List V → Prop} (h : EvA ta σ H vs) (hs : SpN sp (vs ++ dvs) H P)
    (k : ∀ xs p H1, P xs → H p = none → Ex H H1 → H1 p = some (.lst xs) → D.nx (σ.set i (some (.ref p))) H1) : tAsg (tCall sp dvs E ta) (gName i) D σ H :=
  h H (Ex.refl H) _ fun H1 e1 => hs H1 e1 _ (fun xs p H2 hP hp e2 h2 => k xs p H2 hP (fresh_back e1 hp) (e1.trans e2) h2) E
/-- .. whose first argument is a new list -/
theorem s_callN1 {sp : Sp} {dvs vs xs0 : List V} {E : XK} {te : TE} {tr : TA} {σ : L2.St} {H : Hp} {i : Nat} {D : Ends} {P : List V → Prop} (h1 : EvL te σ H xs0) (h2 : EvA tr σ H vs) (hs : ∀ p0 H1, Ex H H1 → H1 p0 = some (.lst xs0) → SpN sp (.ref p0 :: vs ++ dvs) H1 P)
    (k : ∀ xs p H1, P xs → H p = none → Ex H H1 → H1 p = some (.lst xs) → D.nx (σ.set i (some (.ref p))) H1) : tAsg (tCall sp dvs E (tCons te tr)) (gName i) D σ H :=
  h1 H (Ex.refl H) _ fun p0 H1 _ e1 hp0 => h2 H1 e1 _ fun H2 e2 => hs p0 H2 (e1.trans e2) (e2 _ _ hp0) H2 (Ex.refl H2) _ (fun xs p H3 hP hp e3 h3 => k xs p H3 hP (fresh_back (e1.trans e2) hp) ((e1.trans e2).trans e3) h3) E
theorem ev_callL {sp : Sp} {dvs vs xs0 : List V} {E : XK} {te : TE} {tr : TA} {σ : L2.St} {H : Hp} {z : V} (h1 : EvL te σ H xs0) (h2 : EvA tr σ H vs) (hs : ∀ p0 H1, Ex H H1 → H1 p0 = some (.lst xs0) → SpV sp (.ref p0 :: vs ++ dvs) H1 z) : Ev (tCall sp dvs E (tCons te tr)) σ H z := fun H0 e0 Q q =>
  h1 H0 e0 _ fun p0 H1 _ e1 hp0 => h2 H1 (e0.trans e1) _ fun H2 e2 => hs p0 H2 ((e0.trans e1).trans e2) (e2 _ _ hp0) H2 (Ex.refl H2) _ (fun H3 e3 => q H3 ((e1.trans e2).trans e3)) E
theorem cut_from (xs : List V) (k : Nat) : cutV xs (some (k : Int)) none = xs.drop k := by
  unfold cutV
  rw [HT.sIx_nat, HT.sIx_none]
  by_cases h : k ≤ xs.length
  · rw [Nat.min_eq_left h, List.take_of_length_le (by rw [List.length_drop]; omega)]
  · rw [Nat.min_eq_right (by omega), Nat.sub_self, List.take_zero, List.drop_of_length_le (by omega)]
theorem s_asgSub {l : Addr} {xs : List V} {z : Int} {j : Nat} {te ta tb : TE} {σ : L2.St} {H : Hp} {v : V} {D : Ends} (hl : H l = some (.lst xs)) (h : Ev te σ H v) (ho : Ev ta σ H (.ref l)) (hi : Ev tb σ H (.int z)) (hz : z = (j : Int)) (hj : j < xs.length)
    (k : ∀ H1, Ex H H1 → D.nx σ (upd H1 l (.lst (xs.set j v)))) : tAsg te (gSub ta tb rSetL) D σ H := s_setL hl h ho (hz ▸ hi) hj k
end Su
open PySem PySem.Spec PyProof.Rows L2 Evl Su
/-! ### small tactics: "ev" an expression, "et" a test, "ea" arguments, "rv" an operator, "rc" a built-in, "hc" a bound -/
local macro_rules | `(tactic| walk_at "hc") => `(tactic| first | assumption | omega | (exact Su.CMul.l (by omega) (by omega)) | (exact Su.CMul.r (by omega) (by omega)) | (exact Su.wm (Su.n400' (by omega) (by omega)) (Su.n400' (by omega) (by omega))) | (exact Su.wd (by omega) (Su.n400' (by omega) (by omega))) | decide)
local macro_rules | `(tactic| walk_at "rv") => `(tactic| first
  | (with_reducible exact rv_I0)
  | (with_reducible exact rv_eq rfl)
  | (with_reducible exact rv_ne rfl)
  | (with_reducible refine Su.rv_mod ?_; walk_at "hc")
  | (with_reducible refine Su.rv_div ?_ ?_ <;> walk_at "hc")
  | (with_reducible refine Su.rv_mul ?_; walk_at "hc")
  | exact Su.rv_p18
  | exact Su.rv_p12
  | exact Su.rv_p20
  | (with_reducible refine Su.rv_divW ?_; walk_at "hc")
  | (with_reducible refine Su.rv_mulW ?_; walk_at "hc")
  | (apply rv_ixL; (first | assumption | (exact sq_of (by assumption))); (first | (apply Su.at_rows <;> walk_at "hc") | rfl | assumption)))
local macro_rules | `(tactic| walk_at "rc") => `(tactic| first
  | exact Su.rc_abs
  | exact Su.rc_max
  | exact Su.rc_min
  | exact Su.rc_isi_int (b := true) (by decide +kernel)
  | exact Su.rc_isi_int (b := false) (by decide +kernel))
local macro_rules | `(tactic| walk_at "ea") => `(tactic| first
  | exact ea_nil
  | (apply ea_cons; (walk_at "ev"); (walk_at "ea")))
local macro_rules | `(tactic| walk_at "ev") => `(tactic| first
  | exact ev_c
  | exact ev_var rfl
  | (apply ev_op; (walk_at "ev"); (walk_at "ev"); (walk_at "rv"))
  | (apply ev_un; (walk_at "ev"); (exact ru_neg))
  | (apply ev_andV; (walk_at "ev"); (intro _; walk_at "ev"))
  | (apply ev_orV; (walk_at "ev"); (intro _; walk_at "ev"))
  | (apply ev_notV; (walk_at "ev"))
  | (apply ev_len; (walk_at "ev"); first | assumption | (exact sq_of (by assumption)))
  | (apply ev_cb; (walk_at "ea"); (walk_at "rc")))
local macro_rules | `(tactic| walk_at "et") => `(tactic| first
  | (apply et_and; (walk_at "et"); (intro _; walk_at "et"))
  | (apply et_or; (walk_at "et"); (intro _; walk_at "et"))
  | (apply et_not; (walk_at "et"))
  | (apply et_test; (walk_at "ev"))
  | (apply et_B; (walk_at "ev")))

open PySem PySem.Spec PyProof.Rows L2 Evl Su
namespace Su
def topS (i : Nat) : Stmt := PySem.Challenge.pw_susu_k09_orders_counted.main.body.getD i (.Pass ⟨0, 0, 0, 0⟩)
abbrev s_count_orders : Stmt := topS 5
abbrev N_count_orders : List Str := ["windows"]
theorem sc_count_orders : FnScope N_count_orders ["windows"] (defScope s_count_orders) := ⟨rfl, rfl, rfl, by decide +kernel, rfl, by decide +kernel, by decide +kernel⟩
abbrev s_refuse_many : Stmt := topS 6
abbrev N_refuse_many : List Str := ["windows"]
theorem sc_refuse_many : FnScope N_refuse_many ["windows"] (defScope s_refuse_many) := ⟨rfl, rfl, rfl, by decide +kernel, rfl, by decide +kernel, by decide +kernel⟩
abbrev s_with_window : Stmt := topS 7
abbrev N_with_window : List Str := ["held", "at"]
theorem sc_with_window : FnScope N_with_window ["held", "at"] (defScope s_with_window) := ⟨rfl, rfl, rfl, by decide +kernel, rfl, by decide +kernel, by decide +kernel⟩
abbrev s_next_windows : Stmt := topS 8
abbrev N_next_windows : List Str := ["windows", "held", "free", "turn", "at"]
theorem sc_next_windows : FnScope N_next_windows ["windows", "held"] (defScope s_next_windows) := ⟨rfl, rfl, rfl, by decide +kernel, rfl, by decide +kernel, by decide +kernel⟩
abbrev s_ways_on : Stmt := topS 9
abbrev N_ways_on : List Str := ["windows", "full", "ways", "held", "at"]
theorem sc_ways_on : FnScope N_ways_on ["windows"] (defScope s_ways_on) := ⟨rfl, rfl, rfl, by decide +kernel, rfl, by decide +kernel, by decide +kernel⟩
abbrev s__law_draws : Stmt := topS 11
abbrev N__law_draws : List Str := ["_law_script", "_law_many", "_law_rows", "_law_mix", "_law_cell", "_law_rest"]
theorem sc__law_draws : FnScope N__law_draws ["_law_script", "_law_many"] (defScope s__law_draws) := ⟨rfl, rfl, rfl, by decide +kernel, rfl, by decide +kernel, by decide +kernel⟩
abbrev s__law_wide : Stmt := topS 12
abbrev N__law_wide : List Str := ["_law_some", "_law_size", "_law_rows", "_law_at", "_law_first", "_law_last"]
theorem sc__law_wide : FnScope N__law_wide ["_law_some", "_law_size"] (defScope s__law_wide) := ⟨rfl, rfl, rfl, by decide +kernel, rfl, by decide +kernel, by decide +kernel⟩
abbrev s__law_count : Stmt := topS 13
abbrev N__law_count : List Str := ["_law_windows", "_law_size", "_law_table", "_law_first", "_law_last", "_law_later", "_law_used", "_law_turn", "_law_grown"]
theorem sc__law_count : FnScope N__law_count ["_law_windows"] (defScope s__law_count) := ⟨rfl, rfl, rfl, by decide +kernel, rfl, by decide +kernel, by decide +kernel⟩
abbrev s_law : Stmt := topS 14
abbrev N_law : List Str := ["_law_script", "_law_some", "_law_size", "_law_windows", "_law_handed", "_law_due", "_law_again", "_law_told"]
theorem sc_law : FnScope N_law ["_law_script"] (defScope s_law) := ⟨rfl, rfl, rfl, by decide +kernel, rfl, by decide +kernel, by decide +kernel⟩
structure Top (K : PySem.W.Frag) (mg : Str → Option Value) where
  f_count_orders : Addr
  fd_count_orders : FuncData
  F_count_orders : Fun K "count_orders" "count_orders" s_count_orders f_count_orders fd_count_orders
  b_count_orders : Binds K fd_count_orders ["windows"] []
  m_count_orders : mg "count_orders" = some (.ref f_count_orders)
  f_refuse_many : Addr
  fd_refuse_many : FuncData
  F_refuse_many : Fun K "refuse_many" "refuse_many" s_refuse_many f_refuse_many fd_refuse_many
  b_refuse_many : Binds K fd_refuse_many ["windows"] []
  m_refuse_many : mg "refuse_many" = some (.ref f_refuse_many)
  f_with_window : Addr
  fd_with_window : FuncData
  F_with_window : Fun K "with_window" "with_window" s_with_window f_with_window fd_with_window
  b_with_window : Binds K fd_with_window ["held", "at"] []
  m_with_window : mg "with_window" = some (.ref f_with_window)
  f_next_windows : Addr
  fd_next_windows : FuncData
  F_next_windows : Fun K "next_windows" "next_windows" s_next_windows f_next_windows fd_next_windows
  b_next_windows : Binds K fd_next_windows ["windows", "held"] []
  m_next_windows : mg "next_windows" = some (.ref f_next_windows)
  f_ways_on : Addr
  fd_ways_on : FuncData
  F_ways_on : Fun K "ways_on" "ways_on" s_ways_on f_ways_on fd_ways_on
  b_ways_on : Binds K fd_ways_on ["windows"] []
  m_ways_on : mg "ways_on" = some (.ref f_ways_on)
  f__law_draws : Addr
  fd__law_draws : FuncData
  F__law_draws : Fun K "_law_draws" "_law_draws" s__law_draws f__law_draws fd__law_draws
  b__law_draws : Binds K fd__law_draws ["_law_script", "_law_many"] []
  m__law_draws : mg "_law_draws" = some (.ref f__law_draws)
  f__law_wide : Addr
  fd__law_wide : FuncData
  F__law_wide : Fun K "_law_wide" "_law_wide" s__law_wide f__law_wide fd__law_wide
  b__law_wide : Binds K fd__law_wide ["_law_some", "_law_size"] []
  m__law_wide : mg "_law_wide" = some (.ref f__law_wide)
  f__law_count : Addr
  fd__law_count : FuncData
  F__law_count : Fun K "_law_count" "_law_count" s__law_count f__law_count fd__law_count
  b__law_count : Binds K fd__law_count ["_law_windows"] []
  m__law_count : mg "_law_count" = some (.ref f__law_count)
  f_law : Addr
  fd_law : FuncData
  F_law : Fun K "law" "law" s_law f_law fd_law
  b_law : Binds K fd_law ["_law_script"] []
  m_law : mg "law" = some (.ref f_law)
  m_abs : mg "abs" = none
  m_bool : mg "bool" = none
  m_int : mg "int" = none
  m_isinstance : mg "isinstance" = none
  m_len : mg "len" = none
  m_list : mg "list" = none
  m_range : mg "range" = none
  m_sorted : mg "sorted" = none
  m_sum : mg "sum" = none
  m_tuple : mg "tuple" = none
  f_SusuError : Addr
  m_SusuError : mg "SusuError" = some (.ref f_SusuError)
  f_TooMany : Addr
  m_TooMany : mg "TooMany" = some (.ref f_TooMany)
  x_TooMany : PySem.W.excIn K f_TooMany vErr "ValueError.__new__" = true
  kp_TooMany : PySem.W.keepIn K (.ref f_TooMany) = true
  e_TooMany : ExcC K f_TooMany
  sb_TooMany : PySem.W.subIn K (.ref f_TooMany) (.type "BaseException") = some true
  ty_TooMany : PySem.W.typeIn K (.ref f_TooMany) = some (.type "type")
  t_MOST_WINDOWS : Tok
  m_MOST_WINDOWS : mg "MOST_WINDOWS" = some (.int 8 t_MOST_WINDOWS)
end Su
namespace Su
/-! ### rules whose written part is named, for blocks -/
section
variable {X : Cx} {K : PySem.W.Frag}
theorem ix_listK (h : X.K = K := by rfl) : IxR X (rIxL K) := h ▸ ix_list
theorem ix_tupK (h : X.K = K := by rfl) : IxR X (rIxT K) := h ▸ ix_tup
theorem call_len_seqK (h : X.K = K := by rfl) : CallR X (.builtin "len") (fun xs H Q => ∃ p ys, xs = [.ref p] ∧ (SqL K H p ys ∨ SqT K H p ys) ∧ Q (.int ys.length) H) := h ▸ call_len_seq
theorem op_in_seqK (h : X.K = K := by rfl) : OpR X (compareOp .In) (rIn K false) := h ▸ op_in_seq
theorem op_notIn_seqK (h : X.K = K := by rfl) : OpR X (compareOp .NotIn) (rIn K true) := h ▸ op_notIn_seq
theorem call_list_ofK (h : X.K = K := by rfl) : CallR X (.type "list") (fun xs H Q => ∃ p ys, xs = [.ref p] ∧ (SqL K H p ys ∨ SqT K H p ys) ∧ ∀ l, H l = none → Q (.ref l) (upd H l (.lst ys))) := h ▸ call_list_of
theorem call_isiK' (h : X.K = K := by rfl) : CallR X (.builtin "isinstance") (rIsi K) := h ▸ call_isi
end

end Su
namespace Su
theorem chain_le' {σ : L2.St} {H : Hp} {ta tb tc : TE} {a b c : Int} (h1 : Ev ta σ H (.int a)) (h2 : Ev tb σ H (.int b)) (h3 : Ev tc σ H (.int c)) :
    Ev (tChain (rI0 fun i j => .bl (decide (i ≤ j))) (rI0 fun i j => .bl (decide (i ≤ j))) ta tb tc) σ H (.bl (decide (a ≤ b) && decide (b ≤ c))) := fun H1 e Q q =>
  h1 H1 e _ fun H2 e2 => h2 H2 (e.trans e2) _ fun H3 e3 => ⟨a, b, rfl, rfl, decide (a ≤ b), rfl, by
    cases hd : decide (a ≤ b) with
    | true =>
      show tc σ H3 _
      exact h3 H3 ((e.trans e2).trans e3) _ fun H4 e4 => ⟨b, c, rfl, rfl, by rw [hd] at q; exact q H4 ((e2.trans e3).trans e4)⟩
    | false =>
      rw [hd] at q
      exact q H3 (e2.trans e3)⟩
theorem chain_le {σ : L2.St} {H : Hp} {ta tb tc : TE} {a b c : Int} (h1 : Ev ta σ H (.int a)) (h2 : Ev tb σ H (.int b)) (h3 : Ev tc σ H (.int c)) :
    EvT (tTest (tChain (rI0 fun i j => .bl (decide (i ≤ j))) (rI0 fun i j => .bl (decide (i ≤ j))) ta tb tc)) σ H (decide (a ≤ b) && decide (b ≤ c)) := fun H1 e Q q =>
  h1 H1 e _ fun H2 e2 => h2 H2 (e.trans e2) _ fun H3 e3 => ⟨a, b, rfl, rfl, decide (a ≤ b), rfl, by
    cases hd : decide (a ≤ b) with
    | true =>
      show tc σ H3 _
      exact h3 H3 ((e.trans e2).trans e3) _ fun H4 e4 => ⟨b, c, rfl, rfl, decide (b ≤ c), rfl, by rw [hd] at q; exact q H4 ((e2.trans e3).trans e4)⟩
    | false =>
      rw [hd] at q
      exact ⟨false, rfl, q H3 (e2.trans e3)⟩⟩
theorem et_chain {f g : Int → Int → Bool} {σ : L2.St} {H : Hp} {ta tb tc : TE} {a b c : Int} (h1 : Ev ta σ H (.int a)) (h2 : Ev tb σ H (.int b)) (h3 : Ev tc σ H (.int c)) :
    EvT (tTest (tChain (rI0 fun i j => .bl (f i j)) (rI0 fun i j => .bl (g i j)) ta tb tc)) σ H (f a b && g b c) := fun H1 e Q q =>
  h1 H1 e _ fun H2 e2 => h2 H2 (e.trans e2) _ fun H3 e3 => ⟨a, b, rfl, rfl, f a b, rfl, by
    cases hd : f a b with
    | true =>
      show tc σ H3 _
      exact h3 H3 ((e.trans e2).trans e3) _ fun H4 e4 => ⟨b, c, rfl, rfl, g b c, rfl, by rw [hd] at q; exact q H4 ((e2.trans e3).trans e4)⟩
    | false =>
      rw [hd] at q
      exact ⟨false, rfl, q H3 (e2.trans e3)⟩⟩

end Su
namespace Su
/-! ### the drawn numbers -/
def Rows (m : Nat) (rows : List Int) : Prop := m ≤ rows.length ∧ rows.length ≤ m + 63 ∧ ∀ x ∈ rows, -(10 ^ 18) < x ∧ x < 10 ^ 18
theorem Rows.add {rows : List Int} {x : Int} (h : ∀ x ∈ rows, -(10 ^ 18) < x ∧ x < 10 ^ 18) (h1 : -(10 ^ 18) < x) (h2 : x < 10 ^ 18) : ∀ y ∈ rows ++ [x], -(10 ^ 18) < y ∧ y < 10 ^ 18 := fun y hy => by
  rcases List.mem_append.mp hy with h' | h'
  · exact h y h'
  · obtain rfl := List.mem_singleton.mp h'
    exact ⟨h1, h2⟩
theorem Rows.get {m : Nat} {rows : List Int} (h : Rows m rows) (i : Nat) : -(10 ^ 18) < rows.getD i 0 ∧ rows.getD i 0 < 10 ^ 18 := by
  by_cases hi : i < rows.length
  · rw [List.getD_eq_getElem?_getD, List.getElem?_eq_getElem hi]
    exact h.2.2 _ (List.getElem_mem hi)
  · rw [List.getD_eq_getElem?_getD, List.getElem?_eq_none (by omega)]
    decide
section
variable {P : Program} {w : World} {K : PySem.W.Frag} {mg : Str → Option Value} {base : Heap}
def spDraws (K : PySem.W.Frag) : Sp := fun vs H Q _ => ∃ (a : Addr) (ns : List Int) (m : Nat), vs = [.ref a, .int (m : Int)] ∧ SqL K H a (ns.map V.int) ∧ ns.length ≤ 63 ∧ m ≤ 1000 ∧
  ∀ rows H' p, H p = none → Ex H H' → H' p = some (.lst (rows.map V.int)) → Rows m rows → Q (.ref p) H'
theorem spN_draws {K : PySem.W.Frag} {a : Addr} {ns : List Int} {m : Nat} {H : Hp} (hS : SqL K H a (ns.map V.int)) (hl : ns.length ≤ 63) (hm : m ≤ 1000) : SpN (spDraws K) [.ref a, .int (m : Int)] H (fun xs => ∃ rows : List Int, Rows m rows ∧ xs = rows.map V.int) :=
  fun H1 e Q q E => ⟨a, ns, m, rfl, ex_l e hS, hl, hm, fun rows H' p hp e' h' hr => q _ p H' ⟨rows, hr, rfl⟩ hp e' h'⟩
def DrI (H0 : Hp) (a p : Addr) (m i : Nat) (σ : L2.St) (H : Hp) : Prop := ∃ (rows : List Int) (mix : Int) (y4 y5 : Option V), σ = [some (.ref a), some (.int (m : Int)), some (.ref p), some (.int mix), y4, y5] ∧ Ex H0 H ∧ H p = some (.lst (rows.map V.int)) ∧
  rows.length ≤ m + i ∧ 0 ≤ mix ∧ mix < 2147483647 ∧ ∀ x ∈ rows, -(10 ^ 18) < x ∧ x < 10 ^ 18
theorem ok__law_draws {f : Addr} {fd : FuncData} {k : Nat} (F : Fun K "_law_draws" "_law_draws" s__law_draws f fd) (T : Top K mg) : FnOk P w K mg base CX0 (k + 1) f fd ["_law_script", "_law_many"] (spDraws K) := by
  have nd := sc__law_draws.nd
  refine F.ok sc__law_draws (fun vs H Q E h => ?_) (fun cdv A outer s H vs Q E hr h => ?_)
  · obtain ⟨a, ns, m, rfl, _⟩ := h
    rfl
  · obtain ⟨a, ns, m, rfl, hS, hlen, hm, q⟩ := h
    refine ⟨_, (pss_cons (ps_set (i := 2) nd rfl (.inl rfl) (pe_lst pa_nil))
      (pss_cons (ps_set (i := 3) nd rfl (.inl rfl) pe_int)
      (pss_cons (ps_for PassesOwn.never rfl (pi_list (pv 0)) (pg_name (i := 4) nd rfl (.inl rfl))
        (pss_cons (ps_set (i := 3) nd rfl (.inl rfl) (pe_op op_mod (pe_op op_add (pe_op op_mul (pv 3) pe_int) (pv 4)) pe_int))
          (pss_cons (ps_set (i := 5) nd rfl (.inl rfl) (pe_callB call_abs (by rfl) T.m_abs (by decide +kernel) (pa_cons (pv 4) pa_nil)))
          (pss_cons (ps_if (pt_cmpR op_lt (pv 5) (pe_op op_pow pe_int pe_int) (nomark _))
            (pss_cons (ps_expr (pe_bm PySem.F.plainAttrs_list PySem.F.slot_list_append PySem.F.type_list_append mt_append (pv 2) (pa_cons (pv 4) pa_nil)))
              (pss_one (ps_set (i := 5) nd rfl (.inl rfl) pe_int)))
            pss_nil)
          (pss_one (ps_while PassesOwn.never (PW.pt (pw_and (pt_cmpR op_gt (pv 5) pe_int (nomark _)) (pw_and1 (pt_cmpR op_lt (pe_callB call_len_seq (by rfl) T.m_len PySem.boot_len (pa_cons (pv 2) pa_nil)) (pv 1) (nomark _)))))
            (pss_cons (ps_expr (pe_bm PySem.F.plainAttrs_list PySem.F.slot_list_append PySem.F.type_list_append mt_append (pv 2) (pa_cons (pe_op op_mod (pv 5) pe_int) pa_nil)))
              (pss_one (ps_set (i := 5) nd rfl (.inl rfl) (pe_op op_fdiv (pv 5) pe_int))))))))))
      (pss_cons (ps_while PassesOwn.never (pt_cmpR op_lt (pe_callB call_len_seq (by rfl) T.m_len PySem.boot_len (pa_cons (pv 2) pa_nil)) (pv 1) (nomark _))
        (pss_cons (ps_set (i := 3) nd rfl (.inl rfl) (pe_op op_mod (pe_op op_add (pe_op op_mul (pv 3) pe_int) pe_int) pe_int))
          (pss_one (ps_expr (pe_bm PySem.F.plainAttrs_list PySem.F.slot_list_append PySem.F.type_list_append mt_append (pv 2) (pa_cons (pe_op op_mod (pe_op op_mul (pv 3) (pv 3)) pe_int) pa_nil))))))
      (pss_one (ps_ret (pv 2))))))), ?_⟩
    -- rows = []; mix = 1
    refine q_asgL (el_lst ea_nil (by decide)) fun p H1 hp e1 h1 => ?_
    have hS1 := ex_l e1 hS
    refine q_asg (by walk_at "ev") fun H2 e2 => ?_
    refine q_forL (by walk_at "ev") (ex_l e2 hS1) (DrI H a p m) ?_ ?_ ?_ ?_
    · intro H3 e3
      exact ⟨[], 1, none, none, rfl, (e1.trans e2).trans e3, e3 p _ (e2 p _ h1), Nat.zero_le _, by omega, by omega, fun x hx => by cases hx⟩
    · rintro i σ' H' _ ⟨rows, mix, y4, y5, rfl, ex, _⟩
      exact ex_l ex hS
    · rintro i x σ' H' hx ⟨rows, mix, y4, y5, rfl, ex, hr', hrl, m0, m1, hb⟩
      obtain ⟨c, rfl⟩ : ∃ c : Int, x = .int c := by
        rw [List.getElem?_map] at hx
        cases hc : ns[i]? with
        | none => rw [hc] at hx; cases hx
        | some c => rw [hc] at hx; exact ⟨c, (Option.some.inj hx).symm⟩
      have hi : i < 63 := by
        have := (List.getElem?_eq_some_iff.mp hx).1
        rw [List.length_map] at this
        omega
      refine q_asg (by walk_at "ev") fun H3 e3 => ?_
      have m0' := Int.emod_nonneg (mix * 31 + c) (show (2147483647 : Int) ≠ 0 by decide)
      have m1' := Int.emod_lt_of_pos (mix * 31 + c) (show (0 : Int) < 2147483647 by decide)
      generalize (mix * 31 + c) % 2147483647 = mix' at m0' m1' ⊢
      refine q_asg (by walk_at "ev") fun H4 e4 => ?_
      have hr4 := ex_g e4 (ex_g e3 hr')
      have ex4 := (ex.trans e3).trans e4
      have r0 : 0 ≤ (if c < 0 then -c else c) := by split <;> omega
      have rc : (if c < 0 then -c else c) < 10 ^ 18 → -(10 ^ 18) < c ∧ c < 10 ^ 18 := by split <;> omega
      generalize (if c < 0 then -c else c) = rest at r0 rc ⊢
      -- what stands behind the if: the while
      have hwh : ∀ (rows' : List Int) (rest' : Int) (y4' : Option V) (H5 : Hp), Ex H H5 → H5 p = some (.lst (rows'.map V.int)) → rows'.length ≤ m + (i + 1) → 0 ≤ rest' → (0 < rest' → rows'.length ≤ m + i) → (∀ x ∈ rows', -(10 ^ 18) < x ∧ x < 10 ^ 18) →
          ∀ (tc : TT) (tb : TS) (D : Ends), True → True := fun _ _ _ _ _ _ _ _ _ _ _ _ _ _ => trivial
      clear hwh
      refine q_when (by walk_at "et") (fun hb' H5 e5 => ?_) (fun hb' H5 e5 => ?_)
      · have hlt : rest < 10 ^ 18 := of_decide_eq_true hb'
        obtain ⟨c1, c2⟩ := rc hlt
        refine q_app (ex_g e5 hr4) (by walk_at "ev") (by walk_at "ev") (by rw [List.length_map]; omega) fun H6 e6 => ?_
        refine s_asg (by walk_at "ev") fun H7 e7 => ?_
        have hp7 : H7 p = some (.lst ((rows ++ [c]).map V.int)) := e7 p _ (by rw [upd_same, List.map_append]; rfl)
        have ex7 : Ex H H7 := (ex_up ((ex4.trans e5).trans e6) hp).trans e7
        refine s_while (fun n σ2 H2 => n = 0 ∧ σ2 = [some (.ref a), some (.int (m : Int)), some (.ref p), some (.int mix'), some (.int c), some (.int 0)] ∧ Ex H H2 ∧ H2 p = some (.lst ((rows ++ [c]).map V.int))) 0 ⟨rfl, rfl, ex7, hp7⟩ ?_
        rintro n σ2 H2 ⟨rfl, rfl, ex2, hp2⟩
        refine ⟨_, by walk_at "et", fun hb2 => ?_, fun hb2 H8 e8 => ?_⟩
        · simp at hb2
        · exact ⟨rows ++ [c], mix', _, _, rfl, ex2.trans e8, e8 p _ hp2, by rw [List.length_append]; show rows.length + 1 ≤ _; omega, m0', m1', Rows.add hb c1 c2⟩
      · refine s_while (fun n σ2 H2 => ∃ (rows' : List Int) (rest' : Int), σ2 = [some (.ref a), some (.int (m : Int)), some (.ref p), some (.int mix'), some (.int c), some (.int rest')] ∧ n = rest'.toNat ∧ Ex H H2 ∧ H2 p = some (.lst (rows'.map V.int)) ∧ rows'.length ≤ m + i ∧ 0 ≤ rest' ∧ ∀ x ∈ rows', -(10 ^ 18) < x ∧ x < 10 ^ 18) rest.toNat
          ⟨rows, rest, rfl, rfl, ex4.trans e5, ex_g e5 hr4, hrl, r0, hb⟩ ?_
        rintro n σ2 H2 ⟨rows', rest', rfl, rfl, ex2, hp2, hrl', r0', hb'⟩
        refine ⟨_, by walk_at "et", fun hb2 H8 e8 => ?_, fun hb2 H8 e8 => ?_⟩
        · have hb3 := Bool.and_eq_true_iff.mp hb2
          have hpos : 0 < rest' := of_decide_eq_true hb3.1
          have hlm : ((rows'.map V.int).length : Int) < m := of_decide_eq_true hb3.2
          rw [List.length_map] at hlm
          refine ⟨fun σ3 H3 => ∃ n', n' < rest'.toNat ∧ ∃ (rows' : List Int) (rest' : Int), σ3 = [some (.ref a), some (.int (m : Int)), some (.ref p), some (.int mix'), some (.int c), some (.int rest')] ∧ n' = rest'.toNat ∧ Ex H H3 ∧ H3 p = some (.lst (rows'.map V.int)) ∧ rows'.length ≤ m + i ∧ 0 ≤ rest' ∧ ∀ x ∈ rows', -(10 ^ 18) < x ∧ x < 10 ^ 18, fun _ _ h => h, ?_⟩
          refine q_app (ex_g e8 hp2) (by walk_at "ev") (by walk_at "ev") (by rw [List.length_map]; omega) fun H9 e9 => ?_
          refine s_asg (by walk_at "ev") fun H10 e10 => ?_
          have d0 := Int.emod_nonneg rest' (show (1000003 : Int) ≠ 0 by decide)
          have d1 := Int.emod_lt_of_pos rest' (show (0 : Int) < 1000003 by decide)
          refine ⟨(rest' / 1000003).toNat, by omega, rows' ++ [rest' % 1000003], rest' / 1000003, rfl, rfl, (ex_up ((ex2.trans e8).trans e9) hp).trans e10, e10 p _ (by rw [upd_same, List.map_append]; rfl), ?_, by omega, Rows.add hb' (by omega) (by omega)⟩
          rw [List.length_append]
          show rows'.length + 1 ≤ _
          omega
        · exact ⟨rows', mix', _, _, rfl, ex2.trans e8, e8 p _ hp2, by omega, m0', m1', hb'⟩
    · rintro σ' H' ⟨rows, mix, y4, y5, rfl, ex, hr', hrl, m0, m1, hb⟩
      rw [List.length_map] at hrl
      refine q_while (fun n σ2 H2 => ∃ (rows : List Int) (mix : Int), σ2 = [some (.ref a), some (.int (m : Int)), some (.ref p), some (.int mix), y4, y5] ∧ n = m - rows.length ∧ Ex H H2 ∧ H2 p = some (.lst (rows.map V.int)) ∧ rows.length ≤ m + 63 ∧ 0 ≤ mix ∧ mix < 2147483647 ∧ ∀ x ∈ rows, -(10 ^ 18) < x ∧ x < 10 ^ 18)
        (m - rows.length) ⟨rows, mix, rfl, rfl, ex, hr', by omega, m0, m1, hb⟩ ?_
      rintro n σ2 H2 ⟨rows, mix, rfl, rfl, ex, hr', hrl, m0, m1, hb⟩
      refine ⟨_, by walk_at "et", fun hb2 H8 e8 => ?_, fun hb2 H8 e8 => ?_⟩
      · have hlm : ((rows.map V.int).length : Int) < m := of_decide_eq_true hb2
        rw [List.length_map] at hlm
        refine ⟨fun σ3 H3 => ∃ n', n' < m - rows.length ∧ ∃ (rows : List Int) (mix : Int), σ3 = [some (.ref a), some (.int (m : Int)), some (.ref p), some (.int mix), y4, y5] ∧ n' = m - rows.length ∧ Ex H H3 ∧ H3 p = some (.lst (rows.map V.int)) ∧ rows.length ≤ m + 63 ∧ 0 ≤ mix ∧ mix < 2147483647 ∧ ∀ x ∈ rows, -(10 ^ 18) < x ∧ x < 10 ^ 18, fun _ _ h => h, ?_⟩
        refine q_asg (by walk_at "ev") fun H9 e9 => ?_
        have m0' := Int.emod_nonneg (mix * 48271 + 11) (show (2147483647 : Int) ≠ 0 by decide)
        have m1' := Int.emod_lt_of_pos (mix * 48271 + 11) (show (0 : Int) < 2147483647 by decide)
        generalize (mix * 48271 + 11) % 2147483647 = mix' at m0' m1' ⊢
        refine s_app (ex_g e9 (ex_g e8 hr')) (by walk_at "ev") (by walk_at "ev") (by rw [List.length_map]; omega) fun H10 e10 => ?_
        have d0 := Int.emod_nonneg (mix' * mix') (show (999983 : Int) ≠ 0 by decide)
        have d1 := Int.emod_lt_of_pos (mix' * mix') (show (0 : Int) < 999983 by decide)
        refine ⟨m - (rows.length + 1), by omega, rows ++ [mix' * mix' % 999983], mix', rfl, by rw [List.length_append]; rfl, ex_up (((ex.trans e8).trans e9).trans e10) hp, by rw [upd_same, List.map_append]; rfl, ?_, m0', m1', Rows.add hb (by omega) (by omega)⟩
        rw [List.length_append]
        show rows.length + 1 ≤ _
        omega
      · refine s_ret (by walk_at "ev") fun H9 e9 => ?_
        have hlm : ¬ ((rows.map V.int).length : Int) < m := of_decide_eq_false hb2
        rw [List.length_map] at hlm
        exact q rows H9 p hp ((ex.trans e8).trans e9) (e9 p _ (e8 p _ hr')) ⟨by omega, hrl, hb⟩
end

end Su
namespace Su
/-! ### comprehensions over enumerate and zip -/
def dropAt (H : Hp) (D : Addr) : Hp := fun b => if b = D then none else H b
theorem drop_ex {H : Hp} {D : Addr} : Ex (dropAt H D) H := fun a o e => by
  unfold dropAt at e
  split at e
  · cases e
  · exact e
theorem drop_self {H : Hp} {D : Addr} : dropAt H D D = none := by unfold dropAt; rw [if_pos rfl]
theorem drop_of {H : Hp} {D T : Addr} {o : HO} (e : H T = some o) (n : T ≠ D) : dropAt H D T = some o := by unfold dropAt; rw [if_neg n]; exact e
theorem ex_drop {H H1 : Hp} {D : Addr} (e : Ex H1 H) (n : H1 D = none) : Ex H1 (dropAt H D) := fun a o h => drop_of (e a o h) fun z => by rw [z, n] at h; cases h
theorem cw_turn2 {H H' Hb : Hp} {t : TT} {te : TE} {f : Nat → Bool} {v : Nat → V} {Dl : Addr} {i : Nat} {σ2 : L2.St} (p : Cw H f v Dl i H') (hi : i < 50000) (hb : Ex Hb H') (ht : EvT t σ2 Hb (f i)) (he : f i = true → Ev te σ2 Hb (v i)) :
    t σ2 H' fun b H3 => if b = true then te σ2 H3 fun y H4 => ∃ acc, H4 Dl = some (.lst acc) ∧ acc.length < sizeLine ∧ Cw H f v Dl (i + 1) (upd H4 Dl (.lst (acc ++ [y]))) else Cw H f v Dl (i + 1) H3 := by
  obtain ⟨p1, p2, p3⟩ := p
  refine ht H' hb _ fun H3 e3 => ?_
  cases hf : f i with
  | true =>
    show te σ2 H3 fun y H4 => ∃ acc, H4 Dl = some (.lst acc) ∧ acc.length < sizeLine ∧ Cw H f v Dl (i + 1) (upd H4 Dl (.lst (acc ++ [y])))
    refine he hf H3 (hb.trans e3) _ fun H4 e4 => ⟨given i f v, e4 Dl _ (e3 Dl _ p3), sz_lt (by have := given_len i f v; omega), p1, Ex.mut ((p2.trans e3).trans e4) p1, ?_⟩
    rw [given_yes hf]
    exact upd_same
  | false =>
    show Cw H f v Dl (i + 1) H3
    refine ⟨p1, p2.trans e3, ?_⟩
    rw [given_no hf]
    exact e3 Dl _ p3
theorem cw_ex {H H1 H2 : Hp} {f : Nat → Bool} {v : Nat → V} {Dl : Addr} {i : Nat} (p : Cw H f v Dl i H1) (e : Ex H1 H2) : Cw H f v Dl i H2 := ⟨p.1, p.2.1.trans e, e Dl _ p.2.2⟩
/-- what a target does with a value: from the slots s to s2 -/
def Tgt (g : TG) (x : V) (σ σ2 : L2.St) (H : Hp) : Prop := ∀ H2, Ex H H2 → ∀ Q : L2.St → Hp → Prop, Q σ2 H2 → g x σ H2 Q
theorem tg_name {i : Nat} {x : V} {σ : L2.St} {H : Hp} : Tgt (gName i) x σ (σ.set i (some x)) H := fun _ _ _ q => q
theorem tg_two {K : PySem.W.Frag} {g1 g2 : TG} {T : Addr} {x y : V} {σ σ1 σ2 : L2.St} {H : Hp} (h : SqT K H T [x, y]) (h1 : Tgt g1 x σ σ1 H) (h2 : Tgt g2 y σ1 σ2 H) : Tgt (gTup K 2 (gCons g1 (gCons g2 gNil))) (.ref T) σ σ2 H := fun H2 e Q q =>
  ⟨T, [x, y], rfl, ex_t e h, rfl, x, [y], rfl, h1 H2 e _ ⟨y, [], rfl, h2 H2 e _ ⟨rfl, q⟩⟩⟩
theorem tg_three {K : PySem.W.Frag} {g1 g2 g3 : TG} {T : Addr} {x y z : V} {σ σ1 σ2 σ3 : L2.St} {H : Hp} (h : SqT K H T [x, y, z]) (h1 : Tgt g1 x σ σ1 H) (h2 : Tgt g2 y σ1 σ2 H) (h3 : Tgt g3 z σ2 σ3 H) : Tgt (gTup K 3 (gCons g1 (gCons g2 (gCons g3 gNil)))) (.ref T) σ σ3 H := fun H2 e Q q =>
  ⟨T, [x, y, z], rfl, ex_t e h, rfl, x, [y, z], rfl, h1 H2 e _ ⟨y, [z], rfl, h2 H2 e _ ⟨z, [], rfl, h3 H2 e _ ⟨rfl, q⟩⟩⟩⟩
section
variable {K : PySem.W.Frag} {σ : L2.St} {H : Hp} {t : TT} {te : TE} {g : TG} {vs : List Nat} {a b : Addr} {xs ys : List V} {ta : TA}
theorem et_yes {σ : L2.St} {H : Hp} : EvT tYes σ H true := fun H1 _ _ q => q H1 (Ex.refl H1)
theorem el_lcLg {tl : TE} (f : Nat → Bool) (v : Nat → V) (h : Ev tl σ H (.ref a)) (hx : SqL K H a xs) (hz : xs.length ≤ 40000)
    (hs : ∀ (i : Nat) (x : V) Hb, Ex H Hb → xs[i]? = some x → ∃ σ2, Tgt g x (wipe σ vs) σ2 Hb ∧ wipe σ2 vs = wipe σ vs ∧ EvT t σ2 Hb (f i) ∧ (f i = true → Ev te σ2 Hb (v i))) :
    EvL (tLc (iList K tl) g t te vs) σ H (given xs.length f v) := fun H0 e Q q => h H0 e _ fun H1 e1 => ⟨a, rfl, ⟨xs, ex_l (e.trans e1) hx⟩, fun Dl hD =>
  lc_list (xs := xs) (Cw H1 f v Dl) ⟨hD, Ex.new hD, upd_same⟩ (fun i H' _ p => ex_l ((e.trans e1).trans p.2.1) hx) (fun i x H' hi p => by
    obtain ⟨σ2, h1, h2, h3, h4⟩ := hs i x H1 (e.trans e1) hi
    exact h1 H' p.2.1 _ ⟨h2, cw_turn2 p (by have := (List.getElem?_eq_some_iff.mp hi).1; omega) p.2.1 h3 h4⟩)
    (fun H' p => q Dl H' (fresh_back e1 p.1) (e1.trans p.2.1) p.2.2)⟩
theorem el_lcE (f : Nat → Bool) (v : Nat → V) (h : EvA ta σ H [.ref a]) (hx : SqL K H a xs) (hz : xs.length ≤ 40000)
    (hs : ∀ (i : Nat) (x : V) T Hb, Ex H Hb → xs[i]? = some x → Hb T = some (.tup [.int (i : Nat), x]) → ∃ σ2, Tgt g (.ref T) (wipe σ vs) σ2 Hb ∧ wipe σ2 vs = wipe σ vs ∧ EvT t σ2 Hb (f i) ∧ (f i = true → Ev te σ2 Hb (v i))) :
    EvL (tLc (iEnum K ta) g t te vs) σ H (given xs.length f v) := fun H0 e Q q => h H0 e _ fun H1 e1 => ⟨a, xs, rfl, ex_l (e.trans e1) hx, fun Dl hD => by
  refine ⟨fun i m H' => m = xs.length - i ∧ i ≤ xs.length ∧ Cw H1 f v Dl i H', ⟨xs.length, by simp, Nat.zero_le _, hD, Ex.new hD, upd_same⟩, ?_⟩
  rintro i m H' ⟨rfl, hi, p⟩
  have hX := ex_l ((e.trans e1).trans p.2.1) hx
  by_cases hlt : i < xs.length
  · refine .inr ⟨⟨xs, xs[i], hX, List.getElem?_eq_getElem hlt⟩, Cw H1 f v Dl (i + 1), fun H2 p' => ⟨xs.length - (i + 1), by omega, rfl, hlt, p'⟩, fun y H2 hy => ?_⟩
    obtain ⟨T, x, rfl, nT, rfl, hxx⟩ := hy
    have gi := hxx xs hX
    have eT : Ex H' (upd H' T (.tup [.int (i : Nat), x])) := Ex.new nT
    have hTD : T ≠ Dl := fun z => by rw [z, p.2.2] at nT; cases nT
    have p2 := cw_ex p eT
    obtain ⟨σ2, h1, h2, h3, h4⟩ := hs i x T (dropAt (upd H' T (.tup [.int (i : Nat), x])) Dl) (ex_drop (((e.trans e1).trans p.2.1).trans eT) (fresh_back (e.trans e1) p.1)) gi (drop_of upd_same hTD)
    exact h1 _ drop_ex _ ⟨h2, cw_turn2 p2 (by omega) drop_ex h3 h4⟩
  · have ei : i = xs.length := by omega
    subst ei
    exact .inl ⟨⟨xs, hX, Nat.le_refl _⟩, q Dl H' (fresh_back e1 p.1) (e1.trans p.2.1) p.2.2⟩⟩
theorem el_lcZ (f : Nat → Bool) (v : Nat → V) (h : EvA ta σ H [.ref a, .ref b]) (hx : SqL K H a xs) (hy : SqL K H b ys) (hl : xs.length = ys.length) (hz : xs.length ≤ 40000)
    (hs : ∀ (i : Nat) (x y : V) T Hb, Ex H Hb → xs[i]? = some x → ys[i]? = some y → Hb T = some (.tup [x, y]) → ∃ σ2, Tgt g (.ref T) (wipe σ vs) σ2 Hb ∧ wipe σ2 vs = wipe σ vs ∧ EvT t σ2 Hb (f i) ∧ (f i = true → Ev te σ2 Hb (v i))) :
    EvL (tLc (RZ.iZipA K ta) g t te vs) σ H (given xs.length f v) := fun H0 e Q q => h H0 e _ fun H1 e1 => ⟨a, b, xs, ys, rfl, .inl ⟨ex_l (e.trans e1) hx, ex_l (e.trans e1) hy, fun Dl hD => by
  refine ⟨fun i m H' => m = xs.length - i ∧ i ≤ xs.length ∧ Cw H1 f v Dl i H', ⟨xs.length, by simp, Nat.zero_le _, hD, Ex.new hD, upd_same⟩, ?_⟩
  rintro i m H' ⟨rfl, hi, p⟩
  have hX := ex_l ((e.trans e1).trans p.2.1) hx
  have hY := ex_l ((e.trans e1).trans p.2.1) hy
  by_cases hlt : i < xs.length
  · have hlt2 : i < ys.length := by omega
    refine .inr ⟨⟨xs, ys, xs[i], ys[i], hX, hY, List.getElem?_eq_getElem hlt, List.getElem?_eq_getElem hlt2⟩, Cw H1 f v Dl (i + 1), fun H2 p' => ⟨xs.length - (i + 1), by omega, rfl, hlt, p'⟩, fun z H2 hzz => ?_⟩
    obtain ⟨T, x, y, rfl, nT, rfl, hxx, hyy⟩ := hzz
    have eT : Ex H' (upd H' T (.tup [x, y])) := Ex.new nT
    have hTD : T ≠ Dl := fun z => by rw [z, p.2.2] at nT; cases nT
    have p2 := cw_ex p eT
    obtain ⟨σ2, h1, h2, h3, h4⟩ := hs i x y T (dropAt (upd H' T (.tup [x, y])) Dl) (ex_drop (((e.trans e1).trans p.2.1).trans eT) (fresh_back (e.trans e1) p.1)) (hxx xs hX) (hyy ys hY) (drop_of upd_same hTD)
    exact h1 _ drop_ex _ ⟨h2, cw_turn2 p2 (by omega) drop_ex h3 h4⟩
  · have ei : i = xs.length := by omega
    subst ei
    exact .inl ⟨⟨xs, ys, hX, hY, .inl (Nat.le_refl _)⟩, q Dl H' (fresh_back e1 p.1) (e1.trans p.2.1) p.2.2⟩⟩⟩
theorem el_lcZT (f : Nat → Bool) (v : Nat → V) (h : EvA ta σ H [.ref a, .ref b]) (hx : SqT K H a xs) (hy : SqT K H b ys) (hl : xs.length = ys.length) (hz : xs.length ≤ 40000)
    (hs : ∀ (i : Nat) (x y : V) T Hb, Ex H Hb → xs[i]? = some x → ys[i]? = some y → Hb T = some (.tup [x, y]) → ∃ σ2, Tgt g (.ref T) (wipe σ vs) σ2 Hb ∧ wipe σ2 vs = wipe σ vs ∧ EvT t σ2 Hb (f i) ∧ (f i = true → Ev te σ2 Hb (v i))) :
    EvL (tLc (RZ.iZipA K ta) g t te vs) σ H (given xs.length f v) := fun H0 e Q q => h H0 e _ fun H1 e1 => ⟨a, b, xs, ys, rfl, .inr ⟨ex_t (e.trans e1) hx, ex_t (e.trans e1) hy, fun Dl hD => by
  refine ⟨fun i m H' => m = xs.length - i ∧ i ≤ xs.length ∧ Cw H1 f v Dl i H', ⟨xs.length, by simp, Nat.zero_le _, hD, Ex.new hD, upd_same⟩, ?_⟩
  rintro i m H' ⟨rfl, hi, p⟩
  have hX := ex_t ((e.trans e1).trans p.2.1) hx
  have hY := ex_t ((e.trans e1).trans p.2.1) hy
  by_cases hlt : i < xs.length
  · have hlt2 : i < ys.length := by omega
    refine .inr ⟨⟨xs, ys, xs[i], ys[i], hX, hY, List.getElem?_eq_getElem hlt, List.getElem?_eq_getElem hlt2⟩, Cw H1 f v Dl (i + 1), fun H2 p' => ⟨xs.length - (i + 1), by omega, rfl, hlt, p'⟩, fun z H2 hzz => ?_⟩
    obtain ⟨T, x, y, rfl, nT, rfl, hxx, hyy⟩ := hzz
    have eT : Ex H' (upd H' T (.tup [x, y])) := Ex.new nT
    have hTD : T ≠ Dl := fun z => by rw [z, p.2.2] at nT; cases nT
    have p2 := cw_ex p eT
    obtain ⟨σ2, h1, h2, h3, h4⟩ := hs i x y T (dropAt (upd H' T (.tup [x, y])) Dl) (ex_drop (((e.trans e1).trans p.2.1).trans eT) (fresh_back (e.trans e1) p.1)) (hxx xs hX) (hyy ys hY) (drop_of upd_same hTD)
    exact h1 _ drop_ex _ ⟨h2, cw_turn2 p2 (by omega) drop_ex h3 h4⟩
  · have ei : i = xs.length := by omega
    subst ei
    exact .inl ⟨⟨xs, ys, hX, hY, .inl (Nat.le_refl _)⟩, q Dl H' (fresh_back e1 p.1) (e1.trans p.2.1) p.2.2⟩⟩⟩
end

end Su
namespace Su
/-! ### data as a whole: _law_same of two alike -/
mutual
theorem dp_ex {K : PySem.W.Frag} {H H' : Hp} (e : Ex H H') : ∀ {x : V} {d : PyData}, Dp K H x d → Dp K H' x d
  | _, _, .non => .non
  | _, _, .bl b => .bl b
  | _, _, .int i => .int i
  | _, _, .str x => .str x
  | _, _, .lst h1 h2 => .lst (ex_l e h1) (dpa_ex e h2)
  | _, _, .tup h1 h2 => .tup (ex_t e h1) (dpa_ex e h2)
theorem dpa_ex {K : PySem.W.Frag} {H H' : Hp} (e : Ex H H') : ∀ {xs : List V} {ds : List PyData}, DpAll K H xs ds → DpAll K H' xs ds
  | _, _, .nil => .nil
  | _, _, .cons h1 h2 => .cons (dp_ex e h1) (dpa_ex e h2)
end
theorem dpa_len {K : PySem.W.Frag} {H : Hp} : ∀ {xs : List V} {ds : List PyData}, DpAll K H xs ds → xs.length = ds.length
  | _, _, .nil => rfl
  | _, _, .cons _ h2 => by rw [List.length_cons, List.length_cons, dpa_len h2]
theorem dpa_get {K : PySem.W.Frag} {H : Hp} : ∀ {xs : List V} {ds : List PyData} {i : Nat} {x : V}, DpAll K H xs ds → xs[i]? = some x → ∃ d, ds[i]? = some d ∧ Dp K H x d
  | _, _, _, _, .nil, e => by simp at e
  | _, _, 0, _, .cons h _, e => by simp at e; subst e; exact ⟨_, rfl, h⟩
  | _, _, i + 1, x, .cons _ h2, e => by
    obtain ⟨d, h1, h3⟩ := dpa_get (i := i) (x := x) h2 (by simpa using e)
    exact ⟨d, by simpa using h1, h3⟩
theorem dpa_of {K : PySem.W.Frag} {H : Hp} {α : Type} (f : α → V) (g : α → PyData) : ∀ l : List α, (∀ a ∈ l, Dp K H (f a) (g a)) → DpAll K H (l.map f) (l.map g)
  | [], _ => .nil
  | a :: r, h => .cons (h a List.mem_cons_self) (dpa_of f g r fun b hb => h b (List.mem_cons_of_mem _ hb))
def tyN : PyData → String
  | .none => "NoneType" | .bool _ => "bool" | .int _ => "int" | .str _ => "str" | .list _ => "list" | .tuple _ => "tuple" | .dict _ => "dict"
theorem ty_dp {K : PySem.W.Frag} {H : Hp} {x : V} {d : PyData} (h : Dp K H x d) : TyX K H x (.type (tyN d)) := by
  cases h with
  | non => exact .base .non
  | bl b => exact .base (.bl b)
  | int i => exact .base (.int i)
  | str s => exact .base (.str s)
  | lst h1 _ =>
    rcases h1 with (h1 | ⟨o, h1⟩) | ⟨o, its, n, h1, h2, _⟩
    · exact .base (.lst h1)
    · exact .base (.frz h1)
    · exact .kList h1 h2
  | tup h1 _ =>
    rcases h1 with (h1 | ⟨o, h1⟩) | ⟨o, its, n, h1, h2, _⟩
    · exact .base (.tup h1)
    · exact .fTuple h1
    · exact .kTuple h1 h2
theorem rc_isi_dp {K : PySem.W.Frag} {H : Hp} {x : V} {d : PyData} {n : String} {b : Bool} (h : Dp K H x d) (hk : kitB (tyN d) n = some b) : RC (rIsi K) [x, .ty n] H (.bl b) :=
  fun H1 e _ q => ⟨x, .ty n, .type (tyN d), .type n, b, rfl, .ty n, ty_dp (dp_ex e h), kit_ty hk, q H1 (Ex.refl H1)⟩
theorem kit_tab {t m : String} (ht : t = "NoneType" ∨ t = "bool" ∨ t = "int" ∨ t = "str" ∨ t = "list" ∨ t = "tuple") (hm : m = "bool" ∨ m = "int" ∨ m = "list" ∨ m = "tuple" ∨ m = "str") : ∃ b, kitB t m = some b := by
  rcases ht with rfl | rfl | rfl | rfl | rfl | rfl <;> rcases hm with rfl | rfl | rfl | rfl | rfl <;> first | exact ⟨true, by decide +kernel⟩ | exact ⟨false, by decide +kernel⟩
/-- data of ints, texts, None, bools, lists and tuples, n deep -/
inductive PlD : Nat → PyData → Prop
  | non {n : Nat} : PlD n .none
  | bool {n : Nat} (b : Bool) : PlD n (.bool b)
  | int {n : Nat} (i : Int) : PlD n (.int i)
  | str {n : Nat} (x : Str) : PlD n (.str x)
  | list {n : Nat} {xs : List PyData} : xs.length ≤ 1000 → (∀ x ∈ xs, PlD n x) → PlD (n + 1) (.list xs)
  | tuple {n : Nat} {xs : List PyData} : xs.length ≤ 1000 → (∀ x ∈ xs, PlD n x) → PlD (n + 1) (.tuple xs)
theorem PlD.ty {n : Nat} {d : PyData} (h : PlD n d) : tyN d = "NoneType" ∨ tyN d = "bool" ∨ tyN d = "int" ∨ tyN d = "str" ∨ tyN d = "list" ∨ tyN d = "tuple" := by
  cases h <;> simp [tyN]
theorem given_all {n : Nat} {v : V} : given n (fun _ => true) (fun _ => v) = List.replicate n v := by
  induction n with
  | zero => rfl
  | succ n ih => rw [given_yes rfl, ih, List.replicate_succ']
theorem all_rep (n : Nat) : (List.replicate n true).all id = true := by
  induction n with
  | zero => rfl
  | succ n ih => rw [List.replicate_succ, List.all_cons, ih]; rfl
section
variable {P : Program} {w : World} {K : PySem.W.Frag} {mg : Str → Option Value} {base : Heap}
theorem ev_isi {σ : L2.St} {H : Hp} {ta tb : TE} {x : V} {d : PyData} {n : String} {b : Bool} (ha : Ev ta σ H x) (hb : Ev tb σ H (.ty n)) (h : Dp K H x d) (hk : kitB (tyN d) n = some b) : Ev (tCB (rIsi K) (tCons ta (tCons tb tNil))) σ H (.bl b) := ev_cb (ea_cons ha (ea_cons hb ea_nil)) (rc_isi_dp h hk)
theorem ev_allT {σ : L2.St} {H : Hp} {te : TE} {n : Nat} (h : EvL te σ H (List.replicate n (V.bl true))) : Ev (tCB (rAll K) (tCons te tNil)) σ H (.bl true) := fun H1 e Q q =>
  h H1 e _ fun p H2 _ e2 h2 => ⟨p, List.replicate n true, rfl, sq_of (by rw [List.map_replicate]; exact h2), by rw [all_rep]; exact q H2 e2⟩
theorem rv_sc {H : Hp} {x : V} (h : scal x x = true) : RV rEq x x H (.bl true) := fun H1 e Q q => ⟨h, by rw [decide_eq_true rfl]; exact q H1 (Ex.refl H1)⟩
theorem rv_neb {H : Hp} {b : Bool} : RV rNe (.bl b) (.bl b) H (.bl false) := fun H1 e Q q => ⟨by cases b <;> rfl, by rw [decide_eq_true rfl]; exact q H1 (Ex.refl H1)⟩
end

end Su
namespace Su
/-! ### own exceptions: X(), except .. as e, isinstance(e, ..) -/
section
variable {X : Cx} {C : Addr} {bmB : List Value} {B newId initId : String}
theorem pmk_own0 {x : Str} {p pos : Pos} (F : ExcBaseFacts B newId initId bmB) (q : PySem.W.excIn X.K C bmB newId = true) (gC : X.mg x = some (.ref C)) (kC : PySem.W.keepIn X.K (.ref C) = true) (r : Raises X (.ref C)) (hg : Gl X x)
    (hdb : (x == ("__debug__" : Str)) = false := by decide) : PMk X (.Call (.Name x p) [] [] pos) (fun _ H Q => Q (.ref C) none H) := by
  intro pins s σ H Q I h
  refine wpAny_Call_Name_kw (ld_glob I hg gC ?_ hdb)
  refine PySem.W.callWith_K0 I.kIn kC ?_
  obtain ⟨bm, N, nm, qn, bs, hdct, sn, sub, ab, col, dd, k0, k1, k2, k3, k5, mN, hC, hN, hni, T⟩ := exc_obj I.kIn q
  refine wpAny_call_exc_subT F T hC hN hni (fun h' e hm => ?_) (Nat.zero_le _)
  exact mk_of I hm r h (I.hok.gone hm.new)
theorem pss_ex {ι : Type} {Pi : ι → Prop} {st : List Stmt} {t : ι → TS} (h : ∀ i, Pi i → PSs X st (t i)) : PSs X st (fun D σ H => ∃ i, Pi i ∧ t i D σ H) := ⟨fun pins s σ H D I ⟨i, hp, ht⟩ => (h i hp).run pins s σ H D I ht⟩
end
theorem rc_isE {K : PySem.W.Frag} {D a C : Addr} {H : Hp} {b : Bool} (h : PySem.W.kitOne K (.ref D) (.ref C) = some b) : RC (rIsE K D a) [.ref a, .ref C] H (.bl b) := fun H1 _ _ q => ⟨.ref C, .ref C, b, rfl, fun _ r => r, h, q H1 (Ex.refl H1)⟩
theorem rc_isEt {K : PySem.W.Frag} {D a : Addr} {n : String} {H : Hp} {b : Bool} (h : PySem.W.kitOne K (.ref D) (.type n) = some b) : RC (rIsE K D a) [.ref a, .ty n] H (.bl b) := fun H1 _ _ q => ⟨.ty n, .type n, b, rfl, fun _ r => r, h, q H1 (Ex.refl H1)⟩
def boolD (bs : List Bool) : PyData := .list (bs.map .bool)
theorem dp_bools {K : PySem.W.Frag} {H : Hp} {l : Addr} {bs : List Bool} (hl : SqL K H l (bs.map V.bl)) : Dp K H (.ref l) (boolD bs) := .lst hl (dpa_of V.bl PyData.bool bs fun i _ => .bl i)
theorem rv_eqDD {K : PySem.W.Frag} {H : Hp} {x y : V} {d e : PyData} {b : Bool} (h1 : Dp K H x d) (h2 : Dp K H y e) (hs : SeqAt.shaped d = true) (hs2 : SeqAt.shaped e = true) (hb : PyData.eqv d e = b) : RV (rEqD K) x y H (.bl b) := fun H1 ex Q q =>
  ⟨d, e, dp_ex ex h1, dp_ex ex h2, hs, hs2, by rw [hb]; exact q H1 (Ex.refl H1)⟩
theorem rv_neDD {K : PySem.W.Frag} {H : Hp} {x y : V} {d e : PyData} {b : Bool} (h1 : Dp K H x d) (h2 : Dp K H y e) (hs : SeqAt.shaped d = true) (hs2 : SeqAt.shaped e = true) (hb : PyData.eqv d e = !b) : RV (rNeD K) x y H (.bl b) := fun H1 ex Q q =>
  ⟨d, e, dp_ex ex h1, dp_ex ex h2, hs, hs2, by rw [hb, Bool.not_not]; exact q H1 (Ex.refl H1)⟩

end Su
namespace Su
/-! ### for i, x in enumerate(xs) -/
theorem s_forE {K : PySem.W.Frag} {a : Addr} {xs : List V} {g : TG} {tb : TS} {D : Ends} {σ : L2.St} {H : Hp} {ta : TA} (h : EvA ta σ H [.ref a]) (hx : SqL K H a xs) (Pv : Nat → L2.St → Hp → Prop) (h0 : ∀ H1, Ex H H1 → Pv 0 σ H1) (hl : ∀ i σ' H', i ≤ xs.length → Pv i σ' H' → SqL K H' a xs)
    (hs : ∀ i x T σ' Hc, xs[i]? = some x → Pv i σ' Hc → Hc T = none → ∃ σ2, Tgt g (.ref T) σ' σ2 (upd Hc T (.tup [.int (i : Nat), x])) ∧ tb { D with nx := Pv (i + 1), ct := Pv (i + 1), bk := D.nx } σ2 (upd Hc T (.tup [.int (i : Nat), x])))
    (hd : ∀ σ' H', Pv xs.length σ' H' → D.nx σ' H') : tFor (iEnum K ta) g tb D σ H :=
  h H (Ex.refl H) _ fun H1 e1 => ⟨a, xs, rfl, ex_l e1 hx, by
    refine ⟨fun i m σ' H' => m = xs.length - i ∧ i ≤ xs.length ∧ Pv i σ' H', ⟨xs.length, by simp, Nat.zero_le _, h0 H1 e1⟩, ?_⟩
    rintro i m σ' H' ⟨rfl, hi, p⟩
    have hX := hl i σ' H' hi p
    by_cases hlt : i < xs.length
    · refine .inr ⟨⟨xs, xs[i], hX, List.getElem?_eq_getElem hlt⟩, Pv (i + 1), fun σ2 H2 p' => ⟨xs.length - (i + 1), by omega, rfl, hlt, p'⟩, fun y H2 hy => ?_⟩
      obtain ⟨T, x, rfl, nT, rfl, hxx⟩ := hy
      obtain ⟨σ2, h1, h2⟩ := hs i x T σ' H' (hxx xs hX) p nT
      exact h1 _ (Ex.refl _) _ h2
    · have ei : i = xs.length := by omega
      subst ei
      exact .inl ⟨⟨xs, hX, Nat.le_refl _⟩, hd σ' H' p⟩⟩

end Su
namespace Su
/-! ### o[i] += e of a list; [e] * n -/
section
variable {X : Cx}
def rGetL (K : PySem.W.Frag) : V → V → Hp → VK → Prop := fun x y H Q => ∃ p xs i v, x = .ref p ∧ y = .int i ∧ 0 ≤ i ∧ SqL K H p xs ∧ atI xs i = some v ∧ Q v H
theorem get_list : PGet X (rGetL X.K) := by
  intro pins s σ H x y v u Q I rx ry h
  obtain ⟨p, xs, i, z, rfl, rfl, h0, hq, he, q⟩ := h
  cases rx
  obtain ⟨t, rfl⟩ := ry
  obtain ⟨its, r, pl, hz⟩ := I.list hq
  obtain ⟨j, h1, h2, h3, h4, h5⟩ := atI_get he
  obtain ⟨w, ew, rw'⟩ := r.get h2
  have hl := r.length
  have hn := line63
  have hj : i.toNat = j := by
    rw [seqIndex_of h0 h5] at h1
    exact Option.some.inj h1
  exact wpAny_getItem_list pl.isList h0 (by omega) (by rw [hj]; simpa using ew) ⟨z, H, I, rw', q⟩
end
theorem q_augL {to ti te : TE} {K : PySem.W.Frag} {σ : L2.St} {H : Hp} {D : Ends} {tz : TS} {l : Addr} {xs : List V} {z a b : Int} {j : Nat} {f : Int → Int → Int} (hl : H l = some (.lst xs)) (ho : Ev to σ H (.ref l)) (hi : Ev ti σ H (.int z)) (hz : z = (j : Int)) (hx : xs[j]? = some (.int a)) (h : Ev te σ H (.int b))
    (k : ∀ H1, Ex H H1 → tz D σ (upd H1 l (.lst (xs.set j (.int (f a b)))))) : tSeq (tAugS to ti te (rGetL K) (ipI f) rSetL) tz D σ H := by
  have hj : j < xs.length := (List.getElem?_eq_some_iff.mp hx).1
  refine ho H (Ex.refl H) _ fun H1 e1 => hi H1 e1 _ fun H2 e2 => ?_
  refine ⟨l, xs, z, .int a, rfl, rfl, by omega, sq_of (e2 l _ (e1 l _ hl)), at_of hz hx, h H2 (e1.trans e2) _ fun H3 e3 => ?_⟩
  refine ⟨a, b, rfl, rfl, l, xs, z, j, rfl, rfl, e3 l _ (e2 l _ (e1 l _ hl)), ?_, k H3 ((e1.trans e2).trans e3)⟩
  rw [hz]
  exact ixN_nat hj
theorem st_lastAugL {to ti te : TE} {K : PySem.W.Frag} {σ : L2.St} {H : Hp} {D : Ends} {l : Addr} {xs : List V} {z a b : Int} {j : Nat} {f : Int → Int → Int} (hl : H l = some (.lst xs)) (ho : Ev to σ H (.ref l)) (hi : Ev ti σ H (.int z)) (hz : z = (j : Int)) (hx : xs[j]? = some (.int a)) (h : Ev te σ H (.int b))
    (k : ∀ H1, Ex H H1 → D.nx σ (upd H1 l (.lst (xs.set j (.int (f a b)))))) : tAugS to ti te (rGetL K) (ipI f) rSetL D σ H := q_augL (D := D) (tz := fun D' σ' H' => D'.nx σ' H') hl ho hi hz hx h k
theorem flat1 {v : V} : ∀ n : Nat, (List.replicate n [v]).flatten = List.replicate n v
  | 0 => rfl
  | n + 1 => by rw [List.replicate_succ, List.replicate_succ, List.flatten_cons, flat1 n]; rfl
theorem el_rep1 {ta tb : TE} {σ : L2.St} {H : Hp} {v : V} {k : Int} (ha : EvL ta σ H [v]) (hb : Ev tb σ H (.int k)) (h0 : 0 ≤ k) (h1 : k ≤ 100000) : EvL (tOp rRep ta tb) σ H (List.replicate k.toNat v) := fun H1 e Q q =>
  ha H1 e _ fun p H2 hp e2 h2 => hb H2 (e.trans e2) _ fun H3 e3 => ⟨p, k, [v], rfl, rfl, e3 p _ h2, by omega, by omega, sz_of (by show 1 * k.toNat ≤ _; omega), fun r hr => by
    rw [flat1]
    exact q r _ (fresh_back (e2.trans e3) hr) ((e2.trans e3).trans (Ex.new hr)) upd_same⟩

end Su
namespace Su
theorem lay_of_shaped {d : PyData} (h : SeqAt.shaped d = true) : d.canLay0 = true := (Bool.and_eq_true_iff.mp h).1
/-- two lists of windows that are alike -/
theorem rv_neD {K : PySem.W.Frag} {H : Hp} {x y : V} {d : PyData} (h1 : Dp K H x d) (h2 : Dp K H y d) (hs : SeqAt.shaped d = true) : RV (rNeD K) x y H (.bl false) := fun H1 e Q q =>
  ⟨d, d, dp_ex e h1, dp_ex e h2, hs, hs, by rw [SeqAt.eqv_refl d (lay_of_shaped hs)]; exact q H1 (Ex.refl H1)⟩
theorem rv_eqD {K : PySem.W.Frag} {H : Hp} {x y : V} {d : PyData} (h1 : Dp K H x d) (h2 : Dp K H y d) (hs : SeqAt.shaped d = true) : RV (rEqD K) x y H (.bl true) := fun H1 e Q q =>
  ⟨d, d, dp_ex e h1, dp_ex e h2, hs, hs, by rw [SeqAt.eqv_refl d (lay_of_shaped hs)]; exact q H1 (Ex.refl H1)⟩
def intD (ns : List Int) : PyData := .list (ns.map .int)
theorem dp_ints {K : PySem.W.Frag} {H : Hp} {l : Addr} {ns : List Int} (hl : SqL K H l (ns.map V.int)) : Dp K H (.ref l) (intD ns) := .lst hl (dpa_of V.int PyData.int ns fun i _ => .int i)
theorem pl_ints {ns : List Int} (h : ns.length ≤ 1000) : PlD 1 (intD ns) := .list (by rw [List.length_map]; exact h) fun x hx => by
  obtain ⟨i, _, rfl⟩ := List.mem_map.mp hx
  exact .int i
theorem shaped_ints (ns : List Int) : SeqAt.shaped (intD ns) = true := by
  have h1 : ∀ l : List Int, PyData.canLayAll0 (l.map .int) = true := by
    intro l
    induction l with
    | nil => simp [PyData.canLayAll0]
    | cons a r ih => simp [PyData.canLayAll0, PyData.canLay0, ih]
  have h2 : ∀ l : List Int, PyData.depthAll (l.map .int) = 0 := by
    intro l
    induction l with
    | nil => simp [PyData.depthAll]
    | cons a r ih => simp [PyData.depthAll, PyData.depth, ih]
  unfold SeqAt.shaped intD
  rw [Bool.and_eq_true]
  refine ⟨?_, ?_⟩
  · simp only [PyData.canLay0]
    exact h1 ns
  · simp only [PyData.depth]
    have := h2 ns
    exact decide_eq_true (by omega)

end Su
namespace Su
/-! ### windows: a list of pairs -/
abbrev Win := Addr × Int × Int
def refs (qs : List Win) : List V := qs.map fun q => V.ref q.1
def TW (H : Hp) (qs : List Win) : Prop := ∀ q ∈ qs, H q.1 = some (.tup [.int q.2.1, .int q.2.2])
theorem TW.ex {H H' : Hp} {qs : List Win} (h : TW H qs) (e : Ex H H') : TW H' qs := fun q hq => e _ _ (h q hq)
theorem TW.upd {H : Hp} {qs : List Win} {p : Addr} {xs ys : List V} (h : TW H qs) (hp : H p = some (.lst xs)) : TW (upd H p (.lst ys)) qs := fun q hq => by
  rw [upd_ne (ne_of (h q hq) hp (fun z => nomatch z))]
  exact h q hq
theorem TW.nil {H : Hp} : TW H [] := fun q hq => absurd hq List.not_mem_nil
theorem TW.add {H : Hp} {qs : List Win} {q : Win} (h : TW H qs) (hq : H q.1 = some (.tup [.int q.2.1, .int q.2.2])) : TW H (qs ++ [q]) := fun r hr => by
  rcases List.mem_append.mp hr with h' | h'
  · exact h r h'
  · obtain rfl := List.mem_singleton.mp h'
    exact hq
theorem refs_at {qs : List Win} {i : Nat} {x : V} (h : (refs qs)[i]? = some x) : ∃ q, qs[i]? = some q ∧ x = .ref q.1 := by
  unfold refs at h
  rw [List.getElem?_map] at h
  cases hc : qs[i]? with
  | none => rw [hc] at h; cases h
  | some c => rw [hc] at h; exact ⟨c, rfl, (Option.some.inj h).symm⟩
theorem refs_len {qs : List Win} : (refs qs).length = qs.length := List.length_map _
/-- windows[i][0], windows[i][1] -/
theorem ev_win {K : PySem.W.Frag} {ta tb : TE} {σ : L2.St} {H : Hp} {l : Addr} {qs : List Win} {i : Nat} {q : Win} (ha : Ev ta σ H (.ref l)) (hb : Ev tb σ H (.int (i : Nat))) (hl : SqL K H l (refs qs)) (hq : qs[i]? = some q) : Ev (tOp (rIxL K) ta tb) σ H (.ref q.1) :=
  ev_op ha hb (rv_ixL hl (atI_nat (by unfold refs; rw [List.getElem?_map, hq]; rfl)))
theorem ev_w0 {K : PySem.W.Frag} {ta : TE} {σ : L2.St} {H : Hp} {q : Win} (ha : Ev ta σ H (.ref q.1)) (hq : H q.1 = some (.tup [.int q.2.1, .int q.2.2])) : Ev (tOp (rIxT K) ta (tC (.int 0))) σ H (.int q.2.1) := ev_op ha ev_c (rv_ixT (st_of hq) rfl)
theorem ev_w1 {K : PySem.W.Frag} {ta : TE} {σ : L2.St} {H : Hp} {q : Win} (ha : Ev ta σ H (.ref q.1)) (hq : H q.1 = some (.tup [.int q.2.1, .int q.2.2])) : Ev (tOp (rIxT K) ta (tC (.int 1))) σ H (.int q.2.2) := ev_op ha ev_c (rv_ixT (st_of hq) rfl)
def winD (qs : List Win) : PyData := .list (qs.map fun q => .tuple [.int q.2.1, .int q.2.2])
theorem dp_win {K : PySem.W.Frag} {H : Hp} {l : Addr} {qs : List Win} (hl : SqL K H l (refs qs)) (ht : TW H qs) : Dp K H (.ref l) (winD qs) :=
  .lst hl (dpa_of (fun q : Win => V.ref q.1) (fun q => .tuple [.int q.2.1, .int q.2.2]) qs fun q hq => .tup (st_of (ht q hq)) (.cons (.int _) (.cons (.int _) .nil)))
theorem shaped_win (qs : List Win) : SeqAt.shaped (winD qs) = true := by
  have h1 : ∀ l : List Win, PyData.canLayAll0 (l.map fun q => .tuple [.int q.2.1, .int q.2.2]) = true := by
    intro l
    induction l with
    | nil => simp [PyData.canLayAll0]
    | cons a r ih => simp [PyData.canLayAll0, PyData.canLay0, ih]
  have h2 : ∀ l : List Win, PyData.depthAll (l.map fun q => .tuple [.int q.2.1, .int q.2.2]) ≤ 1 := by
    intro l
    induction l with
    | nil => simp [PyData.depthAll]
    | cons a r ih =>
      simp only [List.map_cons, PyData.depthAll, PyData.depth]
      omega
  unfold SeqAt.shaped winD
  rw [Bool.and_eq_true]
  refine ⟨?_, ?_⟩
  · simp only [PyData.canLay0]
    exact h1 qs
  · simp only [PyData.depth]
    have := h2 qs
    exact decide_eq_true (by omega)

end Su
namespace Su
def insB (ws : List (Int × Int)) (a b : Int) (i : Nat) : Bool := match ws[i]? with
  | some w => decide (a ≤ w.1) && decide (w.2 ≤ b)
  | none => false
def inside (ws : List (Int × Int)) (a b : Int) : List Int := ((List.range ws.length).filter (insB ws a b)).map fun i : Nat => (i : Int)
theorem inside_given (ws : List (Int × Int)) (a b : Int) : (inside ws a b).map V.int = given ws.length (insB ws a b) fun i => .int (i : Nat) := by
  unfold inside given
  rw [List.map_map]
  rfl
theorem inside_len (ws : List (Int × Int)) (a b : Int) : (inside ws a b).length ≤ ws.length := by
  unfold inside
  rw [List.length_map]
  have h := List.length_filter_le (insB ws a b) (List.range ws.length)
  rw [List.length_range] at h
  exact h
def wsOf (qs : List Win) : List (Int × Int) := qs.map (·.2)
theorem ws_at {qs : List Win} {i : Nat} {q : Win} (h : qs[i]? = some q) : (wsOf qs)[i]? = some q.2 := by unfold wsOf; rw [List.getElem?_map, h]; rfl
theorem ws_len {qs : List Win} : (wsOf qs).length = qs.length := List.length_map _

end Su
namespace Su
/-! ### is_order -/
theorem eqv_ints (a b : List Int) : PyData.eqv (intD a) (intD b) = decide (a = b) := by
  unfold intD
  rw [PyData.eqv]
  exact PySem.W.ked_eqvAll a b
theorem sorted_unique : ∀ {l m : List Int}, l.Pairwise (· ≤ ·) → m.Pairwise (· ≤ ·) → l.Perm m → l = m
  | [], m, _, _, h => (List.nil_perm.mp h).symm
  | a :: r, [], _, _, h => absurd h.length_eq (by rw [List.length_cons]; exact fun z => by cases z)
  | a :: r, b :: s, hl, hm, h => by
    obtain ⟨l1, l2⟩ := List.pairwise_cons.mp hl
    obtain ⟨m1, m2⟩ := List.pairwise_cons.mp hm
    have e : a = b := by
      have h1 : a ∈ b :: s := h.mem_iff.mp List.mem_cons_self
      have h2 : b ∈ a :: r := h.mem_iff.mpr List.mem_cons_self
      rcases List.mem_cons.mp h1 with e | h1
      · exact e
      · rcases List.mem_cons.mp h2 with e | h2
        · exact e.symm
        · have := l1 b h2
          have := m1 a h1
          omega
    subst e
    rw [sorted_unique l2 m2 ((List.perm_cons a).mp h)]
def sortI (ns : List Int) : List Int := ns.mergeSort fun a b => decide (a ≤ b)
theorem sortI_perm (ns : List Int) : (sortI ns).Perm ns := List.mergeSort_perm _ _
theorem sortI_sorted (ns : List Int) : (sortI ns).Pairwise (· ≤ ·) := by
  have h := List.pairwise_mergeSort (le := fun a b : Int => decide (a ≤ b)) (fun a b c h1 h2 => by
    have := of_decide_eq_true h1
    have := of_decide_eq_true h2
    exact decide_eq_true (by omega)) (fun a b => by
    rw [Bool.or_eq_true, decide_eq_true_eq, decide_eq_true_eq]
    omega) ns
  exact h.imp fun h => of_decide_eq_true h
def rgI (n : Nat) : List Int := (List.range n).map fun i : Nat => (i : Int)
theorem rgI_sorted (n : Nat) : (rgI n).Pairwise (· ≤ ·) := by
  unfold rgI
  rw [List.pairwise_map]
  exact List.pairwise_lt_range.imp fun {i j} h => by omega
theorem sortI_eq (ns : List Int) (n : Nat) : sortI ns = rgI n ↔ ns.Perm (rgI n) :=
  ⟨fun h => h ▸ (sortI_perm ns).symm, fun h => sorted_unique (sortI_sorted ns) (rgI_sorted n) ((sortI_perm ns).trans h)⟩
def inRound (ws : List (Int × Int)) (ns : List Int) (i : Nat) : Bool := match ns[i]? with
  | some n => match ws[n.toNat]? with
    | some w => decide (w.1 ≤ 1 + (i : Int)) && decide (1 + (i : Int) ≤ w.2)
    | none => false
  | none => false
def isOrd (ws : List (Int × Int)) (ns : List Int) : Bool := decide (sortI ns = rgI ws.length) && ((List.range ns.length).map (inRound ws ns)).all id
section
variable {P : Program} {w : World} {K : PySem.W.Frag} {mg : Str → Option Value} {base : Heap}
theorem el_sortedI {σ : L2.St} {H : Hp} {te : TE} {a : Addr} {ns : List Int} (h : Ev te σ H (.ref a)) (hs : SqL K H a (ns.map V.int)) : EvL (tCB (rSortedI K) (tCons te tNil)) σ H ((sortI ns).map V.int) := fun H0 e Q q =>
  h H0 e _ fun H1 e1 => ⟨a, ns, rfl, ex_l (e.trans e1) hs, fun ns' p hp ho hn => by
    obtain rfl : ns' = sortI ns := sorted_unique ho (sortI_sorted ns) (hp.trans (sortI_perm ns).symm)
    exact q p _ (fresh_back e1 hn) (e1.trans (Ex.new hn)) upd_same⟩
theorem el_rgI {σ : L2.St} {H : Hp} {te : TE} {n : Nat} (h : Ev te σ H (.int (n : Nat))) (hn : n ≤ 16000000) : EvL (tLstRg (tRg1 te)) σ H ((rgI n).map V.int) := fun H0 e Q q =>
  h H0 e _ fun H1 e1 => ⟨n, rfl, RgOk.of_le (by omega) (by omega) (by omega) (by omega), fun p hp => q p _ (fresh_back e1 hp) (e1.trans (Ex.new hp)) (by
    rw [upd_same]
    unfold rgV rgI
    rw [List.map_map, Int.sub_zero, Int.toNat_natCast]
    congr 2
    apply List.map_congr_left
    intro i _
    show V.int (0 + (i : Int)) = V.int (i : Int)
    rw [Int.zero_add])⟩
theorem ev_allB {σ : L2.St} {H : Hp} {te : TE} {bs : List Bool} (h : EvL te σ H (bs.map V.bl)) : Ev (tCB (rAll K) (tCons te tNil)) σ H (.bl (bs.all id)) := fun H1 e Q q =>
  h H1 e _ fun p H2 _ e2 h2 => ⟨p, bs, rfl, sq_of h2, q H2 e2⟩
end

end Su
namespace Su
/-! ### orders -/
theorem isOrd_no {ws : List (Int × Int)} {ns : List Int} {i : Nat} (hi : i < ns.length) (h : inRound ws ns i = false) : isOrd ws ns = false := by
  unfold isOrd
  rw [Bool.and_eq_false_iff]
  right
  rw [List.all_eq_false]
  exact ⟨inRound ws ns i, List.mem_map.mpr ⟨i, List.mem_range.mpr hi, rfl⟩, by rw [h]; decide⟩
theorem isOrd_yes {ws : List (Int × Int)} {ns : List Int} (hs : sortI ns = rgI ws.length) (h : ∀ j, j < ns.length → inRound ws ns j = true) : isOrd ws ns = true := by
  unfold isOrd
  rw [decide_eq_true hs, Bool.true_and, List.all_eq_true]
  intro b hb
  obtain ⟨j, hj, rfl⟩ := List.mem_map.mp hb
  exact h j (List.mem_range.mp hj)

end Su
namespace Su
/-! ### lists of natural numbers as values -/
def natI (l : List Nat) : List Int := l.map fun k : Nat => (k : Int)
theorem natI_len (l : List Nat) : (natI l).length = l.length := List.length_map _
theorem nat_given (l : List Nat) (p : Nat → Bool) (v : Nat → V) : given l.length (fun i => p (l.getD i 0)) (fun i => v (l.getD i 0)) = (l.filter p).map v := by
  have h : (List.range l.length).map (fun i => l.getD i 0) = l := by
    apply List.ext_getElem?
    intro i
    rw [List.getElem?_map]
    by_cases hi : i < l.length
    · rw [List.getElem?_range hi, List.getElem?_eq_getElem hi]
      show some (l.getD i 0) = _
      rw [List.getD_eq_getElem?_getD, List.getElem?_eq_getElem hi]
      rfl
    · rw [List.getElem?_eq_none (by rw [List.length_range]; omega), List.getElem?_eq_none (by omega)]
      rfl
  conv => rhs; rw [← h]
  unfold given
  rw [List.filter_map, List.map_map]
  rfl
theorem nat_given1 (l : List Nat) (v : Nat → V) : given l.length (fun _ => true) (fun i => v (l.getD i 0)) = l.map v := by
  have z := nat_given l (fun _ => true) v
  rw [List.filter_eq_self.mpr (fun _ _ => rfl)] at z
  exact z
theorem nat_at {l : List Nat} {i : Nat} {x : V} (h : ((natI l).map V.int)[i]? = some x) : ∃ k, x = .int (k : Nat) ∧ l[i]? = some k ∧ l.getD i 0 = k := by
  unfold natI at h
  rw [List.map_map, List.getElem?_map] at h
  cases hc : l[i]? with
  | none => rw [hc] at h; cases h
  | some c => rw [hc] at h; exact ⟨c, (Option.some.inj h).symm, rfl, by rw [List.getD_eq_getElem?_getD, hc]; rfl⟩
theorem natI_int (l : List Nat) : (natI l).map V.int = l.map fun k : Nat => V.int (k : Nat) := by
  unfold natI
  rw [List.map_map]
  rfl
theorem nat_eqd {i j : Nat} : decide (V.int (i : Nat) = V.int (j : Nat)) = decide (i = j) := by
  by_cases h : i = j
  · rw [h, decide_eq_true rfl, decide_eq_true rfl]
  · rw [decide_eq_false h, decide_eq_false (fun z => h (by have := V.int.inj z; omega))]
theorem nat_perm {r : List Nat} {n : Nat} : (natI r).Perm (rgI n) ↔ r.Perm (List.range n) := by
  unfold natI rgI
  refine ⟨fun h => ?_, fun h => h.map _⟩
  have := h.map Int.toNat
  rw [List.map_map, List.map_map] at this
  have e : ∀ l : List Nat, l.map (Int.toNat ∘ fun k : Nat => (k : Int)) = l := fun l => by
    conv => rhs; rw [← List.map_id l]
    apply List.map_congr_left
    intro k _
    exact Int.toNat_natCast k
  rw [e, e] at this
  exact this

end Su
namespace Su
/-! ### windows around the drawn order -/
theorem s_viaU {te : TE} {g : TG} {D : Ends} {σ : L2.St} {H : Hp} {xs : List V} (h : EvU te σ H xs) (k : ∀ t H1, H t = none → Ex H H1 → H1 t = some (.tup xs) → tAsg (tC (.ref t)) g D σ H1) : tAsg te g D σ H := h H (Ex.refl H) _ fun t H1 ht e1 h1 => k t H1 ht e1 h1
def tRefs (p : Addr) : TA := fun _ H Q => Q [.ref p] H
theorem ea_refs {p : Addr} {σ : L2.St} {H : Hp} : EvA (tRefs p) σ H [.ref p] := fun H1 _ _ q => q H1 (Ex.refl H1)
/-- for .. in enumerate(f(..)), where f hands back a new list -/
theorem s_forEc {K : PySem.W.Frag} {g : TG} {tb : TS} {D : Ends} {σ : L2.St} {H : Hp} {ta : TA} {sp : Sp} {vs : List V} {E : XK} {P : List V → Prop} (h : EvA ta σ H vs) (hs : SpN sp (vs ++ []) H P)
    (k : ∀ xs p H1, P xs → H p = none → Ex H H1 → H1 p = some (.lst xs) → tFor (iEnum K (tRefs p)) g tb D σ H1) : tFor (iEnum K (tCons (tCall sp [] E ta) tNil)) g tb D σ H :=
  h H (Ex.refl H) _ fun H1 e1 => hs H1 e1 _ (fun xs p H2 hP hp e2 h2 => k xs p H2 hP (fresh_back e1 hp) (e1.trans e2) h2) E
/-- x = [e] * n, e a new tuple -/
theorem q_repU {te tb : TE} {D : Ends} {σ : L2.St} {H : Hp} {tz : TS} {i : Nat} {xs : List V} {n : Int} (h : EvU te σ H xs) (hb : ∀ H1, Ex H H1 → Ev tb σ H1 (.int n)) (h0 : 0 ≤ n) (h1 : n ≤ 100000)
    (k : ∀ t p H1, H t = none → H p = none → Ex H H1 → H1 t = some (.tup xs) → H1 p = some (.lst (List.replicate n.toNat (.ref t))) → tz D (σ.set i (some (.ref p))) H1) : tSeq (tAsg (tOp rRep (tLst (tCons te tNil)) tb) (gName i)) tz D σ H :=
  h H (Ex.refl H) _ fun t H1 ht e1 h2 => ⟨by show 1 ≤ sizeLine; decide, fun p0 hp0 => hb _ (e1.trans (Ex.new hp0)) _ (Ex.refl _) _ fun H3 e3 => ⟨p0, n, [.ref t], rfl, rfl, e3 p0 _ upd_same, by omega, by omega, sz_of (by show 1 * n.toNat ≤ _; omega), fun r hr => by
    rw [flat1]
    have ex := (e1.trans (Ex.new hp0)).trans e3
    exact k t r _ ht (fresh_back ex hr) (ex.trans (Ex.new hr)) (by rw [upd_ne (ne_of_none (((Ex.new hp0).trans e3) t _ h2) hr)]; exact ((Ex.new hp0).trans e3) t _ h2) upd_same⟩⟩
theorem refs_set {qs : List Win} {j : Nat} {q : Win} : refs (qs.set j q) = (refs qs).set j (.ref q.1) := by
  unfold refs
  rw [List.map_set]
theorem TW.set {H : Hp} {qs : List Win} {j : Nat} {q : Win} (h : TW H qs) (hq : H q.1 = some (.tup [.int q.2.1, .int q.2.2])) : TW H (qs.set j q) := fun r hr => by
  rcases List.mem_or_eq_of_mem_set hr with h' | h'
  · exact h r h'
  · rw [h']; exact hq
theorem int_at {ns : List Int} {i : Nat} {x : V} (h : (ns.map V.int)[i]? = some x) : ∃ n, x = .int n ∧ ns[i]? = some n := by
  rw [List.getElem?_map] at h
  cases hc : ns[i]? with
  | none => rw [hc] at h; cases h
  | some c => rw [hc] at h; exact ⟨c, (Option.some.inj h).symm, rfl⟩
theorem in_rg {z : Int} {n : Nat} (h : z ∈ rgI n) : ∃ j : Nat, z = (j : Int) ∧ j < n := by
  obtain ⟨j, hj, rfl⟩ := List.mem_map.mp h
  exact ⟨j, rfl, List.mem_range.mp hj⟩
theorem perm_len {ns : List Int} {n : Nat} (h : ns.Perm (rgI n)) : ns.length = n := by
  have := h.length_eq
  unfold rgI at this
  rw [List.length_map, List.length_range] at this
  exact this

end Su
namespace Su
/-! ### a row spoilt -/
theorem cut_to (xs : List V) (k : Nat) : cutV xs none (some (k : Int)) = xs.take k := by
  unfold cutV
  rw [HT.sIx_nat, HT.sIx_none, List.drop_zero, Nat.sub_zero]
  by_cases h : k ≤ xs.length
  · rw [Nat.min_eq_left h]
  · rw [Nat.min_eq_right (by omega), List.take_of_length_le (Nat.le_refl _), List.take_of_length_le (by omega)]
theorem el_cat {ta tb : TE} {σ : L2.St} {H : Hp} {xs ys : List V} (ha : EvL ta σ H xs) (hb : EvL tb σ H ys) (hz : xs.length + ys.length ≤ 100000) : EvL (tOp rCat ta tb) σ H (xs ++ ys) := fun H1 e Q q =>
  ha H1 e _ fun p H2 hp e2 h2 => hb H2 (e.trans e2) _ fun p2 H3 hp3 e3 h3 => ⟨p, p2, xs, ys, rfl, rfl, e3 p _ h2, h3, sz_of hz, fun r hr => q r _ (fresh_back (e2.trans e3) hr) ((e2.trans e3).trans (Ex.new hr)) upd_same⟩
theorem q_asgSub {l : Addr} {xs : List V} {z : Int} {j : Nat} {te ta tb : TE} {σ : L2.St} {H : Hp} {v : V} {D : Ends} {tz : TS} (hl : H l = some (.lst xs)) (h : Ev te σ H v) (ho : Ev ta σ H (.ref l)) (hi : Ev tb σ H (.int z)) (hz : z = (j : Int)) (hj : j < xs.length)
    (k : ∀ H1, Ex H H1 → tz D σ (upd H1 l (.lst (xs.set j v)))) : tSeq (tAsg te (gSub ta tb rSetL)) tz D σ H := s_asgSub (D := { D with nx := tz D }) hl h ho hi hz hj k
theorem ints_set (ms : List Int) (j : Nat) (v : Int) : (ms.map V.int).set j (.int v) = (ms.set j v).map V.int := (List.map_set).symm
theorem at5 {a b c d e z : Int} (h0 : 0 ≤ z) (h : z < 5) : ∃ v : Int, atI [V.int a, .int b, .int c, .int d, .int e] z = some (.int v) := by
  have h4 : z = 0 ∨ z = 1 ∨ z = 2 ∨ z = 3 ∨ z = 4 := by omega
  rcases h4 with rfl | rfl | rfl | rfl | rfl
  · exact ⟨a, rfl⟩
  · exact ⟨b, rfl⟩
  · exact ⟨c, rfl⟩
  · exact ⟨d, rfl⟩
  · exact ⟨e, rfl⟩
theorem int_eqd {i j : Int} : decide (V.int i = V.int j) = decide (i = j) := by
  by_cases h : i = j
  · rw [h, decide_eq_true rfl, decide_eq_true rfl]
  · rw [decide_eq_false h, decide_eq_false (fun z => h (V.int.inj z))]

end Su
namespace Su
/-! ### the told order, round by round -/
def foldB (f : Nat → Int) (x : Nat) (xs : List Nat) : Nat := xs.foldl (fun c y => if f y < f c then y else c) x
theorem foldB_mem (f : Nat → Int) : ∀ (xs : List Nat) (x : Nat), foldB f x xs ∈ x :: xs
  | [], x => List.mem_cons_self
  | y :: ys, x => by
    have h := foldB_mem f ys (if f y < f x then y else x)
    show foldB f (if f y < f x then y else x) ys ∈ _
    rcases List.mem_cons.mp h with h | h
    · rw [h]
      split
      · exact List.mem_cons_of_mem _ List.mem_cons_self
      · exact List.mem_cons_self
    · exact List.mem_cons_of_mem _ (List.mem_cons_of_mem _ h)
theorem foldB_le (f : Nat → Int) : ∀ (xs : List Nat) (x : Nat), f (foldB f x xs) ≤ f x ∧ ∀ y ∈ xs, f (foldB f x xs) ≤ f y
  | [], x => ⟨Int.le_refl _, fun _ h => absurd h List.not_mem_nil⟩
  | y :: ys, x => by
    obtain ⟨h1, h2⟩ := foldB_le f ys (if f y < f x then y else x)
    show f (foldB f (if f y < f x then y else x) ys) ≤ _ ∧ ∀ z ∈ y :: ys, f (foldB f (if f y < f x then y else x) ys) ≤ _
    refine ⟨?_, fun z hz => ?_⟩
    · split at h1 <;> rename_i c <;> simp only [c, if_true, if_false] <;> omega
    · rcases List.mem_cons.mp hz with rfl | hz
      · split at h1 <;> rename_i c <;> simp only [c, if_true, if_false] <;> omega
      · exact h2 z hz
theorem foldB_first (f : Nat → Int) : ∀ (xs : List Nat) (x : Nat), ((x :: xs).filter fun y => decide (f y = f (foldB f x xs))).head? = some (foldB f x xs)
  | [], x => by
    show ([x].filter fun y => decide (f y = f x)).head? = some x
    rw [List.filter_cons, if_pos (by simp)]
    rfl
  | y :: ys, x => by
    have h := foldB_first f ys (if f y < f x then y else x)
    have le := foldB_le f ys (if f y < f x then y else x)
    show ((x :: y :: ys).filter fun z => decide (f z = f (foldB f (if f y < f x then y else x) ys))).head? = some (foldB f (if f y < f x then y else x) ys)
    generalize foldB f (if f y < f x then y else x) ys = b at h le ⊢
    by_cases c : f y < f x
    · rw [if_pos c] at h le
      rw [List.filter_cons, if_neg (by simp; omega)]
      exact h
    · rw [if_neg c] at h le
      rw [List.filter_cons] at h ⊢
      by_cases e : f x = f b
      · rw [if_pos (by simpa using e)] at h ⊢
        exact h
      · rw [if_neg (by simpa using e)] at h ⊢
        rw [List.filter_cons, if_neg (by simp; omega)]
        exact h
theorem foldB_snoc (f : Nat → Int) (x : Nat) (xs : List Nat) (y : Nat) : foldB f x (xs ++ [y]) = if f y < f (foldB f x xs) then y else foldB f x xs := by
  unfold foldB
  rw [List.foldl_append]
  rfl
/-- the keys of min's lambda: the window's last round, then its number -/
def tk (f : Nat → Int) (xs : List Nat) (i : Nat) : List Int := [f (xs.getD i 0), (xs.getD i 0 : Nat)]
theorem tk_lt {f : Nat → Int} {xs : List Nat} {i j : Nat} {a b : Nat} (ha : xs[i]? = some a) (hb : xs[j]? = some b) (h : b < a) : HT.lexLt (tk f xs i) (tk f xs j) = decide (f a < f b) := by
  have e1 : xs.getD i 0 = a := by rw [List.getD_eq_getElem?_getD, ha]; rfl
  have e2 : xs.getD j 0 = b := by rw [List.getD_eq_getElem?_getD, hb]; rfl
  unfold tk
  rw [e1, e2, HT.lexLt_cons, HT.lexLt_cons]
  by_cases c : f a = f b
  · rw [if_pos c, if_neg (by omega), decide_eq_false (by omega), decide_eq_false (by omega)]
  · rw [if_neg c]
theorem arg_fold {f : Nat → Int} {x : Nat} {xs : List Nat} (hp : (x :: xs).Pairwise (· < ·)) : ∀ j ≤ xs.length, (x :: xs)[argBest (fun i j => HT.lexLt (tk f (x :: xs) i) (tk f (x :: xs) j)) j]? = some (foldB f x (xs.take j)) ∧ argBest (fun i j => HT.lexLt (tk f (x :: xs) i) (tk f (x :: xs) j)) j ≤ j
  | 0, _ => ⟨rfl, Nat.le_refl _⟩
  | j + 1, hj => by
    obtain ⟨ih, il⟩ := arg_fold (f := f) hp j (by omega)
    have gy : (x :: xs)[j + 1]? = some xs[j] := by rw [List.getElem?_cons_succ, List.getElem?_eq_getElem (by omega)]
    have et : xs.take (j + 1) = xs.take j ++ [xs[j]] := by rw [List.take_add_one, List.getElem?_eq_getElem (by omega)]; rfl
    have lt : foldB f x (xs.take j) < xs[j] := by
      have := List.pairwise_iff_getElem.mp hp (argBest (fun i j => HT.lexLt (tk f (x :: xs) i) (tk f (x :: xs) j)) j) (j + 1) (by rw [List.length_cons]; omega) (by rw [List.length_cons]; omega) (by omega)
      rw [List.getElem?_eq_getElem (by rw [List.length_cons]; omega)] at ih gy
      rw [Option.some.inj ih, Option.some.inj gy] at this
      exact this
    have ek := tk_lt (f := f) gy ih lt
    rw [et, foldB_snoc]
    show (x :: xs)[if HT.lexLt (tk f (x :: xs) (j + 1)) (tk f (x :: xs) (argBest (fun i j => HT.lexLt (tk f (x :: xs) i) (tk f (x :: xs) j)) j)) = true then j + 1 else argBest (fun i j => HT.lexLt (tk f (x :: xs) i) (tk f (x :: xs) j)) j]? = _ ∧ (if HT.lexLt (tk f (x :: xs) (j + 1)) (tk f (x :: xs) (argBest (fun i j => HT.lexLt (tk f (x :: xs) i) (tk f (x :: xs) j)) j)) = true then j + 1 else argBest (fun i j => HT.lexLt (tk f (x :: xs) i) (tk f (x :: xs) j)) j) ≤ _
    rw [ek]
    by_cases c : f xs[j] < f (foldB f x (xs.take j))
    · rw [if_pos (decide_eq_true c), if_pos c]
      exact ⟨gy, Nat.le_refl _⟩
    · rw [if_neg (by simpa using c), if_neg c]
      exact ⟨ih, by omega⟩
def bestI (f : Nat → Int) : List Nat → Nat
  | [] => 0
  | x :: xs => foldB f x xs
theorem arg_best {f : Nat → Int} {xs : List Nat} (h : xs ≠ []) (hp : xs.Pairwise (· < ·)) : xs[argBest (fun i j => HT.lexLt (tk f xs i) (tk f xs j)) (xs.length - 1)]? = some (bestI f xs) := by
  cases xs with
  | nil => exact absurd rfl h
  | cons x xs =>
    have := (arg_fold (f := f) hp xs.length (Nat.le_refl _)).1
    rw [List.take_length] at this
    exact this
theorem best_mem {f : Nat → Int} {xs : List Nat} (h : xs ≠ []) : bestI f xs ∈ xs := by
  cases xs with
  | nil => exact absurd rfl h
  | cons x xs => exact foldB_mem f xs x
theorem best_le {f : Nat → Int} {xs : List Nat} {y : Nat} (h : y ∈ xs) : f (bestI f xs) ≤ f y := by
  cases xs with
  | nil => exact absurd h List.not_mem_nil
  | cons x xs =>
    rcases List.mem_cons.mp h with rfl | h
    · exact (foldB_le f xs y).1
    · exact (foldB_le f xs x).2 y h
theorem best_first {f : Nat → Int} {xs : List Nat} (h : xs ≠ []) : (xs.filter fun y => decide (f y = f (bestI f xs))).head? = some (bestI f xs) := by
  cases xs with
  | nil => exact absurd rfl h
  | cons x xs => exact foldB_first f xs x
def firstI (ws : List (Int × Int)) (i : Nat) : Int := match ws[i]? with
  | some w => w.1
  | none => 0
def lastI (ws : List (Int × Int)) (i : Nat) : Int := match ws[i]? with
  | some w => w.2
  | none => 0
def freeI (n : Nat) (row : List Nat) : List Nat := (List.range n).filter fun i => !row.contains i
def rdyI (ws : List (Int × Int)) (row : List Nat) (t : Int) : List Nat := (freeI ws.length row).filter fun i => decide (firstI ws i ≤ t)
def greedy (ws : List (Int × Int)) : Nat → Option (List Nat)
  | 0 => some []
  | t + 1 => match greedy ws t with
    | none => none
    | some row => if rdyI ws row ((t : Int) + 1) = [] then none else if lastI ws (bestI (lastI ws) (rdyI ws row ((t : Int) + 1))) < (t : Int) + 1 then none else some (row ++ [bestI (lastI ws) (rdyI ws row ((t : Int) + 1))])
theorem greedy_none {ws : List (Int × Int)} {t : Nat} (h : greedy ws t = none) : ∀ k, greedy ws (t + k) = none
  | 0 => h
  | k + 1 => by
    show (match greedy ws (t + k) with
      | none => none
      | some row => _) = none
    rw [greedy_none h k]
theorem greedy_none' {ws : List (Int × Int)} {t n : Nat} (h : greedy ws t = none) (hn : t ≤ n) : greedy ws n = none := by
  obtain ⟨k, rfl⟩ := Nat.exists_eq_add_of_le hn
  exact greedy_none h k
theorem greedy_empty {ws : List (Int × Int)} {t : Nat} {row : List Nat} (h : greedy ws t = some row) (e : rdyI ws row ((t : Int) + 1) = []) : greedy ws (t + 1) = none := by
  show (match greedy ws t with
    | none => none
    | some row => _) = none
  rw [h]
  exact if_pos e
theorem greedy_late {ws : List (Int × Int)} {t : Nat} {row : List Nat} (h : greedy ws t = some row) (e : rdyI ws row ((t : Int) + 1) ≠ []) (l : lastI ws (bestI (lastI ws) (rdyI ws row ((t : Int) + 1))) < (t : Int) + 1) : greedy ws (t + 1) = none := by
  show (match greedy ws t with
    | none => none
    | some row => _) = none
  rw [h]
  exact (if_neg e).trans (if_pos l)
theorem greedy_step {ws : List (Int × Int)} {t : Nat} {row : List Nat} (h : greedy ws t = some row) (e : rdyI ws row ((t : Int) + 1) ≠ []) (l : ¬ lastI ws (bestI (lastI ws) (rdyI ws row ((t : Int) + 1))) < (t : Int) + 1) : greedy ws (t + 1) = some (row ++ [bestI (lastI ws) (rdyI ws row ((t : Int) + 1))]) := by
  show (match greedy ws t with
    | none => none
    | some row => _) = _
  rw [h]
  exact (if_neg e).trans (if_neg l)
theorem free_inc (n : Nat) (row : List Nat) : (freeI n row).Pairwise (· < ·) := List.Pairwise.filter _ List.pairwise_lt_range
theorem rdy_inc (ws : List (Int × Int)) (row : List Nat) (t : Int) : (rdyI ws row t).Pairwise (· < ·) := List.Pairwise.filter _ (free_inc _ _)
theorem free_lt {n : Nat} {row : List Nat} {i : Nat} (h : i ∈ freeI n row) : i < n := List.mem_range.mp (List.mem_filter.mp h).1
theorem free_len (n : Nat) (row : List Nat) : (freeI n row).length ≤ n := by
  have h := List.length_filter_le (fun i => !row.contains i) (List.range n)
  rw [List.length_range] at h
  exact h
theorem rdy_len (ws : List (Int × Int)) (row : List Nat) (t : Int) : (rdyI ws row t).length ≤ ws.length := Nat.le_trans (List.length_filter_le _ _) (free_len _ _)
theorem free_nil (n : Nat) : freeI n [] = List.range n := by
  unfold freeI
  exact List.filter_eq_self.mpr fun i _ => rfl
theorem free_add (n : Nat) (row : List Nat) (c : Nat) : freeI n (row ++ [c]) = (freeI n row).filter fun i => decide (i ≠ c) := by
  unfold freeI
  rw [List.filter_filter]
  refine List.filter_congr fun i _ => ?_
  by_cases h1 : i ∈ row <;> by_cases h2 : i = c <;> simp [h1, h2]
theorem erase_ne : ∀ {xs : List Nat} {j c : Nat}, xs.Pairwise (· < ·) → xs[j]? = some c → xs.eraseIdx j = xs.filter fun i => decide (i ≠ c)
  | x :: xs, 0, c, h, e => by
    obtain rfl : x = c := by simpa using e
    rw [List.eraseIdx_cons_zero, List.filter_cons, if_neg (by simp)]
    refine (List.filter_eq_self.mpr fun i hi => ?_).symm
    have := (List.pairwise_cons.mp h).1 i hi
    exact decide_eq_true (by omega)
  | x :: xs, j + 1, c, h, e => by
    have e' : xs[j]? = some c := by simpa using e
    have := (List.pairwise_cons.mp h).1 c (List.mem_of_getElem? e')
    rw [List.eraseIdx_cons_succ, List.filter_cons, if_pos (by simp; omega), erase_ne (List.pairwise_cons.mp h).2 e']
  | [], j, c, h, e => by simp at e
theorem inc_first {xs : List Nat} {j c m : Nat} (h : xs.Pairwise (· < ·)) (e : xs[j]? = some c) (hm : m < j) : xs[m]? ≠ some c := fun z => by
  have hj := (List.getElem?_eq_some_iff.mp e).1
  have hmm := (List.getElem?_eq_some_iff.mp z).1
  have := List.pairwise_iff_getElem.mp h m j hmm hj hm
  rw [List.getElem?_eq_getElem hj] at e
  rw [List.getElem?_eq_getElem hmm] at z
  rw [Option.some.inj e, Option.some.inj z] at this
  omega
theorem natI_erase (xs : List Nat) (j : Nat) : (natI xs).eraseIdx j = natI (xs.eraseIdx j) := by
  unfold natI
  induction xs generalizing j with
  | nil => rfl
  | cons x xs ih =>
    cases j with
    | zero => rfl
    | succ j => rw [List.map_cons, List.eraseIdx_cons_succ, List.eraseIdx_cons_succ, List.map_cons, ih]
theorem natI_some {xs : List Nat} {j c : Nat} (h : xs[j]? = some c) : (natI xs)[j]? = some (c : Int) := by unfold natI; rw [List.getElem?_map, h]; rfl
theorem natI_not {xs : List Nat} {j c : Nat} (h : xs[j]? ≠ some c) : (natI xs)[j]? ≠ some (c : Int) := fun z => by
  unfold natI at z
  rw [List.getElem?_map] at z
  cases hc : xs[j]? with
  | none => rw [hc] at z; cases z
  | some d =>
    rw [hc] at z
    have : (d : Int) = (c : Int) := Option.some.inj z
    exact h (by rw [hc, show d = c by omega])

end Su
namespace Su
theorem win_first {qs : List Win} {i : Nat} {q : Win} (h : qs[i]? = some q) : firstI (wsOf qs) i = q.2.1 := by unfold firstI; rw [ws_at h]
theorem win_last {qs : List Win} {i : Nat} {q : Win} (h : qs[i]? = some q) : lastI (wsOf qs) i = q.2.2 := by unfold lastI; rw [ws_at h]

end Su
namespace Su
theorem len_sub : ∀ {S T : List Nat}, S.Nodup → (∀ x ∈ S, x ∈ T) → S.length ≤ T.length
  | [], T, _, _ => Nat.zero_le _
  | x :: S, T, hn, h => by
    have hx := h x List.mem_cons_self
    obtain ⟨h1, h2⟩ := List.nodup_cons.mp hn
    have := len_sub (S := S) (T := T.erase x) h2 fun y hy => (List.mem_erase_of_ne (fun z => h1 (by rw [← z]; exact hy))).mpr (h y (List.mem_cons_of_mem _ hy))
    rw [List.length_erase_of_mem hx] at this
    have hp := List.length_pos_of_mem hx
    rw [List.length_cons]
    omega
theorem perm_sub : ∀ {S T : List Nat}, S.Nodup → (∀ x ∈ S, x ∈ T) → S.length = T.length → S.Perm T
  | [], T, _, _, hl => by
    have : T = [] := List.length_eq_zero_iff.mp hl.symm
    rw [this]
  | x :: S, T, hn, h, hl => by
    have hx := h x List.mem_cons_self
    obtain ⟨h1, h2⟩ := List.nodup_cons.mp hn
    have hp := List.length_pos_of_mem hx
    refine (List.Perm.cons x ?_).trans (List.perm_cons_erase hx).symm
    refine perm_sub h2 (fun y hy => (List.mem_erase_of_ne (fun z => h1 (by rw [← z]; exact hy))).mpr (h y (List.mem_cons_of_mem _ hy))) ?_
    rw [List.length_erase_of_mem hx]
    rw [List.length_cons] at hl
    omega
def IsOrd (ws : List (Int × Int)) (row : List Nat) : Prop := row.Perm (List.range ws.length) ∧ ∀ (i k : Nat), row[i]? = some k → firstI ws k ≤ (i : Int) + 1 ∧ (i : Int) + 1 ≤ lastI ws k

end Su
namespace Su
theorem natI_inj : ∀ {a b : List Nat}, natI a = natI b → a = b
  | [], [], _ => rfl
  | [], y :: s, h => by cases h
  | x :: r, [], h => by cases h
  | x :: r, y :: s, h => by
    unfold natI at h
    rw [List.map_cons, List.map_cons] at h
    obtain ⟨h1, h2⟩ := List.cons.inj h
    rw [natI_inj (a := r) (b := s) h2, show x = y by omega]

end Su
namespace Su
theorem isOrd_of {ws : List (Int × Int)} {row : List Nat} (h : IsOrd ws row) : isOrd ws (natI row) = true :=
  isOrd_yes ((sortI_eq _ _).mpr (nat_perm.mpr h.1)) fun j hj => by
    rw [natI_len] at hj
    obtain ⟨k, hk⟩ : ∃ k, row[j]? = some k := ⟨_, List.getElem?_eq_getElem hj⟩
    have hkl : k < ws.length := List.mem_range.mp (h.1.mem_iff.mp (List.mem_of_getElem? hk))
    obtain ⟨h1, h2⟩ := h.2 j k hk
    unfold inRound
    rw [natI_some hk]
    show (match ws[((k : Nat) : Int).toNat]? with | some w => _ | none => _) = true
    unfold firstI at h1
    unfold lastI at h2
    rw [List.getElem?_eq_getElem hkl] at h1 h2
    have h1 : ws[k].1 ≤ (j : Int) + 1 := h1
    have h2 : (j : Int) + 1 ≤ ws[k].2 := h2
    rw [Int.toNat_natCast, List.getElem?_eq_getElem hkl]
    show (decide _ && decide _) = true
    rw [decide_eq_true (by omega), decide_eq_true (by omega)]
    rfl

end Su
namespace Su
theorem ord_of_isOrd {ws : List (Int × Int)} {row : List Nat} (h : isOrd ws (natI row) = true) : IsOrd ws row := by
  unfold isOrd at h
  rw [Bool.and_eq_true] at h
  obtain ⟨h1, h2⟩ := h
  have hp := nat_perm.mp ((sortI_eq _ _).mp (of_decide_eq_true h1))
  refine ⟨hp, fun i k hk => ?_⟩
  have hi := (List.getElem?_eq_some_iff.mp hk).1
  have hkl : k < ws.length := List.mem_range.mp (hp.mem_iff.mp (List.mem_of_getElem? hk))
  have h3 : inRound ws (natI row) i = true := List.all_eq_true.mp h2 _ (List.mem_map.mpr ⟨i, List.mem_range.mpr (by rw [natI_len]; exact hi), rfl⟩)
  unfold inRound at h3
  rw [natI_some hk] at h3
  have h3 : (match ws[((k : Nat) : Int).toNat]? with | some w => decide (w.1 ≤ 1 + (i : Int)) && decide (1 + (i : Int) ≤ w.2) | none => false) = true := h3
  rw [Int.toNat_natCast, List.getElem?_eq_getElem hkl] at h3
  unfold firstI lastI
  rw [List.getElem?_eq_getElem hkl]
  have h3 : (decide (ws[k].1 ≤ 1 + (i : Int)) && decide (1 + (i : Int) ≤ ws[k].2)) = true := h3
  rw [Bool.and_eq_true] at h3
  have h4 := of_decide_eq_true h3.1
  have h5 := of_decide_eq_true h3.2
  exact ⟨by show ws[k].1 ≤ _; omega, by show _ ≤ ws[k].2; omega⟩

end Su
namespace Su
theorem ris_unique : ∀ {l m : List Int}, l.Pairwise (· < ·) → m.Pairwise (· < ·) → (∀ z, z ∈ l ↔ z ∈ m) → l = m
  | [], [], _, _, _ => rfl
  | [], b :: s, _, _, h => absurd ((h b).mpr List.mem_cons_self) List.not_mem_nil
  | a :: r, [], _, _, h => absurd ((h a).mp List.mem_cons_self) List.not_mem_nil
  | a :: r, b :: s, hl, hm, h => by
    obtain ⟨l1, l2⟩ := List.pairwise_cons.mp hl
    obtain ⟨m1, m2⟩ := List.pairwise_cons.mp hm
    have e : a = b := by
      rcases List.mem_cons.mp ((h a).mp List.mem_cons_self) with e | h1
      · exact e
      · rcases List.mem_cons.mp ((h b).mpr List.mem_cons_self) with e | h2
        · exact e.symm
        · have := l1 b h2
          have := m1 a h1
          omega
    subst e
    rw [ris_unique l2 m2 fun z => ?_]
    have hz := h z
    rw [List.mem_cons, List.mem_cons] at hz
    refine ⟨fun hr => ?_, fun hs => ?_⟩
    · rcases hz.mp (.inr hr) with e | k
      · have := l1 z hr
        omega
      · exact k
    · rcases hz.mpr (.inr hs) with e | k
      · have := m1 z hs
        omega
      · exact k

end Su
namespace Su
theorem inV_int {z : Int} {ns : List Int} : inV (.int z) (ns.map V.int) = decide (z ∈ ns) := by
  unfold inV
  induction ns with
  | nil => rfl
  | cons a r ih =>
    rw [List.map_cons, List.any_cons, ih]
    show ((a == z) || decide (z ∈ r)) = _
    by_cases h : z = a
    · subst h
      simp
    · rw [beq_eq_false_iff_ne.mpr (fun e => h e.symm)]
      simp [h]

end Su
namespace Su
/-! ### more ways of calls -/
theorem s_forE1 {K : PySem.W.Frag} {te : TE} {g : TG} {tb : TS} {D : Ends} {σ : L2.St} {H : Hp} {Pc : Addr → Hp → Prop} (hcall : ∀ Q : VK, (∀ p H1, Pc p H1 → Q (.ref p) H1) → te σ H Q) (k : ∀ p H1, Pc p H1 → tFor (iEnum K (tCons (tC (.ref p)) tNil)) g tb D σ H1) :
    tFor (iEnum K (tCons te tNil)) g tb D σ H := hcall _ fun p H1 h => k p H1 h
theorem s_tryw1 {sp : Sp} {W : WX} {te : TE} {xs : List V} {σ : L2.St} {H : Hp} {i : Nat} {D : Ends} (h : EvL te σ H xs) (hs : ∀ p H1, H p = none → Ex H H1 → H1 p = some (.lst xs) → sp [.ref p] H1 (fun v H2 => D.nx (σ.set i (some v)) H2) (WE W σ)) : tAsg (tCallS sp (WE W) (tCons te tNil)) (gName i) D σ H :=
  h H (Ex.refl H) _ fun p H1 hp e1 h1 => hs p H1 hp e1 h1
theorem rc_isi_lst {K : PySem.W.Frag} {H : Hp} {p : Addr} {xs : List V} {n : String} {b : Bool} (h : H p = some (.lst xs)) (hk : kitB "list" n = some b) : RC (rIsi K) [.ref p, .ty n] H (.bl b) :=
  fun H1 e _ q => ⟨.ref p, .ty n, .type "list", .type n, b, rfl, .ty n, .base (.lst (e _ _ h)), kit_ty hk, q H1 (Ex.refl H1)⟩
theorem int_eq {i j : Int} : decide (V.int i = V.int j) = decide (i = j) := by
  by_cases h : i = j
  · rw [h, decide_eq_true rfl, decide_eq_true rfl]
  · rw [decide_eq_false h, decide_eq_false (fun z => h (V.int.inj z))]
theorem q_callQ {sp : Sp} {dvs vs : List V} {E : XK} {ta : TA} {σ : L2.St} {H : Hp} {i : Nat} {D : Ends} {tz : TS} (h : EvA ta σ H vs) (k : ∀ H1, Ex H H1 → sp (vs ++ dvs) H1 (fun v H2 => tz D (σ.set i (some v)) H2) E) : tSeq (tAsg (tCall sp dvs E ta) (gName i)) tz D σ H :=
  h H (Ex.refl H) _ fun H1 e1 => k H1 e1

end Su
namespace Su
/-! ### a tuple whose last part is a new list -/
def EvAL (ta : TA) (σ : L2.St) (H : Hp) (vs xs : List V) : Prop := ∀ H1, Ex H H1 → ∀ Q : List V → Hp → Prop, (∀ l H2, H1 l = none → Ex H1 H2 → H2 l = some (.lst xs) → Q (vs ++ [.ref l]) H2) → ta σ H1 Q
theorem eal_one {te : TE} {σ : L2.St} {H : Hp} {xs : List V} (h : EvL te σ H xs) : EvAL (tCons te tNil) σ H [] xs := fun H1 e Q q => h H1 e _ fun p H2 hp e2 h2 => q p H2 hp e2 h2
theorem eal_cons {te : TE} {tr : TA} {σ : L2.St} {H : Hp} {x : V} {vs xs : List V} (h : Ev te σ H x) (hr : EvAL tr σ H vs xs) : EvAL (tCons te tr) σ H (x :: vs) xs := fun H1 e Q q =>
  h H1 e _ fun H2 e2 => hr H2 (e.trans e2) _ fun p H3 hp e3 h3 => q p H3 (fresh_back e2 hp) (e2.trans e3) h3
theorem q_asgUL {ta : TA} {σ : L2.St} {H : Hp} {vs xs : List V} {i : Nat} {D : Ends} {tz : TS} (h : EvAL ta σ H vs xs) (hz : vs.length ≤ 1000)
    (k : ∀ l p H1, H l = none → H p = none → Ex H H1 → H1 l = some (.lst xs) → H1 p = some (.tup (vs ++ [.ref l])) → tz D (σ.set i (some (.ref p))) H1) : tSeq (tAsg (tTup ta) (gName i)) tz D σ H :=
  h H (Ex.refl H) _ fun l H1 hl e1 h1 => ⟨sz_of (by rw [List.length_append]; show vs.length + 1 ≤ _; omega), fun p hp => k l p _ hl (fresh_back e1 hp) (e1.trans (Ex.new hp)) (by rw [upd_ne (ne_of_none h1 hp)]; exact h1) upd_same⟩
theorem s_retUL {ta : TA} {σ : L2.St} {H : Hp} {vs xs : List V} {D : Ends} (h : EvAL ta σ H vs xs) (hz : vs.length ≤ 1000)
    (k : ∀ l p H1, H l = none → H p = none → Ex H H1 → H1 l = some (.lst xs) → H1 p = some (.tup (vs ++ [.ref l])) → D.rt (.ref p) H1) : tRet (tTup ta) D σ H :=
  h H (Ex.refl H) _ fun l H1 hl e1 h1 => ⟨sz_of (by rw [List.length_append]; show vs.length + 1 ≤ _; omega), fun p hp => k l p _ hl (fresh_back e1 hp) (e1.trans (Ex.new hp)) (by rw [upd_ne (ne_of_none h1 hp)]; exact h1) upd_same⟩
theorem rv_notN {x : V} {H : Hp} : RV (fun x y H Q => y = .non ∧ Q (.bl (!decide (x = .non))) H) x .non H (.bl (!decide (x = .non))) := fun H1 _ Q q => ⟨rfl, q H1 (Ex.refl H1)⟩
theorem rv_isN {x : V} {H : Hp} : RV (fun x y H Q => y = .non ∧ Q (.bl (decide (x = .non))) H) x .non H (.bl (decide (x = .non))) := fun H1 _ Q q => ⟨rfl, q H1 (Ex.refl H1)⟩
theorem ref_non {p : Addr} : decide (V.ref p = .non) = false := decide_eq_false fun z => nomatch z
theorem non_non : decide (V.non = .non) = true := decide_eq_true rfl
theorem q_callG {sp : Sp} {dvs vs : List V} {E : XK} {ta : TA} {g : TG} {σ : L2.St} {H : Hp} {D : Ends} {tz : TS} (h : EvA ta σ H vs) (k : ∀ H1, Ex H H1 → sp (vs ++ dvs) H1 (fun v H2 => g v σ H2 (tz D)) E) : tSeq (tAsg (tCall sp dvs E ta) g) tz D σ H :=
  h H (Ex.refl H) _ fun H1 e1 => k H1 e1
theorem s_retCall1 {sp sp1 : Sp} {dvs dvs1 vs : List V} {E E1 : XK} {ta tr : TA} {σ : L2.St} {H : Hp} {D : Ends} (h : EvA ta σ H vs) (k : ∀ H1, Ex H H1 → sp1 (vs ++ dvs1) H1 (fun x H2 => tr σ H2 fun xs H3 => sp (x :: xs ++ dvs) H3 (fun v H4 => D.rt v H4) E) E1) : tRet (tCall sp dvs E (tCons (tCall sp1 dvs1 E1 ta) tr)) D σ H :=
  h H (Ex.refl H) _ fun H1 e1 => k H1 e1
theorem ta_oneU {te : TE} {σ : L2.St} {H : Hp} {xs : List V} {Q : List V → Hp → Prop} (h : EvU te σ H xs) (k : ∀ t H1, H t = none → Ex H H1 → H1 t = some (.tup xs) → Q [.ref t] H1) : tCons te tNil σ H Q := h H (Ex.refl H) _ k

end Su
namespace Su
/-! ### the numbered orders: mathematics -/
def freeN (n h : Nat) : List Nat := (List.range n).filter fun k => !h.testBit k
def fitN (ws : List (Int × Int)) (t : Int) (k : Nat) : Bool := match ws[k]? with
  | some w => decide (w.1 ≤ t) && decide (t ≤ w.2)
  | none => false
def turnN (n h : Nat) : Int := (n : Int) - ((freeN n h).length : Int) + 1
def nxtN (ws : List (Int × Int)) (h : Nat) : List Nat := (freeN ws.length h).filter (fitN ws (turnN ws.length h))
def wayF (ws : List (Int × Int)) : Nat → Nat → Int
  | 0, _ => 1
  | f + 1, h => ((nxtN ws h).map fun k => wayF ws f (h ||| 2 ^ k)).sum
def way (ws : List (Int × Int)) (h : Nat) : Int := wayF ws (freeN ws.length h).length h
def preN (f : Nat → Int) (l : List Nat) (a : Nat) : Int := ((l.filter fun k => decide (k < a)).map f).sum
def lessN (ws : List (Int × Int)) (h a : Nat) : Int := preN (fun k => way ws (h ||| 2 ^ k)) (nxtN ws h) a
def numOf (ws : List (Int × Int)) : Nat → List Nat → Int
  | _, [] => 0
  | h, a :: r => lessN ws h a + numOf ws (h ||| 2 ^ a) r
def Path (ws : List (Int × Int)) : Nat → List Nat → Prop
  | h, [] => freeN ws.length h = []
  | h, a :: r => a ∈ nxtN ws h ∧ Path ws (h ||| 2 ^ a) r
theorem free_nodup (n h : Nat) : (freeN n h).Nodup := List.nodup_range.filter _
theorem free_mem {n h k : Nat} : k ∈ freeN n h ↔ k < n ∧ h.testBit k = false := by
  unfold freeN
  rw [List.mem_filter, List.mem_range, Bool.not_eq_true']
theorem bit_or {h a j : Nat} : (h ||| 2 ^ a).testBit j = (h.testBit j || decide (a = j)) := by rw [Nat.testBit_or, Nat.testBit_two_pow]
theorem free_or (n h a : Nat) : freeN n (h ||| 2 ^ a) = (freeN n h).erase a := by
  rw [(free_nodup n h).erase_eq_filter]
  unfold freeN
  rw [List.filter_filter]
  apply List.filter_congr
  intro j _
  rw [bit_or]
  by_cases e : a = j
  · subst e; simp
  · have e' : ¬ j = a := fun z => e z.symm
    cases h.testBit j <;> simp [e, e']
theorem free_or_len {n h a : Nat} (ha : a ∈ freeN n h) : (freeN n (h ||| 2 ^ a)).length + 1 = (freeN n h).length := by
  rw [free_or, List.length_erase_of_mem ha]
  have := List.length_pos_of_mem ha
  omega
theorem nxt_free {ws : List (Int × Int)} {h k : Nat} (hk : k ∈ nxtN ws h) : k ∈ freeN ws.length h := (List.mem_filter.mp hk).1
theorem nxt_lt {ws : List (Int × Int)} {h k : Nat} (hk : k ∈ nxtN ws h) : k < ws.length := (free_mem.mp (nxt_free hk)).1
theorem nxt_sorted (ws : List (Int × Int)) (h : Nat) : (nxtN ws h).Pairwise (· < ·) := (List.pairwise_lt_range.filter _).filter _
theorem way_full {ws : List (Int × Int)} {h : Nat} (he : freeN ws.length h = []) : way ws h = 1 := by
  unfold way
  rw [he]
  rfl
theorem way_step {ws : List (Int × Int)} {h : Nat} (he : freeN ws.length h ≠ []) : way ws h = ((nxtN ws h).map fun k => way ws (h ||| 2 ^ k)).sum := by
  unfold way
  obtain ⟨f, hf⟩ : ∃ f, (freeN ws.length h).length = f + 1 := ⟨(freeN ws.length h).length - 1, by have := List.length_pos_iff.mpr he; omega⟩
  rw [hf]
  show ((nxtN ws h).map fun k => wayF ws f (h ||| 2 ^ k)).sum = _
  congr 1
  apply List.map_congr_left
  intro k hk
  have := free_or_len (nxt_free hk)
  have e : (freeN ws.length (h ||| 2 ^ k)).length = f := by omega
  rw [e]
theorem sum_nonneg {l : List Int} (h : ∀ x ∈ l, 0 ≤ x) : 0 ≤ l.sum := by
  induction l with
  | nil => exact Int.le_refl 0
  | cons a r ih =>
    rw [List.sum_cons]
    have h1 := h a List.mem_cons_self
    have h2 := ih fun x hx => h x (List.mem_cons_of_mem _ hx)
    omega
theorem wayF_nonneg (ws : List (Int × Int)) : ∀ f h, 0 ≤ wayF ws f h
  | 0, _ => by show (0 : Int) ≤ 1; decide
  | f + 1, h => sum_nonneg fun x hx => by
    obtain ⟨k, _, rfl⟩ := List.mem_map.mp hx
    exact wayF_nonneg ws f _
theorem way_nonneg (ws : List (Int × Int)) (h : Nat) : 0 ≤ way ws h := wayF_nonneg ws _ h
section
variable {f : Nat → Int}
theorem pre_cons (x : Nat) (r : List Nat) (a : Nat) : preN f (x :: r) a = (if x < a then f x else 0) + preN f r a := by
  unfold preN
  by_cases h : x < a
  · rw [List.filter_cons_of_pos (by rw [decide_eq_true h]), List.map_cons, List.sum_cons, if_pos h]
  · rw [List.filter_cons_of_neg (by rw [decide_eq_false h]; decide), if_neg h, Int.zero_add]
theorem pre_nonneg (hf : ∀ k, 0 ≤ f k) (l : List Nat) (a : Nat) : 0 ≤ preN f l a := sum_nonneg fun x hx => by
  obtain ⟨k, _, rfl⟩ := List.mem_map.mp hx
  exact hf k
theorem pre_le (hf : ∀ k, 0 ≤ f k) {a b : Nat} (h : a ≤ b) : ∀ l, preN f l a ≤ preN f l b
  | [] => Int.le_refl _
  | x :: r => by
    have ih := pre_le hf h r
    have := hf x
    rw [pre_cons, pre_cons]
    split <;> split <;> omega
theorem pre_lt (hf : ∀ k, 0 ≤ f k) {a b : Nat} (h : a < b) : ∀ l, a ∈ l → preN f l a + f a ≤ preN f l b
  | [], ha => absurd ha List.not_mem_nil
  | x :: r, ha => by
    rw [pre_cons, pre_cons]
    have hx := hf x
    rcases List.mem_cons.mp ha with e | ha
    · subst e
      have := pre_le hf (Nat.le_of_lt h) r
      rw [if_neg (Nat.lt_irrefl _), if_pos h]
      omega
    · have ih := pre_lt hf h r ha
      split <;> split <;> omega
theorem pre_sum (hf : ∀ k, 0 ≤ f k) {a : Nat} : ∀ l, a ∈ l → preN f l a + f a ≤ (l.map f).sum
  | [], ha => absurd ha List.not_mem_nil
  | x :: r, ha => by
    have le : ∀ l, preN f l a ≤ (l.map f).sum := fun l => by
      induction l with
      | nil => exact Int.le_refl _
      | cons y s ih =>
        have := hf y
        rw [pre_cons, List.map_cons, List.sum_cons]
        split <;> omega
    rw [pre_cons, List.map_cons, List.sum_cons]
    have hx := hf x
    rcases List.mem_cons.mp ha with e | ha
    · subst e
      have := le r
      rw [if_neg (Nat.lt_irrefl _)]
      omega
    · have ih := pre_sum hf r ha
      split <;> omega
theorem pre_zero : ∀ (s : List Nat) (z : Nat), (∀ y ∈ s, z ≤ y) → preN f s z = 0
  | [], _, _ => rfl
  | y :: s, z, h => by
    rw [pre_cons, if_neg (by have := h y List.mem_cons_self; omega), pre_zero s z fun w hw => h w (List.mem_cons_of_mem _ hw)]
    rfl
theorem pre_best (hf : ∀ k, 0 ≤ f k) : ∀ (l : List Nat) (left : Int) (m : Nat), l.Pairwise (· < ·) → left < (l.map f).sum → m ∈ l → preN f l m ≤ left → (∀ y ∈ l, preN f l y ≤ left → y ≤ m) → left < preN f l m + f m
  | [], _, _, _, _, hm, _, _ => absurd hm List.not_mem_nil
  | x :: r, left, m, hp, hs, hm, hle, hmax => by
    obtain ⟨p1, p2⟩ := List.pairwise_cons.mp hp
    rw [List.map_cons, List.sum_cons] at hs
    rcases List.mem_cons.mp hm with e | hm
    · subst e
      rw [pre_cons, if_neg (Nat.lt_irrefl _), pre_zero r m fun y hy => Nat.le_of_lt (p1 y hy)]
      cases r with
      | nil =>
        rw [List.map_nil, List.sum_nil] at hs
        omega
      | cons y s =>
        have hy := p1 y List.mem_cons_self
        have py := hmax y (List.mem_cons_of_mem _ List.mem_cons_self)
        rw [pre_cons, if_pos hy, pre_zero (y :: s) y fun w hw => by
          rcases List.mem_cons.mp hw with e | hw
          · rw [e]; exact Nat.le_refl _
          · exact Nat.le_of_lt ((List.pairwise_cons.mp p2).1 w hw)] at py
        omega
    · have hx := p1 m hm
      rw [pre_cons, if_pos hx] at hle ⊢
      have := pre_best hf r (left - f x) m p2 (by omega) hm (by omega) fun y hy hle' => hmax y (List.mem_cons_of_mem _ hy) (by rw [pre_cons, if_pos (p1 y hy)]; omega)
      omega
theorem pre_first (hf : ∀ k, 0 ≤ f k) {l : List Nat} {left : Int} (hp : l.Pairwise (· < ·)) (h0 : 0 ≤ left) (hs : left < (l.map f).sum) : ∃ x ∈ l, preN f l x ≤ left := by
  cases l with
  | nil =>
    rw [List.map_nil, List.sum_nil] at hs
    omega
  | cons x r =>
    refine ⟨x, List.mem_cons_self, ?_⟩
    have z : (x :: r).filter (fun k => decide (k < x)) = [] := by
      rw [List.filter_eq_nil_iff]
      intro y hy
      rcases List.mem_cons.mp hy with e | hy
      · rw [e, decide_eq_false (Nat.lt_irrefl _)]; decide
      · have := (List.pairwise_cons.mp hp).1 y hy
        rw [decide_eq_false (by omega)]; decide
    unfold preN
    rw [z]
    exact h0
end
theorem less_nonneg (ws : List (Int × Int)) (h a : Nat) : 0 ≤ lessN ws h a := pre_nonneg (fun k => way_nonneg ws _) _ _
theorem less_lt {ws : List (Int × Int)} {h a b : Nat} (hab : a < b) (ha : a ∈ nxtN ws h) : lessN ws h a + way ws (h ||| 2 ^ a) ≤ lessN ws h b := pre_lt (f := fun k => way ws (h ||| 2 ^ k)) (fun k => way_nonneg ws _) hab _ ha
theorem free_ne {n h a : Nat} (ha : a ∈ freeN n h) : freeN n h ≠ [] := fun e => by rw [e] at ha; cases ha
theorem less_way {ws : List (Int × Int)} {h a : Nat} (ha : a ∈ nxtN ws h) : lessN ws h a + way ws (h ||| 2 ^ a) ≤ way ws h := by
  rw [way_step (free_ne (nxt_free ha))]
  exact pre_sum (f := fun k => way ws (h ||| 2 ^ k)) (fun k => way_nonneg ws _) _ ha
theorem path_num {ws : List (Int × Int)} : ∀ (r : List Nat) (h : Nat), Path ws h r → 0 ≤ numOf ws h r ∧ numOf ws h r < way ws h
  | [], h, p => by
    rw [way_full p]
    exact ⟨Int.le_refl _, by show (0 : Int) < 1; decide⟩
  | a :: r, h, ⟨ha, p⟩ => by
    have ⟨i1, i2⟩ := path_num r _ p
    have := less_way ha
    have := less_nonneg ws h a
    show 0 ≤ lessN ws h a + numOf ws (h ||| 2 ^ a) r ∧ lessN ws h a + numOf ws (h ||| 2 ^ a) r < _
    omega
theorem path_less {ws : List (Int × Int)} {h a b : Nat} {r s : List Nat} (p : Path ws h (a :: r)) (q : Path ws h (b :: s)) (hab : a < b) : numOf ws h (a :: r) < numOf ws h (b :: s) := by
  have := (path_num r _ p.2).2
  have := (path_num s _ q.2).1
  have := less_lt hab p.1
  show lessN ws h a + numOf ws (h ||| 2 ^ a) r < lessN ws h b + numOf ws (h ||| 2 ^ b) s
  omega
theorem path_len {ws : List (Int × Int)} : ∀ (r : List Nat) (h : Nat), Path ws h r → r.length = (freeN ws.length h).length
  | [], h, p => by
    have p : freeN ws.length h = [] := p
    rw [p]
  | a :: r, h, ⟨ha, p⟩ => by
    have := path_len r _ p
    have := free_or_len (nxt_free ha)
    rw [List.length_cons]
    omega
theorem path_inj {ws : List (Int × Int)} : ∀ (r s : List Nat) (h : Nat), Path ws h r → Path ws h s → numOf ws h r = numOf ws h s → r = s
  | [], [], _, _, _, _ => rfl
  | [], b :: s, h, p, q, _ => absurd p (free_ne (nxt_free q.1))
  | a :: r, [], h, p, q, _ => absurd q (free_ne (nxt_free p.1))
  | a :: r, b :: s, h, p, q, e => by
    rcases Nat.lt_trichotomy a b with c | c | c
    · have := path_less p q c
      omega
    · subst c
      have e : lessN ws h a + numOf ws (h ||| 2 ^ a) r = lessN ws h a + numOf ws (h ||| 2 ^ a) s := e
      rw [path_inj r s _ p.2 q.2 (by omega)]
    · have := path_less q p c
      omega
/-- less at the first place where two rows differ -/
def lexN : List Nat → List Nat → Bool
  | a :: r, b :: s => if a = b then lexN r s else decide (a < b)
  | _, _ => false
theorem path_lex {ws : List (Int × Int)} : ∀ (r s : List Nat) (h : Nat), Path ws h r → Path ws h s → numOf ws h r < numOf ws h s → lexN r s = true
  | [], [], _, _, _, e => absurd e (Int.lt_irrefl _)
  | [], b :: s, h, p, q, _ => absurd p (free_ne (nxt_free q.1))
  | a :: r, [], h, p, q, _ => absurd q (free_ne (nxt_free p.1))
  | a :: r, b :: s, h, p, q, e => by
    show (if a = b then lexN r s else decide (a < b)) = true
    rcases Nat.lt_trichotomy a b with c | c | c
    · rw [if_neg (Nat.ne_of_lt c)]
      exact decide_eq_true c
    · subst c
      have e : lessN ws h a + numOf ws (h ||| 2 ^ a) r < lessN ws h a + numOf ws (h ||| 2 ^ a) s := e
      rw [if_pos rfl]
      exact path_lex r s _ p.2 q.2 (by omega)
    · have := path_less q p c
      omega
theorem path_perm {ws : List (Int × Int)} : ∀ (r : List Nat) (h : Nat), Path ws h r → (freeN ws.length h).Perm r
  | [], h, p => by
    have p : freeN ws.length h = [] := p
    rw [p]
  | a :: r, h, ⟨ha, p⟩ => by
    have ih := path_perm r _ p
    rw [free_or] at ih
    exact (List.perm_cons_erase (nxt_free ha)).trans (List.Perm.cons _ ih)
theorem path_fit {ws : List (Int × Int)} : ∀ (r : List Nat) (h : Nat), Path ws h r → ∀ (j : Nat) a, r[j]? = some a → fitN ws ((ws.length : Int) - r.length + 1 + j) a = true
  | [], h, _, j, a, e => by rw [List.getElem?_nil] at e; cases e
  | a :: r, h, ⟨ha, p⟩, 0, b, e => by
    cases e
    have hf := (List.mem_filter.mp ha).2
    have hl := path_len (a :: r) h ⟨ha, p⟩
    unfold turnN at hf
    rw [← hl] at hf
    rw [show ((0 : Nat) : Int) = 0 from rfl, Int.add_zero]
    exact hf
  | a :: r, h, ⟨ha, p⟩, j + 1, b, e => by
    have := path_fit r _ p j b (by rw [List.getElem?_cons_succ] at e; exact e)
    rw [List.length_cons]
    have z : (ws.length : Int) - ((r.length + 1 : Nat) : Int) + 1 + ((j + 1 : Nat) : Int) = (ws.length : Int) - r.length + 1 + j := by omega
    rw [z]
    exact this
theorem path_of {ws : List (Int × Int)} : ∀ (r : List Nat) (h : Nat), (freeN ws.length h).Perm r → (∀ (j : Nat) a, r[j]? = some a → fitN ws ((ws.length : Int) - r.length + 1 + j) a = true) → Path ws h r
  | [], h, hp, _ => List.perm_nil.mp hp
  | a :: r, h, hp, hf => by
    have hm : a ∈ freeN ws.length h := hp.mem_iff.mpr List.mem_cons_self
    have h0 := hf 0 a rfl
    rw [show ((0 : Nat) : Int) = 0 from rfl, Int.add_zero] at h0
    refine ⟨List.mem_filter.mpr ⟨hm, ?_⟩, path_of r _ ?_ fun j b e => ?_⟩
    · unfold turnN
      rw [hp.length_eq]
      exact h0
    · rw [free_or]
      have := hp.erase a
      rw [List.erase_cons_head] at this
      exact this
    · have := hf (j + 1) b (by rw [List.getElem?_cons_succ]; exact e)
      rw [List.length_cons] at this
      have z : (ws.length : Int) - ((r.length + 1 : Nat) : Int) + 1 + ((j + 1 : Nat) : Int) = (ws.length : Int) - r.length + 1 + j := by omega
      rw [z] at this
      exact this
theorem free_zero (n : Nat) : freeN n 0 = List.range n := by
  unfold freeN
  rw [List.filter_eq_self]
  intro k _
  rw [Nat.zero_testBit]
  rfl
theorem free_full (n : Nat) : freeN n (2 ^ n - 1) = [] := by
  unfold freeN
  rw [List.filter_eq_nil_iff]
  intro k hk
  rw [Nat.testBit_two_pow_sub_one, decide_eq_true (List.mem_range.mp hk)]
  decide
theorem free_some {n h : Nat} (hh : h < 2 ^ n - 1) : freeN n h ≠ [] := fun e => by
  have : h = 2 ^ n - 1 := by
    apply Nat.eq_of_testBit_eq
    intro j
    rw [Nat.testBit_two_pow_sub_one]
    by_cases hj : j < n
    · rw [decide_eq_true hj]
      cases hb : h.testBit j with
      | true => rfl
      | false =>
        have : j ∈ freeN n h := free_mem.mpr ⟨hj, hb⟩
        rw [e] at this
        cases this
    · rw [decide_eq_false hj]
      exact Nat.testBit_lt_two_pow (Nat.lt_of_lt_of_le (by omega : h < 2 ^ n) (Nat.pow_le_pow_right (by decide) (by omega)))
  omega
theorem or_gt {h k : Nat} (hb : h.testBit k = false) : h < h ||| 2 ^ k := by
  have h1 : h ≤ h ||| 2 ^ k := Nat.left_le_or
  rcases Nat.lt_or_eq_of_le h1 with c | c
  · exact c
  · have : (h ||| 2 ^ k).testBit k = true := by rw [bit_or, decide_eq_true rfl, Bool.or_true]
    rw [← c, hb] at this
    cases this
theorem or_lt {n h k : Nat} (hh : h < 2 ^ n) (hk : k < n) : h ||| 2 ^ k < 2 ^ n := Nat.or_lt_two_pow hh (Nat.pow_lt_pow_right (by decide) hk)
theorem bit_of (h k : Nat) : h / 2 ^ k % 2 = if h.testBit k then 1 else 0 := by
  rw [Nat.testBit_eq_decide_div_mod_eq]
  by_cases e : h / 2 ^ k % 2 = 1
  · rw [decide_eq_true e, e]; rfl
  · rw [decide_eq_false e]
    have : h / 2 ^ k % 2 < 2 := Nat.mod_lt _ (by decide)
    show _ = 0
    omega
theorem best_step {ws : List (Int × Int)} {h m : Nat} {left : Int} (hl : left < way ws h) (he : freeN ws.length h ≠ []) (hm : m ∈ nxtN ws h) (hle : lessN ws h m ≤ left) (hmax : ∀ y ∈ nxtN ws h, lessN ws h y ≤ left → y ≤ m) : 0 ≤ left - lessN ws h m ∧ left - lessN ws h m < way ws (h ||| 2 ^ m) := by
  rw [way_step he] at hl
  have := pre_best (f := fun k => way ws (h ||| 2 ^ k)) (fun k => way_nonneg ws _) (nxtN ws h) left m (nxt_sorted ws h) hl hm hle hmax
  have z : left < lessN ws h m + way ws (h ||| 2 ^ m) := this
  omega
theorem some_step {ws : List (Int × Int)} {h : Nat} {left : Int} (h0 : 0 ≤ left) (hl : left < way ws h) (he : freeN ws.length h ≠ []) : ∃ x ∈ nxtN ws h, lessN ws h x ≤ left := by
  rw [way_step he] at hl
  exact pre_first (f := fun k => way ws (h ||| 2 ^ k)) (fun k => way_nonneg ws _) (nxt_sorted ws h) h0 hl

end Su
namespace Su
/-! ### the program's numbered orders, walked -/
def wayL (ws : List (Int × Int)) : List Int := (List.range (2 ^ ws.length)).map (way ws)
theorem wayL_at {ws : List (Int × Int)} {h : Nat} (hh : h < 2 ^ ws.length) : (wayL ws)[h]? = some (way ws h) := by
  unfold wayL
  rw [List.getElem?_map, List.getElem?_range hh]
  rfl
theorem ints_at {L : List Int} {h : Nat} {x : Int} (e : L[h]? = some x) : atI (L.map V.int) ((h : Nat) : Int) = some (.int x) := atI_nat (by rw [List.getElem?_map, e]; rfl)
theorem ev_sumN {K : PySem.W.Frag} {σ : L2.St} {H : Hp} {te : TE} {ns : List Int} (h : EvL te σ H (ns.map V.int)) : Ev (tCB (rSum K) (tCons te tNil)) σ H (.int ns.sum) := fun H1 e Q q =>
  h H1 e _ fun p H2 _ e2 h2 => ⟨p, ns, rfl, sq_of h2, q H2 e2⟩
theorem ev_maxN {K : PySem.W.Frag} {σ : L2.St} {H : Hp} {te : TE} {ns : List Int} {M : Int} (h : EvL te σ H (ns.map V.int)) (hM : M ∈ ns) (hmax : ∀ y ∈ ns, y ≤ M) : Ev (tCB (rMax K) (tCons te tNil)) σ H (.int M) := fun H1 e Q q =>
  h H1 e _ fun p H2 _ e2 h2 => ⟨p, ns, rfl, sq_of h2, List.length_pos_of_mem hM, fun m hm hle => by
    have e1 := hle M hM
    have e3 := hmax m hm
    obtain rfl : m = M := by omega
    exact q H2 e2⟩
theorem list_max : ∀ (l : List Nat), l ≠ [] → ∃ M ∈ l, ∀ y ∈ l, y ≤ M
  | [], h => absurd rfl h
  | a :: r, _ => by
    by_cases hr : r = []
    · subst hr
      exact ⟨a, List.mem_cons_self, fun y hy => by rw [List.mem_singleton.mp hy]; exact Nat.le_refl _⟩
    · obtain ⟨M, hM, hm⟩ := list_max r hr
      rcases Nat.lt_or_ge M a with c | c
      · exact ⟨a, List.mem_cons_self, fun y hy => by
          rcases List.mem_cons.mp hy with e | hy
          · rw [e]; exact Nat.le_refl _
          · have := hm y hy; omega⟩
      · exact ⟨M, List.mem_cons_of_mem _ hM, fun y hy => by
          rcases List.mem_cons.mp hy with e | hy
          · rw [e]; exact c
          · exact hm y hy⟩
/-- for .. in range(a, -1, -1) -/
theorem s_forDown {ta : TA} {j : Nat} {a : Int} {tu : TS} {D : Ends} {σ : L2.St} {H : Hp} (h : EvA ta σ H [.int a, .int (-1), .int (-1)]) (ha : -1 ≤ a ∧ a ≤ 100000) (Pv : Nat → L2.St → Hp → Prop) (h0 : ∀ H1, Ex H H1 → Pv 0 σ H1)
    (hs : ∀ (i : Nat) σ' H', (i : Int) ≤ a → Pv i σ' H' → tu { D with nx := Pv (i + 1), ct := Pv (i + 1), bk := D.nx } (σ'.set j (some (.int (a - (i : Int))))) H') (hd : ∀ σ' H', Pv (a + 1).toNat σ' H' → D.nx σ' H') : tFor (iRng3 ta) (gName j) tu D σ H :=
  h H (Ex.refl H) _ fun H1 e => ⟨a, -1, -1, (a - -1).toNat, rfl, RgC.neg (by omega) (by omega) (by decide) (by decide), by
    have en : (a - -1).toNat = (a + 1).toNat := by omega
    rw [en]
    refine ⟨fun i m σ' H' => m = (a + 1).toNat - i ∧ i ≤ (a + 1).toNat ∧ Pv i σ' H', ⟨(a + 1).toNat, by simp, Nat.zero_le _, h0 H1 e⟩, ?_⟩
    rintro i m σ' H' ⟨rfl, hi, p⟩
    by_cases hlt : i < (a + 1).toNat
    · refine .inr ⟨hlt, Pv (i + 1), fun σ2 H2 p' => ⟨(a + 1).toNat - (i + 1), by omega, rfl, hlt, p'⟩, fun y H2 hy => ?_⟩
      obtain ⟨rfl, rfl⟩ := hy
      have := hs i σ' H2 (by omega) p
      have ez : a + (i : Int) * -1 = a - (i : Int) := by omega
      show tu _ (σ'.set j (some (.int (a + (i : Int) * -1)))) H2
      rw [ez]
      exact this
    · have ei : i = (a + 1).toNat := by omega
      subst ei
      exact .inl ⟨Nat.le_refl _, hd σ' H' p⟩⟩
theorem rv_shr {H : Hp} {h k : Nat} : RV (fun x y H Q => ∃ (i : Int) (k : Nat), x = .int i ∧ y = .int (k : Int) ∧ Q (.int (i / 2 ^ k)) H) (.int (h : Nat)) (.int (k : Nat)) H (.int ((h / 2 ^ k : Nat) : Int)) := fun H1 _ _ q => ⟨h, k, rfl, rfl, by
  have e : ((h : Nat) : Int) / 2 ^ k = ((h / 2 ^ k : Nat) : Int) := by
    rw [Int.natCast_ediv, Int.natCast_pow]
    rfl
  rw [e]
  exact q H1 (Ex.refl H1)⟩
theorem rv_odd {H : Hp} {h : Nat} : RV (fun x y H Q => ∃ n : Nat, x = .int (n : Int) ∧ y = .int 1 ∧ Q (.int ((n % 2 : Nat) : Int)) H) (.int (h : Nat)) (.int 1) H (.int ((h % 2 : Nat) : Int)) := fun H1 _ _ q => ⟨h, rfl, rfl, q H1 (Ex.refl H1)⟩
theorem rv_one {H : Hp} {k : Nat} (hk : k ≤ 1000) : RV (fun x y H Q => ∃ k : Nat, x = .int 1 ∧ y = .int (k : Int) ∧ k ≤ 134217727 ∧ Q (.int (2 ^ k)) H) (.int 1) (.int (k : Nat)) H (.int ((2 ^ k : Nat) : Int)) := fun H1 _ _ q => ⟨k, rfl, rfl, by omega, by
  have e : (2 : Int) ^ k = ((2 ^ k : Nat) : Int) := by rw [Int.natCast_pow]; rfl
  rw [e]
  exact q H1 (Ex.refl H1)⟩
theorem bitor_nat (x y : Nat) : Builtin.bitOr (x : Int) (y : Int) = ((x ||| y : Nat) : Int) := by
  have n1 : ∀ z : Nat, Builtin.bitNot (z : Int) = -(z : Int) - 1 := fun z => rfl
  have n2 : ∀ z : Nat, Builtin.bitNot (-(z : Int) - 1) = (z : Int) := fun z => by
    show -(-(z : Int) - 1) - 1 = (z : Int)
    omega
  unfold Builtin.bitOr
  rw [n1, n1]
  unfold Builtin.bitAnd
  rw [decide_eq_false (by omega : ¬ (0 : Int) ≤ -(x : Int) - 1), decide_eq_false (by omega : ¬ (0 : Int) ≤ -(y : Int) - 1)]
  show Builtin.bitNot (Builtin.bitNot (((Builtin.bitNot (-(x : Int) - 1)).toNat ||| (Builtin.bitNot (-(y : Int) - 1)).toNat : Nat) : Int)) = _
  rw [n2, n2, Int.toNat_natCast, Int.toNat_natCast, n1, n2]
theorem rv_or {H : Hp} {x y : Nat} : RV (rI0 fun i j => .int (Builtin.bitOr i j)) (.int (x : Nat)) (.int (y : Nat)) H (.int ((x ||| y : Nat) : Int)) := fun H1 _ _ q => ⟨x, y, rfl, rfl, by have z := q H1 (Ex.refl H1); rw [← bitor_nat] at z; exact z⟩
section
variable {P : Program} {w : World} {K : PySem.W.Frag} {mg : Str → Option Value} {base : Heap}
def spWith : Sp := fun vs H Q _ => ∃ h a : Nat, vs = [.int (h : Nat), .int (a : Nat)] ∧ a ≤ 1000 ∧ ∀ H', Ex H H' → Q (.int ((h ||| 2 ^ a : Nat) : Int)) H'
theorem spV_with {h a : Nat} {H : Hp} (ha : a ≤ 1000) : SpV spWith [.int (h : Nat), .int (a : Nat)] H (.int ((h ||| 2 ^ a : Nat) : Int)) := fun H1 _ Q q _ => ⟨h, a, rfl, ha, q⟩
theorem ok_with_window {f : Addr} {fd : FuncData} {k : Nat} (F : Fun K "with_window" "with_window" s_with_window f fd) (T : Top K mg) : FnOk P w K mg base CX0 (k + 1) f fd ["held", "at"] spWith := by
  have nd := sc_with_window.nd
  refine F.ok sc_with_window (fun vs H Q E h => ?_) (fun cdv A outer s H vs Q E hr h => ?_)
  · obtain ⟨h, a, rfl, _⟩ := h
    rfl
  · obtain ⟨h, a, rfl, ha, q⟩ := h
    refine ⟨_, (pss_one (ps_ret (pe_op op_or (pv 0) (pe_op op_oneShl pe_int (pv 1))))), ?_⟩
    exact s_ret (ev_op (ev_var rfl) (ev_op ev_c (ev_var rfl) (rv_one ha)) rv_or) fun H1 e1 => q H1 e1
def spNext (K : PySem.W.Frag) : Sp := fun vs H Q _ => ∃ (l : Addr) (qs : List Win) (h : Nat), vs = [.ref l, .int (h : Nat)] ∧ SqL K H l (refs qs) ∧ TW H qs ∧ qs.length ≤ 1000 ∧ ∀ H' p, H p = none → Ex H H' → H' p = some (.lst ((natI (nxtN (wsOf qs) h)).map V.int)) → Q (.ref p) H'
theorem spL_next {l : Addr} {qs : List Win} {h : Nat} {H : Hp} (hl : SqL K H l (refs qs)) (ht : TW H qs) (hn : qs.length ≤ 1000) : SpL (spNext K) [.ref l, .int (h : Nat)] H ((natI (nxtN (wsOf qs) h)).map V.int) :=
  fun H1 e Q q _ => ⟨l, qs, h, rfl, ex_l e hl, ht.ex e, hn, fun H' p hp e' h' => q p H' hp e' h'⟩
theorem ok_next_windows {f : Addr} {fd : FuncData} {k : Nat} (F : Fun K "next_windows" "next_windows" s_next_windows f fd) (T : Top K mg) : FnOk P w K mg base CX0 (k + 1) f fd ["windows", "held"] (spNext K) := by
  have nd := sc_next_windows.nd
  refine F.ok sc_next_windows (fun vs H Q E h => ?_) (fun cdv A outer s H vs Q E hr h => ?_)
  · obtain ⟨l, qs, h, rfl, _⟩ := h
    rfl
  · obtain ⟨l, qs, h, rfl, hl, ht, hn, q⟩ := h
    refine ⟨_, (pss_cons (ps_setLc (i := 2) (own := [("at", 4)]) (g := gName 4) (tt := _) rfl nd rfl rfl (sw_true rfl rfl rfl (by decide +kernel)) (pi_range1 rfl T.m_range (pa_cons (pe_callB call_len_seq (by rfl) T.m_len PySem.boot_len (pa_cons (pv 0) pa_nil)) pa_nil)) (blkOk_by (own := [("at", 4)]) (N := Su.N_next_windows) (sc := defScope s_next_windows) (by decide +kernel)) (fun _ _ _ _ _ => (pg_name (i := 4) nd rfl (.inl rfl))) (fun _ _ _ _ _ => (pts_one (pt_cmpR op_eq (pe_op op_odd (pe_op op_shrN (pv 1) (pv 4)) pe_int) pe_int (nomark _)))) (fun _ _ _ _ _ => (pv 4)))
      (pss_cons (ps_set (i := 3) nd rfl (.inr rfl) (pe_op op_add (pe_op op_sub (pe_callB call_len_seq (by rfl) T.m_len PySem.boot_len (pa_cons (pv 0) pa_nil)) (pe_callB call_len_seq (by rfl) T.m_len PySem.boot_len (pa_cons (pv 2) pa_nil))) pe_int))
      (pss_one (ps_ret (pe_lc (own := [("at", 4)]) (g := gName 4) (tt := _) rfl nd (pi_list (pv 2)) (blkOk_by (own := [("at", 4)]) (N := Su.N_next_windows) (sc := defScope s_next_windows) (by decide +kernel)) (fun _ _ _ _ _ => (pg_name (i := 4) nd rfl (.inl rfl))) (fun _ _ _ _ _ => (pts_one (pt_chain op_le op_le (pe_ix (ix_tupK (K := K) rfl) (pe_ix (ix_listK (K := K) rfl) (pv 0) (pv 4) (fun _ _ => rfl)) pe_int (fun _ _ => rfl)) (pv 3) (pe_ix (ix_tupK (K := K) rfl) (pe_ix (ix_listK (K := K) rfl) (pv 0) (pv 4) (fun _ _ => rfl)) pe_int (fun _ _ => rfl))))) (fun _ _ _ _ _ => (pv 4))))))), ?_⟩
    have hlen : ∀ {H1 : Hp} {σ : L2.St} {te : TE}, Ex H H1 → Ev te σ H1 (.ref l) → Ev (tCB (rLenS K) (tCons te tNil)) σ H1 (.int ((wsOf qs).length : Int)) := fun e h => ev_is (ev_len h (ex_l e hl)) (congrArg (fun n : Nat => V.int (n : Int)) (refs_len.trans ws_len.symm))
    refine q_asgL (xs := (natI (freeN (wsOf qs).length h)).map V.int) ?_ fun fr H1 hfr e1 h1 => ?_
    · rw [natI_int, show (freeN (wsOf qs).length h).map (fun k : Nat => V.int (k : Nat)) = given (((wsOf qs).length : Int)).toNat (fun k => !h.testBit k) (fun k : Nat => V.int (k : Nat)) from rfl]
      refine el_lcR1 _ _ (ea_cons (hlen (Ex.refl H) (ev_var rfl)) ea_nil) (by rw [ws_len]; omega) (fun x => rfl) (fun i Hb eb hi => ?_) (fun i Hb eb hi _ => ev_var rfl)
      refine et_is (et_test (ev_op (ev_op (ev_op (ev_var rfl) (ev_var rfl) rv_shr) ev_c rv_odd) ev_c (rv_eq rfl))) ?_
      rw [show V.int 0 = V.int ((0 : Nat) : Int) from rfl, nat_eqd, bit_of]
      cases h.testBit i <;> rfl
    have hl1 := ex_l e1 hl
    refine q_asg (v := .int (turnN (wsOf qs).length h)) (ev_is (ev_op (ev_op (hlen e1 (ev_var rfl)) (ev_len (ev_var rfl) (sq_of h1)) rv_I0) ev_c rv_I0) (by rw [List.length_map, natI_len]; rfl)) fun H2 e2 => ?_
    have h2 := e2 _ _ h1
    have hl2 := ex_l e2 hl1
    have ht2 := ht.ex (e1.trans e2)
    refine s_retL (xs := (natI (nxtN (wsOf qs) h)).map V.int) ?_ fun p H3 hp e3 h3 => q H3 p (fresh_back (e1.trans e2) hp) ((e1.trans e2).trans e3) h3
    have hfree : (freeN (wsOf qs).length h).length ≤ qs.length := by
      have := List.length_filter_le (fun k => !h.testBit k) (List.range (wsOf qs).length)
      rw [List.length_range, ws_len] at this
      rw [ws_len]
      exact this
    rw [natI_int, nxtN, ← nat_given, show (freeN (wsOf qs).length h).length = ((natI (freeN (wsOf qs).length h)).map V.int).length by rw [List.length_map, natI_len]]
    refine el_lcL _ _ (ev_var rfl) (sq_of h2) (by rw [List.length_map, natI_len]; omega) (fun x => rfl) (fun i x Hb eb gx => ?_) (fun i x Hb eb gx _ => ?_)
    · obtain ⟨k, rfl, gk, ek⟩ := nat_at gx
      have hk := (free_mem.mp (List.mem_of_getElem? gk)).1
      rw [ws_len] at hk
      obtain ⟨w, gw⟩ : ∃ w, qs[k]? = some w := ⟨_, List.getElem?_eq_getElem hk⟩
      have hw := ht2.ex eb w (List.mem_of_getElem? gw)
      have hlb := ex_l eb hl2
      rw [ek]
      have hv : fitN (wsOf qs) (turnN (wsOf qs).length h) k = (decide (w.2.1 ≤ turnN (wsOf qs).length h) && decide (turnN (wsOf qs).length h ≤ w.2.2)) := by
        unfold fitN
        rw [ws_at gw]
      rw [hv]
      exact et_chain (ev_w0 (ev_win (ev_var rfl) (ev_var rfl) hlb gw) hw) (ev_var rfl) (ev_w1 (ev_win (ev_var rfl) (ev_var rfl) hlb gw) hw)
    · obtain ⟨k, rfl, gk, ek⟩ := nat_at gx
      rw [ek]
      exact ev_var rfl
def spWays (K : PySem.W.Frag) : Sp := fun vs H Q _ => ∃ (l : Addr) (qs : List Win), vs = [.ref l] ∧ SqL K H l (refs qs) ∧ TW H qs ∧ qs.length ≤ 8 ∧ ∀ H' p, H p = none → Ex H H' → H' p = some (.lst ((wayL (wsOf qs)).map V.int)) → Q (.ref p) H'
theorem spL_ways {l : Addr} {qs : List Win} {H : Hp} (hl : SqL K H l (refs qs)) (ht : TW H qs) (hn : qs.length ≤ 8) : SpL (spWays K) [.ref l] H ((wayL (wsOf qs)).map V.int) :=
  fun H1 e Q q _ => ⟨l, qs, rfl, ex_l e hl, ht.ex e, hn, fun H' p hp e' h' => q p H' hp e' h'⟩
theorem nxt_len (ws : List (Int × Int)) (h : Nat) : (nxtN ws h).length ≤ ws.length := by
  have h1 := List.length_filter_le (fitN ws (turnN ws.length h)) (freeN ws.length h)
  have h2 := List.length_filter_le (fun k => !h.testBit k) (List.range ws.length)
  rw [List.length_range] at h2
  exact Nat.le_trans h1 h2
theorem ok_ways_on {f : Addr} {fd : FuncData} (F : Fun K "ways_on" "ways_on" s_ways_on f fd) (T : Top K mg) : FnOk P w K mg base CX0 2 f fd ["windows"] (spWays K) := by
  have nd := sc_ways_on.nd
  have G_next_windows : FnOk P w K mg base CX0 1 T.f_next_windows T.fd_next_windows ["windows", "held"] (spNext K) := ok_next_windows T.F_next_windows T
  have G_with_window : FnOk P w K mg base CX0 1 T.f_with_window T.fd_with_window ["held", "at"] spWith := ok_with_window T.F_with_window T
  refine F.ok sc_ways_on (fun vs H Q E h => ?_) (fun cdv A outer s H vs Q E hr h => ?_)
  · obtain ⟨l, qs, rfl, _⟩ := h
    rfl
  · obtain ⟨l, qs, rfl, hl, ht, hn, q⟩ := h
    refine ⟨_, (pss_cons (ps_set (i := 1) nd rfl (.inl rfl) (pe_op op_sub (pe_op op_oneShl pe_int (pe_callB call_len_seq (by rfl) T.m_len PySem.boot_len (pa_cons (pv 0) pa_nil))) pe_int))
      (pss_cons (ps_set (i := 2) nd rfl (.inr rfl) (pe_op op_cat (pe_op op_rep (pe_lst (pa_cons pe_int pa_nil)) (pv 1)) (pe_lst (pa_cons pe_int pa_nil))))
      (pss_cons (ps_for PassesOwn.never rfl (pi_range3 rfl T.m_range (pa_cons (pe_op op_sub (pv 1) pe_int) (pa_cons (pe_un un_neg pe_int) (pa_cons (pe_un un_neg pe_int) pa_nil)))) (pg_name (i := 3) nd rfl (.inr rfl))
        (pss_one (ps_asg (pe_callB (cr_sum rfl) (by rfl) T.m_sum (by decide +kernel) (pa_cons (pe_lc (own := [("at", 4)]) (g := gName 4) (tt := tYes) rfl nd (pi_list (pe_call G_next_windows (hr.mono (by decide)) (by rfl) T.m_next_windows T.F_next_windows.kp T.b_next_windows .nil pass0 (pa_cons (pv 0) (pa_cons (pv 3) pa_nil)))) (blkOk_by (own := [("at", 4)]) (N := Su.N_ways_on) (sc := defScope s_ways_on) (by decide +kernel)) (fun _ _ _ _ _ => (pg_name (i := 4) nd rfl (.inl rfl))) (fun _ _ _ _ _ => pts_nil) (fun _ _ _ _ _ => (pe_ix (ix_listK (K := K) rfl) (pv 2) (pe_call G_with_window (hr.mono (by decide)) (by rfl) T.m_with_window T.F_with_window.kp T.b_with_window .nil pass0 (pa_cons (pv 3) (pa_cons (pv 4) pa_nil))) (fun _ _ => rfl)))) pa_nil)) (pg_sub (pv 2) (pv 3) set_list))))
      (pss_one (ps_ret (pv 2)))))), ?_⟩
    have hp2 : 2 ^ qs.length ≤ 2 ^ 8 := Nat.pow_le_pow_right (by decide) hn
    have hp1 : 1 ≤ 2 ^ qs.length := Nat.one_le_two_pow
    obtain ⟨fu, hfu⟩ : ∃ fu : Nat, 2 ^ qs.length = fu + 1 := ⟨2 ^ qs.length - 1, by omega⟩
    have hfu8 : fu < 256 := by
      rw [hfu] at hp2
      have : (2 : Nat) ^ 8 = 256 := by decide
      omega
    refine q_asg (v := .int (fu : Nat)) (ev_is (ev_op (ev_op ev_c (ev_is (ev_len (ev_var rfl) hl) (congrArg (fun n : Nat => V.int (n : Int)) refs_len)) (rv_one (by omega))) ev_c rv_I0) (by rw [hfu]; exact congrArg V.int (by omega))) fun H1 e1 => ?_
    refine q_asgL (xs := (List.replicate fu (0 : Int) ++ [1]).map V.int) ?_ fun p H2 hp e2 h2 => ?_
    · have := el_cat (ta := tOp rRep (tLst (tCons (tC (V.int 0)) tNil)) (tVar 1)) (tb := tLst (tCons (tC (V.int 1)) tNil)) (σ := [some (.ref l), some (.int (fu : Nat)), none, none, none]) (H := H1) (el_rep1 (k := (fu : Nat)) (el_lst (ea_cons ev_c ea_nil) (by show 1 ≤ 100000; decide)) (ev_var rfl) (by omega) (by omega)) (el_lst (ea_cons ev_c ea_nil) (by show 1 ≤ 100000; decide)) (by rw [List.length_replicate]; show _ + 1 ≤ _; omega)
      rw [Int.toNat_natCast] at this
      rw [List.map_append, List.map_replicate]
      exact this
    have e12 := e1.trans e2
    refine s_forDown (a := (fu : Int) - 1) (ea_cons (ev_op (ev_var rfl) ev_c rv_I0) (ea_cons (ev_un ev_c ru_neg) (ea_cons (ev_un ev_c ru_neg) ea_nil))) (by omega) (fun i σ' H' => ∃ (L : List Int) (y : Option V), σ' = [some (.ref l), some (.int (fu : Nat)), some (.ref p), y, none] ∧ Ex H H' ∧ H' p = some (.lst (L.map V.int)) ∧ L.length = fu + 1 ∧ ∀ x, fu - i ≤ x → x ≤ fu → L[x]? = some (way (wsOf qs) x)) ?_ ?_ ?_
    · intro H3 e3
      refine ⟨List.replicate fu (0 : Int) ++ [1], none, rfl, e12.trans e3, e3 _ _ h2, by rw [List.length_append, List.length_replicate]; rfl, fun x h1 h2 => ?_⟩
      obtain rfl : x = fu := by omega
      rw [way_full (by rw [show x = 2 ^ (wsOf qs).length - 1 by rw [ws_len, hfu]; rfl]; exact free_full _), List.getElem?_append_right (by rw [List.length_replicate]; exact Nat.le_refl _), List.length_replicate, Nat.sub_self]
      rfl
    · rintro i σ' H' hi ⟨L, y, rfl, ex, hL, hLl, hLw⟩
      obtain ⟨h, hh⟩ : ∃ h : Nat, (fu : Int) - 1 - (i : Int) = (h : Int) := ⟨((fu : Int) - 1 - (i : Int)).toNat, by omega⟩
      rw [hh]
      have hhf : h < fu := by omega
      have hne : freeN (wsOf qs).length h ≠ [] := free_some (by rw [ws_len, hfu]; exact hhf)
      have hl' := ex_l ex hl
      have ht' := ht.ex ex
      refine s_asgSub (v := .int (way (wsOf qs) h)) hL ?_ (ev_var rfl) (ev_var rfl) rfl (by rw [List.length_map]; omega) fun H3 e3 => ?_
      · rw [way_step hne]
        refine ev_sumN ?_
        rw [List.map_map, ← nat_given1, show (nxtN (wsOf qs) h).length = ((natI (nxtN (wsOf qs) h)).map V.int).length by rw [List.length_map, natI_len]]
        refine el_lcNL _ _ (el_call (ea_cons (ev_var rfl) (ea_cons (ev_var rfl) ea_nil)) (spL_next hl' ht' (by omega))) (by rw [List.length_map, natI_len]; have := nxt_len (wsOf qs) h; rw [ws_len] at this; omega) (fun x => rfl) (fun i x Hb eb gx => et_yes) (fun i x Hb eb gx _ => ?_)
        obtain ⟨k, rfl, gk, ek⟩ := nat_at gx
        have hk := List.mem_of_getElem? gk
        have hk1 := nxt_lt hk
        rw [ws_len] at hk1
        rw [ek]
        have hg : h < h ||| 2 ^ k := or_gt (free_mem.mp (nxt_free hk)).2
        have hlt := or_lt (n := qs.length) (h := h) (k := k) (by omega) hk1
        exact ev_op (ev_var rfl) (ev_call (ea_cons (ev_var rfl) (ea_cons (ev_var rfl) ea_nil)) (spV_with (by omega))) (rv_ixL (sq_of (eb _ _ hL)) (ints_at (hLw _ (by omega) (by omega))))
      · refine ⟨L.set h (way (wsOf qs) h), _, rfl, ex_up (ex.trans e3) (fresh_back e1 hp), ?_, by rw [List.length_set]; exact hLl, fun x h1 h2 => ?_⟩
        · rw [upd_same, ints_set]
        · rw [List.getElem?_set]
          by_cases hx : h = x
          · subst hx
            rw [if_pos rfl, if_pos (by omega)]
          · rw [if_neg hx]
            exact hLw x (by omega) h2
    · rintro σ' H' ⟨L, y, rfl, ex, hL, hLl, hLw⟩
      refine s_ret (ev_var rfl) fun H3 e3 => ?_
      refine q H3 p (fresh_back e1 hp) (ex.trans e3) ?_
      rw [e3 _ _ hL]
      have : L = wayL (wsOf qs) := by
        apply List.ext_getElem?
        intro x
        by_cases hx : x ≤ fu
        · rw [hLw x (by omega) hx, wayL_at (by rw [ws_len, hfu]; omega)]
        · rw [List.getElem?_eq_none (by omega), List.getElem?_eq_none (by unfold wayL; rw [List.length_map, List.length_range, ws_len, hfu]; omega)]
      rw [this]
end

end Su
namespace Su
/-! ### counted, told by number, numbered -/
theorem inR_fit {ws : List (Int × Int)} {r : List Nat} {i a : Nat} (e : r[i]? = some a) : inRound ws (natI r) i = fitN ws (1 + (i : Int)) a := by
  unfold inRound fitN natI
  rw [List.getElem?_map, e]
  show (match ws[((a : Nat) : Int).toNat]? with | some w => _ | none => _) = _
  rw [Int.toNat_natCast]
theorem ord_path {ws : List (Int × Int)} {ns : List Int} (h : isOrd ws ns = true) : ∃ r : List Nat, ns = natI r ∧ Path ws 0 r ∧ r.length = ws.length := by
  unfold isOrd at h
  rw [Bool.and_eq_true] at h
  obtain ⟨h1, h2⟩ := h
  have hp := (sortI_eq ns ws.length).mp (of_decide_eq_true h1)
  have hn : ns = natI (ns.map Int.toNat) := by
    unfold natI
    rw [List.map_map]
    conv => lhs; rw [← List.map_id ns]
    apply List.map_congr_left
    intro z hz
    obtain ⟨j, rfl, _⟩ := in_rg (hp.mem_iff.mp hz)
    show ((j : Nat) : Int) = ((((j : Nat) : Int).toNat : Nat) : Int)
    rw [Int.toNat_natCast]
  generalize ns.map Int.toNat = r at hn
  subst hn
  have hr := nat_perm.mp hp
  have hlen : r.length = ws.length := by rw [hr.length_eq, List.length_range]
  refine ⟨r, rfl, path_of r 0 ?_ fun j a e => ?_, hlen⟩
  · rw [free_zero]
    exact hr.symm
  · have hj : j < r.length := (List.getElem?_eq_some_iff.mp e).1
    have h3 := List.all_eq_true.mp h2 (inRound ws (natI r) j) (List.mem_map.mpr ⟨j, List.mem_range.mpr (by rw [natI_len]; exact hj), rfl⟩)
    have h4 : inRound ws (natI r) j = true := h3
    rw [inR_fit e] at h4
    rw [hlen, show (ws.length : Int) - (ws.length : Int) + 1 + (j : Int) = 1 + (j : Int) by omega]
    exact h4
theorem path_full {ws : List (Int × Int)} {r : List Nat} (p : Path ws 0 r) : r.length = ws.length := by
  rw [path_len r 0 p, free_zero, List.length_range]
theorem path_ord {ws : List (Int × Int)} {r : List Nat} (p : Path ws 0 r) : isOrd ws (natI r) = true := by
  have hlen := path_full p
  have hp := path_perm r 0 p
  rw [free_zero] at hp
  unfold isOrd
  rw [decide_eq_true ((sortI_eq _ _).mpr (nat_perm.mpr hp.symm)), Bool.true_and, List.all_eq_true]
  intro b hb
  obtain ⟨j, hj, rfl⟩ := List.mem_map.mp hb
  have hj := List.mem_range.mp hj
  rw [natI_len] at hj
  obtain ⟨a, ha⟩ : ∃ a, r[j]? = some a := ⟨_, List.getElem?_eq_getElem hj⟩
  have h4 := path_fit r 0 p j a ha
  rw [hlen, show (ws.length : Int) - (ws.length : Int) + 1 + (j : Int) = 1 + (j : Int) by omega] at h4
  show inRound ws (natI r) j = true
  rw [inR_fit ha]
  exact h4
section
variable {P : Program} {w : World} {K : PySem.W.Frag} {mg : Str → Option Value} {base : Heap}
def spRefuse (K : PySem.W.Frag) (fT : Addr) : Sp := fun vs H Q E => ∃ (l : Addr) (xs : List V), vs = [.ref l] ∧ SqL K H l xs ∧ (xs.length ≤ 8 → ∀ H', Ex H H' → Q .non H') ∧ (8 < xs.length → ∀ H', Ex H H' → E (.ref fT) none H')
theorem okx_refuse_many {f : Addr} {fd : FuncData} {k : Nat} (F : Fun K "refuse_many" "refuse_many" s_refuse_many f fd) (T : Top K mg) : FnOk P w K mg base (L2.CX P w) (k + 1) f fd ["windows"] (spRefuse K T.f_TooMany) := by
  have nd := sc_refuse_many.nd
  refine F.okX sc_refuse_many (fun vs H Q E h => ?_) (fun cdv A outer s H vs Q E hr h => ?_)
  · obtain ⟨l, xs, rfl, _⟩ := h
    rfl
  · obtain ⟨l, xs, rfl, hl, q, qx⟩ := h
    refine ⟨_, (pss_one (ps_if (pt_cmpR op_gt (pe_callB call_len_seq (by rfl) T.m_len PySem.boot_len (pa_cons (pv 0) pa_nil)) (pe_glob (v := .int 8) (by rfl) T.m_MOST_WINDOWS ⟨_, rfl⟩) (nomark _))
        (pss_one (ps_raise rfl (takes_of rfl rfl rfl rfl) (pmk_own0 PySem.F.excBase_ValueError T.x_TooMany T.m_TooMany T.kp_TooMany (raises_own T.sb_TooMany T.ty_TooMany) (by rfl))))
        pss_nil)), ?_⟩
    refine s_when (b := decide ((xs.length : Int) > 8)) (et_test (ev_op (ev_len (ev_var rfl) hl) ev_c rv_I0)) (fun hb H1 e1 => ?_) (fun hb H1 e1 => ?_)
    · exact qx (by have := of_decide_eq_true hb; omega) H1 e1
    · exact q (by have := of_decide_eq_false hb; omega) H1 e1
/-- the call of refuse_many that stands ahead -/
theorem q_refuse {fT l : Addr} {qs : List Win} {E : XK} {ta : TA} {σ : L2.St} {H : Hp} {D : Ends} {tz : TS} (h : EvA ta σ H [.ref l]) (hl : SqL K H l (refs qs)) (h1 : qs.length ≤ 8 → ∀ H1, Ex H H1 → tz D σ H1) (h2 : 8 < qs.length → ∀ H1, Ex H H1 → E (.ref fT) none H1) :
    tSeq (tDrop (tCall (spRefuse K fT) [] E ta)) tz D σ H := h H (Ex.refl H) _ fun H1 e1 => ⟨l, refs qs, rfl, ex_l e1 hl, fun hn H2 e2 => h1 (by rw [refs_len] at hn; exact hn) H2 (e1.trans e2), fun hn H2 e2 => h2 (by rw [refs_len] at hn; exact hn) H2 (e1.trans e2)⟩
def spCount (K : PySem.W.Frag) (fT : Addr) : Sp := fun vs H Q E => ∃ (l : Addr) (qs : List Win), vs = [.ref l] ∧ SqL K H l (refs qs) ∧ TW H qs ∧ (qs.length ≤ 8 → ∀ H', Ex H H' → Q (.int (way (wsOf qs) 0)) H') ∧ (8 < qs.length → ∀ H', Ex H H' → E (.ref fT) none H')
theorem okx_count_orders {f : Addr} {fd : FuncData} (F : Fun K "count_orders" "count_orders" s_count_orders f fd) (T : Top K mg) : FnOk P w K mg base (L2.CX P w) 3 f fd ["windows"] (spCount K T.f_TooMany) := by
  have nd := sc_count_orders.nd
  have G_refuse_many : FnOk P w K mg base (L2.CX P w) 1 T.f_refuse_many T.fd_refuse_many ["windows"] (spRefuse K T.f_TooMany) := okx_refuse_many T.F_refuse_many T
  have G_ways_on : FnOk P w K mg base CX0 2 T.f_ways_on T.fd_ways_on ["windows"] (spWays K) := ok_ways_on T.F_ways_on T
  refine F.okX sc_count_orders (fun vs H Q E h => ?_) (fun cdv A outer s H vs Q E hr h => ?_)
  · obtain ⟨l, qs, rfl, _⟩ := h
    rfl
  · obtain ⟨l, qs, rfl, hl, ht, q, qx⟩ := h
    refine ⟨_, (pss_cons (ps_expr (pe_call G_refuse_many (hr.mono (by decide)) (by rfl) T.m_refuse_many T.F_refuse_many.kp T.b_refuse_many .nil (passes_call (takes_of rfl rfl rfl rfl) (fun _ _ _ _ h => h)) (pa_cons (pv 0) pa_nil)))
      (pss_one (ps_ret (pe_ix ix_list (pe_call G_ways_on (hr.mono (by decide)) (by rfl) T.m_ways_on T.F_ways_on.kp T.b_ways_on .nil pass0 (pa_cons (pv 0) pa_nil)) pe_int (fun _ _ => rfl))))), ?_⟩
    refine q_refuse (ea_cons (ev_var rfl) ea_nil) hl (fun hn H1 e1 => ?_) qx
    exact s_ret (ev_opL1 (el_call (ea_cons (ev_var rfl) ea_nil) (spL_ways (ex_l e1 hl) (ht.ex e1) hn)) (fun H2 e2 => ev_c) fun p H2 h2 e2 => rv_ixL (sq_of h2) (ints_at (h := 0) (wayL_at Nat.one_le_two_pow))) fun H2 e2 => q hn H2 (e1.trans e2)
end

end Su
namespace Su
section
variable {P : Program} {w : World} {K : PySem.W.Frag} {mg : Str → Option Value} {base : Heap}
def WinB (n : Nat) (qs : List Win) : Prop := qs.length = n ∧ ∀ q ∈ qs, 1 ≤ q.2.1 ∧ q.2.1 ≤ n ∧ 1 ≤ q.2.2 ∧ q.2.2 ≤ n
def spWideB (K : PySem.W.Frag) : Sp := fun vs H Q _ => ∃ (a : Addr) (rows : List Int) (n : Nat), vs = [.ref a, .int (n : Int)] ∧ SqL K H a (rows.map V.int) ∧ 2 * n ≤ rows.length ∧ 1 ≤ n ∧ n ≤ 1000 ∧
  ∀ qs H' p, H p = none → Ex H H' → H' p = some (.lst (refs qs)) → TW H' qs → WinB n qs → Q (.ref p) H'
theorem ok__law_wide {f : Addr} {fd : FuncData} {k : Nat} (F : Fun K "_law_wide" "_law_wide" s__law_wide f fd) (T : Top K mg) : FnOk P w K mg base CX0 (k + 1) f fd ["_law_some", "_law_size"] (spWideB K) := by
  have nd := sc__law_wide.nd
  refine F.ok sc__law_wide (fun vs H Q E h => ?_) (fun cdv A outer s H vs Q E hr h => ?_)
  · obtain ⟨a, rows, n, rfl, _⟩ := h
    rfl
  · obtain ⟨a, rows, n, rfl, hS, hlen, n1, n2, q⟩ := h
    refine ⟨_, (pss_cons (ps_set (i := 2) nd rfl (.inl rfl) (pe_lst pa_nil))
      (pss_cons (ps_for PassesOwn.never rfl (pi_range1 rfl T.m_range (pa_cons (pv 1) pa_nil)) (pg_name (i := 3) nd rfl (.inl rfl))
        (pss_cons (ps_set (i := 4) nd rfl (.inl rfl) (pe_op op_add pe_int (pe_op op_mul (pe_op op_mod (pe_ix ix_list (pv 0) (pe_op op_mul pe_int (pv 3)) (fun _ _ => rfl)) (pv 1)) (pe_op op_mod (pe_op op_fdiv (pe_ix ix_list (pv 0) (pe_op op_mul pe_int (pv 3)) (fun _ _ => rfl)) pe_int) pe_int))))
          (pss_cons (ps_set (i := 5) nd rfl (.inl rfl) (pe_op op_sub (pv 1) (pe_op op_mul (pe_op op_mod (pe_ix ix_list (pv 0) (pe_op op_add (pe_op op_mul pe_int (pv 3)) pe_int) (fun _ _ => rfl)) (pv 1)) (pe_op op_mod (pe_op op_fdiv (pe_ix ix_list (pv 0) (pe_op op_add (pe_op op_mul pe_int (pv 3)) pe_int) (fun _ _ => rfl)) pe_int) pe_int))))
          (pss_one (ps_expr (pe_bm PySem.F.plainAttrs_list PySem.F.slot_list_append PySem.F.type_list_append mt_append (pv 2) (pa_cons (pe_tup (pa_cons (pv 4) (pa_cons (pv 5) pa_nil))) pa_nil)))))))
      (pss_one (ps_ret (pv 2))))), ?_⟩
    refine q_asgL (el_lst ea_nil (by decide)) fun p H1 hp e1 h1 => ?_
    refine q_forR1 (by walk_at "ea") (by omega) (fun i σ' H' => ∃ (qs : List Win) (y3 y4 y5 : Option V), σ' = [some (.ref a), some (.int (n : Int)), some (.ref p), y3, y4, y5] ∧ Ex H H' ∧ H' p = some (.lst (refs qs)) ∧ TW H' qs ∧ qs.length = i ∧ ∀ q ∈ qs, 1 ≤ q.2.1 ∧ q.2.1 ≤ n ∧ 1 ≤ q.2.2 ∧ q.2.2 ≤ n) ?_ ?_ ?_
    · intro H2 e2
      exact ⟨[], none, none, none, rfl, e1.trans e2, e2 p _ h1, TW.nil, rfl, fun q hq => absurd hq List.not_mem_nil⟩
    · rintro i σ' H' hi ⟨qs, y3, y4, y5, rfl, ex, hp', ht, hl, hb⟩
      have hs := ex_l ex hS
      have r1 : atI (rows.map V.int) (2 * (i : Int)) = some (.int (rows.getD (2 * (i : Int)).toNat 0)) := Su.at_rows (by omega) (by omega)
      have r2 : atI (rows.map V.int) (2 * (i : Int) + 1) = some (.int (rows.getD (2 * (i : Int) + 1).toNat 0)) := Su.at_rows (by omega) (by omega)
      generalize rows.getD (2 * (i : Int)).toNat 0 = x1 at r1
      generalize rows.getD (2 * (i : Int) + 1).toNat 0 = x2 at r2
      have f1 := Int.emod_nonneg x1 (show (n : Int) ≠ 0 by omega)
      have f2 := Int.emod_lt_of_pos x1 (show 0 < (n : Int) by omega)
      have g1 := Int.emod_nonneg x2 (show (n : Int) ≠ 0 by omega)
      have g2 := Int.emod_lt_of_pos x2 (show 0 < (n : Int) by omega)
      have i2 : ∀ {H2 : Hp} {σ : L2.St}, Ex H' H2 → σ[0]? = some (some (.ref a)) → σ[3]? = some (some (.int (i : Int))) → Ev (tOp (rIxL K) (tVar 0) (tOp (rI CMul fun i j => .int (i * j)) (tC (.int 2)) (tVar 3))) σ H2 (.int x1) := fun e h0 h3 => ev_op (ev_var h0) (ev_op ev_c (ev_var h3) (Su.rv_mul (Su.CMul.l (by decide) (by decide)))) (rv_ixL (ex_l e hs) r1)
      refine q_asg (v := .int (1 + x1 % (n : Int) * (x1 / 7 % 2))) (ev_op ev_c (ev_op (ev_op (i2 (Ex.refl _) rfl rfl) (ev_var rfl) (Su.rv_mod (by omega))) (ev_op (ev_op (i2 (Ex.refl _) rfl rfl) ev_c (Su.rv_div (by decide) (by decide))) ev_c (Su.rv_mod (by decide))) (Su.rv_mul (Su.CMul.l (by omega) (by omega)))) rv_I0) fun H2 e2 => ?_
      have i3 : ∀ {H3 : Hp} {σ : L2.St}, Ex H' H3 → σ[0]? = some (some (.ref a)) → σ[3]? = some (some (.int (i : Int))) → Ev (tOp (rIxL K) (tVar 0) (tOp (rI0 fun i j => .int (i + j)) (tOp (rI CMul fun i j => .int (i * j)) (tC (.int 2)) (tVar 3)) (tC (.int 1)))) σ H3 (.int x2) := fun e h0 h3 => ev_op (ev_var h0) (ev_op (ev_op ev_c (ev_var h3) (Su.rv_mul (Su.CMul.l (by decide) (by decide)))) ev_c rv_I0) (rv_ixL (ex_l e hs) r2)
      refine q_asg (v := .int ((n : Int) - x2 % (n : Int) * (x2 / 5 % 2))) (ev_op (ev_var rfl) (ev_op (ev_op (i3 e2 rfl rfl) (ev_var rfl) (Su.rv_mod (by omega))) (ev_op (ev_op (i3 e2 rfl rfl) ev_c (Su.rv_div (by decide) (by decide))) ev_c (Su.rv_mod (by decide))) (Su.rv_mul (Su.CMul.l (by omega) (by omega)))) rv_I0) fun H3 e3 => ?_
      have ht3 := (ht.ex e2).ex e3
      have hp3 := ex_g e3 (ex_g e2 hp')
      have hw1 : 1 ≤ 1 + x1 % (n : Int) * (x1 / 7 % 2) ∧ 1 + x1 % (n : Int) * (x1 / 7 % 2) ≤ n := by
        have : x1 / 7 % 2 = 0 ∨ x1 / 7 % 2 = 1 := by omega
        rcases this with z | z <;> rw [z] <;> omega
      have hw2 : 1 ≤ (n : Int) - x2 % (n : Int) * (x2 / 5 % 2) ∧ (n : Int) - x2 % (n : Int) * (x2 / 5 % 2) ≤ n := by
        have : x2 / 5 % 2 = 0 ∨ x2 / 5 % 2 = 1 := by omega
        rcases this with z | z <;> rw [z] <;> omega
      generalize 1 + x1 % (n : Int) * (x1 / 7 % 2) = w1 at hw1 ⊢
      generalize (n : Int) - x2 % (n : Int) * (x2 / 5 % 2) = w2 at hw2 ⊢
      refine s_appU hp3 (by walk_at "ev") (eu_tup (by walk_at "ea") (by show 2 ≤ 100000; decide)) (by rw [refs_len]; omega) fun t H5 ht5 e5 h5 => ?_
      have hp5 : H5 p = some (.lst (refs qs)) := ex_g e5 hp3
      refine ⟨qs ++ [(t, w1, w2)], _, _, _, rfl, ex_up (((ex.trans e2).trans e3).trans e5) hp, ?_, TW.add ((ht3.ex e5).upd hp5) ?_, by rw [List.length_append, hl]; rfl, fun q hq => ?_⟩
      · rw [upd_same]
        unfold refs
        rw [List.map_append]
        rfl
      · rw [upd_ne (ne_of h5 hp5 (fun z => nomatch z))]
        exact h5
      · rcases List.mem_append.mp hq with hq | hq
        · exact hb q hq
        · rw [List.mem_singleton.mp hq]
          exact ⟨hw1.1, hw1.2, hw2.1, hw2.2⟩
    · rintro σ' H' ⟨qs, y3, y4, y5, rfl, ex, hp', ht, hl, hb⟩
      refine s_ret (by walk_at "ev") fun H2 e2 => ?_
      exact q qs H2 p hp (ex.trans e2) (ex_g e2 hp') (ht.ex e2) ⟨by omega, hb⟩
end

end Su
namespace Su
/-! ### beginnings of orders, lists of sets -/
theorem el_catR {ta tb : TE} {σ : L2.St} {H : Hp} {a : Addr} {xs ys : List V} (ha : Ev ta σ H (.ref a)) (hx : H a = some (.lst xs)) (hb : EvL tb σ H ys) (hz : xs.length + ys.length ≤ 100000) : EvL (tOp rCat ta tb) σ H (xs ++ ys) := fun H1 e Q q =>
  ha H1 e _ fun H2 e2 => hb H2 (e.trans e2) _ fun p2 H3 hp3 e3 h3 => ⟨a, p2, xs, ys, rfl, rfl, (e.trans e2).trans e3 _ _ hx, h3, sz_of hz, fun r hr => q r _ (fresh_back (e2.trans e3) hr) ((e2.trans e3).trans (Ex.new hr)) upd_same⟩
theorem un65 {k : Nat} {A : Around} (hr : Room k A) : A.units + 65 < cLine := by
  have := hr.un
  omega
theorem q_asgLL {t1 : TE} {σ : L2.St} {H : Hp} {xs : List V} {i : Nat} {D : Ends} {tz : TS} (h1 : EvL t1 σ H xs) (k : ∀ a p H1, Ex H H1 → H1 a = some (.lst xs) → H1 p = some (.lst [.ref a]) → tz D (σ.set i (some (.ref p))) H1) : tSeq (tAsg (tLst (tCons t1 tNil)) (gName i)) tz D σ H :=
  h1 H (Ex.refl H) _ fun a H1 ha e1 h1' => ⟨by show 1 ≤ sizeLine; decide, fun p hp => k a p _ (e1.trans (Ex.new hp)) (Ex.new hp _ _ h1') upd_same⟩
abbrev Sets := List (Addr × List Nat)
def sref (L : Sets) : List V := L.map fun x => V.ref x.1
theorem sref_len {L : Sets} : (sref L).length = L.length := List.length_map _
theorem sref_at {L : Sets} {i : Nat} {x : V} (h : (sref L)[i]? = some x) : ∃ y, L[i]? = some y ∧ x = .ref y.1 := by
  unfold sref at h
  rw [List.getElem?_map] at h
  cases hc : L[i]? with
  | none => rw [hc] at h; cases h
  | some c => rw [hc] at h; exact ⟨c, rfl, (Option.some.inj h).symm⟩
def SW (H : Hp) (L : Sets) : Prop := ∀ x ∈ L, H x.1 = some (.lst ((natI x.2).map V.int))
theorem SW.ex {H H' : Hp} {L : Sets} (h : SW H L) (e : Ex H H') : SW H' L := fun x hx => e _ _ (h x hx)
/-- an order's beginning -/
def Pre (ws : List (Int × Int)) (row : List Nat) : Prop := row.Nodup ∧ ∀ (j k : Nat), row[j]? = some k → k < ws.length ∧ firstI ws k ≤ (j : Int) + 1 ∧ (j : Int) + 1 ≤ lastI ws k
theorem Pre.snoc {ws : List (Int × Int)} {row : List Nat} {k : Nat} (h : Pre ws row) (hk : k ∉ row) (hl : k < ws.length) (h1 : firstI ws k ≤ (row.length : Int) + 1) (h2 : (row.length : Int) + 1 ≤ lastI ws k) : Pre ws (row ++ [k]) := by
  refine ⟨?_, fun j c hc => ?_⟩
  · rw [List.nodup_append]
    exact ⟨h.1, by simp, fun a ha b hb z => hk (by rw [← List.mem_singleton.mp hb, ← z]; exact ha)⟩
  · by_cases hj : j < row.length
    · rw [List.getElem?_append_left hj] at hc
      exact h.2 j c hc
    · have hj2 := (List.getElem?_eq_some_iff.mp hc).1
      rw [List.length_append, List.length_singleton] at hj2
      have ej : j = row.length := by omega
      subst ej
      rw [List.getElem?_append_right (Nat.le_refl _), Nat.sub_self] at hc
      obtain rfl : k = c := Option.some.inj hc
      exact ⟨hl, h1, h2⟩
theorem Pre.back {ws : List (Int × Int)} {row : List Nat} {k : Nat} (h : Pre ws (row ++ [k])) : Pre ws row ∧ k ∉ row ∧ k < ws.length ∧ firstI ws k ≤ (row.length : Int) + 1 ∧ (row.length : Int) + 1 ≤ lastI ws k := by
  obtain ⟨h1, h2⟩ := h
  rw [List.nodup_append] at h1
  refine ⟨⟨h1.1, fun j c hc => h2 j c (by rw [List.getElem?_append_left (List.getElem?_eq_some_iff.mp hc).1]; exact hc)⟩, fun z => h1.2.2 k z k (by simp) rfl, ?_⟩
  exact h2 row.length k (by rw [List.getElem?_append_right (Nat.le_refl _), Nat.sub_self]; rfl)
theorem pre_ord {ws : List (Int × Int)} {row : List Nat} : IsOrd ws row ↔ Pre ws row ∧ row.length = ws.length := by
  constructor
  · intro h
    exact ⟨⟨h.1.nodup_iff.mpr List.nodup_range, fun j k hk => ⟨List.mem_range.mp (h.1.mem_iff.mp (List.mem_of_getElem? hk)), h.2 j k hk⟩⟩, by rw [h.1.length_eq, List.length_range]⟩
  · rintro ⟨h, hl⟩
    refine ⟨perm_sub h.1 (fun x hx => ?_) (by rw [hl, List.length_range]), fun j k hk => (h.2 j k hk).2⟩
    obtain ⟨j, hj⟩ := List.getElem?_of_mem hx
    exact List.mem_range.mpr (h.2 j x hj).1
def fitI (ws : List (Int × Int)) (i k : Nat) : Bool := decide (firstI ws k ≤ (1 : Int) + (i : Int)) && decide ((1 : Int) + (i : Int) ≤ lastI ws k)

end Su
namespace Su
/-! ### all rows, place by place, lesser numbers first -/
def extR (ws : List (Int × Int)) (i : Nat) (row : List Nat) : List (List Nat) := ((List.range ws.length).filter fun k => !row.contains k && fitI ws i k).map fun k => row ++ [k]
def allR (ws : List (Int × Int)) : Nat → List (List Nat)
  | 0 => [[]]
  | i + 1 => (allR ws i).flatMap (extR ws i)
theorem mem_all {ws : List (Int × Int)} : ∀ {i : Nat} {r : List Nat}, r ∈ allR ws i ↔ Pre ws r ∧ r.length = i
  | 0, r => by
    show r ∈ [[]] ↔ _
    rw [List.mem_singleton]
    constructor
    · rintro rfl
      exact ⟨⟨List.nodup_nil, fun j k h => by simp at h⟩, rfl⟩
    · rintro ⟨_, h⟩
      exact List.length_eq_zero_iff.mp h
  | i + 1, r => by
    show r ∈ (allR ws i).flatMap (extR ws i) ↔ _
    rw [List.mem_flatMap]
    constructor
    · rintro ⟨row, h1, h2⟩
      obtain ⟨p, l⟩ := mem_all.mp h1
      obtain ⟨k, hk, rfl⟩ := List.mem_map.mp h2
      obtain ⟨k1, k2⟩ := List.mem_filter.mp hk
      rw [Bool.and_eq_true] at k2
      unfold fitI at k2
      rw [Bool.and_eq_true] at k2
      have f1 := of_decide_eq_true k2.2.1
      have f2 := of_decide_eq_true k2.2.2
      exact ⟨p.snoc (fun z => by rw [List.contains_iff_mem.mpr z] at k2; cases k2.1) (List.mem_range.mp k1) (by omega) (by omega), by rw [List.length_append, l]; rfl⟩
    · rintro ⟨p, l⟩
      obtain ⟨row, k, rfl⟩ : ∃ s k, r = s ++ [k] := by
        refine ⟨r.take i, r[i], ?_⟩
        have : r = r.take (i + 1) := (List.take_of_length_le (by omega)).symm
        conv => lhs; rw [this, List.take_add_one, List.getElem?_eq_getElem (by omega)]
        rfl
      rw [List.length_append, List.length_singleton] at l
      obtain ⟨h1, h2, h3, h4, h5⟩ := p.back
      refine ⟨row, mem_all.mpr ⟨h1, by omega⟩, List.mem_map.mpr ⟨k, List.mem_filter.mpr ⟨List.mem_range.mpr h3, ?_⟩, rfl⟩⟩
      rw [Bool.and_eq_true]
      refine ⟨?_, ?_⟩
      · cases e : row.contains k with
        | false => rfl
        | true => exact absurd (List.contains_iff_mem.mp e) h2
      · unfold fitI
        rw [decide_eq_true (by omega), decide_eq_true (by omega)]
        rfl
theorem lexN_app : ∀ (r : List Nat) {a b : Nat}, a < b → lexN (r ++ [a]) (r ++ [b]) = true
  | [], a, b, h => by
    show (if a = b then lexN [] [] else decide (a < b)) = true
    rw [if_neg (by omega), decide_eq_true h]
  | c :: r, a, b, h => by
    show (if c = c then lexN (r ++ [a]) (r ++ [b]) else decide (c < c)) = true
    rw [if_pos rfl]
    exact lexN_app r h
theorem lexN_ext : ∀ {r s : List Nat} {a b : Nat}, lexN r s = true → lexN (r ++ [a]) (s ++ [b]) = true
  | [], s, a, b, h => by cases s <;> cases h
  | c :: r, [], a, b, h => by cases h
  | c :: r, d :: s, a, b, h => by
    have h : (if c = d then lexN r s else decide (c < d)) = true := h
    show (if c = d then lexN (r ++ [a]) (s ++ [b]) else decide (c < d)) = true
    by_cases z : c = d
    · rw [if_pos z] at h ⊢
      exact lexN_ext h
    · rw [if_neg z] at h ⊢
      exact h
theorem lexN_asym : ∀ {r s : List Nat}, lexN r s = true → lexN s r = false
  | [], s, h => by cases s <;> cases h
  | c :: r, [], h => by cases h
  | c :: r, d :: s, h => by
    have h : (if c = d then lexN r s else decide (c < d)) = true := h
    show (if d = c then lexN s r else decide (d < c)) = false
    by_cases z : c = d
    · rw [if_pos z] at h
      rw [if_pos z.symm]
      exact lexN_asym h
    · rw [if_neg z] at h
      rw [if_neg (fun y => z y.symm)]
      have := of_decide_eq_true h
      exact decide_eq_false (by omega)
theorem all_ris (ws : List (Int × Int)) : ∀ i, (allR ws i).Pairwise fun r s => lexN r s = true
  | 0 => List.pairwise_singleton _ _
  | i + 1 => by
    show ((allR ws i).flatMap (extR ws i)).Pairwise _
    rw [List.pairwise_flatMap]
    refine ⟨fun r _ => ?_, (all_ris ws i).imp fun {r s} h x hx y hy => ?_⟩
    · unfold extR
      rw [List.pairwise_map]
      exact (List.pairwise_lt_range.filter _).imp fun h => lexN_app r h
    · obtain ⟨a, _, rfl⟩ := List.mem_map.mp hx
      obtain ⟨b, _, rfl⟩ := List.mem_map.mp hy
      exact lexN_ext h
theorem path_rise {ws : List (Int × Int)} {r s : List Nat} (hr : Path ws 0 r) (hs : Path ws 0 s) (h : lexN r s = true) : numOf ws 0 r < numOf ws 0 s := by
  have h' := lexN_asym h
  by_cases c : numOf ws 0 r < numOf ws 0 s
  · exact c
  · by_cases d : numOf ws 0 r = numOf ws 0 s
    · have := path_inj r s 0 hr hs d
      subst this
      rw [h] at h'
      cases h'
    · have := path_lex s r 0 hs hr (by omega)
      rw [this] at h'
      cases h'
theorem list_top : ∀ {l : List Nat}, l ≠ [] → ∃ m ∈ l, ∀ y ∈ l, y ≤ m
  | [], h => absurd rfl h
  | [a], _ => ⟨a, List.mem_cons_self, fun y hy => by rw [List.mem_singleton.mp hy]; exact Nat.le_refl _⟩
  | a :: b :: l, _ => by
    obtain ⟨m, h1, h2⟩ := list_top (l := b :: l) (by simp)
    by_cases c : a ≤ m
    · exact ⟨m, List.mem_cons_of_mem _ h1, fun y hy => (List.mem_cons.mp hy).elim (fun z => by rw [z]; exact c) (h2 y)⟩
    · exact ⟨a, List.mem_cons_self, fun y hy => (List.mem_cons.mp hy).elim (fun z => by rw [z]; exact Nat.le_refl _) fun z => by have := h2 y z; omega⟩
theorem num_path {ws : List (Int × Int)} : ∀ (f h : Nat) (left : Int), (freeN ws.length h).length = f → 0 ≤ left → left < way ws h → ∃ r, Path ws h r ∧ numOf ws h r = left
  | 0, h, left, hf, h0, h1 => by
    have he := List.length_eq_zero_iff.mp hf
    rw [way_full he] at h1
    exact ⟨[], he, by show (0 : Int) = left; omega⟩
  | f + 1, h, left, hf, h0, h1 => by
    have he : freeN ws.length h ≠ [] := fun z => by rw [z] at hf; cases hf
    obtain ⟨x, hx, hxl⟩ := some_step h0 h1 he
    obtain ⟨m, hm, hmx⟩ := list_top (l := (nxtN ws h).filter fun k => decide (lessN ws h k ≤ left)) (fun z => by
      have : x ∈ (nxtN ws h).filter fun k => decide (lessN ws h k ≤ left) := List.mem_filter.mpr ⟨hx, decide_eq_true hxl⟩
      rw [z] at this
      exact absurd this List.not_mem_nil)
    obtain ⟨m1, m2⟩ := List.mem_filter.mp hm
    have m2 := of_decide_eq_true m2
    have hb := best_step h1 he m1 m2 fun y hy hyl => hmx y (List.mem_filter.mpr ⟨hy, decide_eq_true hyl⟩)
    have hfl := free_or_len (nxt_free m1)
    obtain ⟨r, p, e⟩ := num_path (ws := ws) f (h ||| 2 ^ m) (left - lessN ws h m) (by omega) (by omega) (by omega)
    exact ⟨m :: r, ⟨m1, p⟩, by show lessN ws h m + numOf ws (h ||| 2 ^ m) r = left; omega⟩
theorem path_iff {ws : List (Int × Int)} {r : List Nat} : r ∈ allR ws ws.length ↔ Path ws 0 r := by
  rw [mem_all, ← pre_ord]
  constructor
  · intro h
    obtain ⟨s, e, p, _⟩ := ord_path (isOrd_of h)
    rw [natI_inj e]
    exact p
  · intro p
    exact ord_of_isOrd (path_ord p)
/-- the numbers of all rows are 0, 1, .. in this order -/
theorem all_nums (ws : List (Int × Int)) : (allR ws ws.length).map (numOf ws 0) = rgI (way ws 0).toNat := by
  have hw := way_nonneg ws 0
  refine ris_unique ?_ ?_ fun z => ?_
  · rw [List.pairwise_map]
    exact List.Pairwise.imp_of_mem (fun hr hs h => path_rise (path_iff.mp hr) (path_iff.mp hs) h) (all_ris ws ws.length)
  · unfold rgI
    rw [List.pairwise_map]
    exact List.pairwise_lt_range.imp fun {i j} h => by omega
  · rw [List.mem_map]
    constructor
    · rintro ⟨r, hr, rfl⟩
      have := path_num r 0 (path_iff.mp hr)
      unfold rgI
      exact List.mem_map.mpr ⟨(numOf ws 0 r).toNat, List.mem_range.mpr (by omega), by omega⟩
    · intro hz
      obtain ⟨j, rfl, hj⟩ := in_rg hz
      obtain ⟨r, p, e⟩ := num_path (freeN ws.length 0).length 0 (j : Int) rfl (by omega) (by omega)
      exact ⟨r, path_iff.mpr p, e⟩
theorem all_len (ws : List (Int × Int)) : ((allR ws ws.length).length : Int) = way ws 0 := by
  have h := congrArg List.length (all_nums ws)
  have hw := way_nonneg ws 0
  unfold rgI at h
  rw [List.length_map, List.length_map, List.length_range] at h
  omega
theorem all_num {ws : List (Int × Int)} {m : Nat} {r : List Nat} (h : (allR ws ws.length)[m]? = some r) : numOf ws 0 r = (m : Int) := by
  have e := congrArg (fun l : List Int => l[m]?) (all_nums ws)
  have e : ((allR ws ws.length).map (numOf ws 0))[m]? = (rgI (way ws 0).toNat)[m]? := e
  rw [List.getElem?_map, h] at e
  unfold rgI at e
  rw [List.getElem?_map] at e
  by_cases c : m < (way ws 0).toNat
  · rw [List.getElem?_range c] at e
    exact Option.some.inj e
  · rw [List.getElem?_eq_none (by rw [List.length_range]; omega)] at e
    cases e

end Su
namespace Su
/-! ### rounds given to the windows one by one: as many as there are orders -/
theorem len_subG {α : Type} [DecidableEq α] : ∀ {S T : List α}, S.Nodup → (∀ x ∈ S, x ∈ T) → S.length ≤ T.length
  | [], T, _, _ => Nat.zero_le _
  | x :: S, T, hn, h => by
    have hx := h x List.mem_cons_self
    obtain ⟨h1, h2⟩ := List.nodup_cons.mp hn
    have := len_subG (S := S) (T := T.erase x) h2 fun y hy => (List.mem_erase_of_ne (fun z => h1 (by rw [← z]; exact hy))).mpr (h y (List.mem_cons_of_mem _ hy))
    rw [List.length_erase_of_mem hx] at this
    have hp := List.length_pos_of_mem hx
    rw [List.length_cons]
    omega
/-- window j takes a free round -/
def extA (ws : List (Int × Int)) (j : Nat) (t : List Nat) : List (List Nat) := ((List.range ws.length).filter fun r => !t.contains r && fitI ws r j).map fun r => t ++ [r]
def asgR (ws : List (Int × Int)) : Nat → List (List Nat)
  | 0 => [[]]
  | j + 1 => (asgR ws j).flatMap (extA ws j)
def Asg (ws : List (Int × Int)) (t : List Nat) : Prop := t.Nodup ∧ ∀ (w r : Nat), t[w]? = some r → r < ws.length ∧ fitI ws r w = true
theorem mem_asg {ws : List (Int × Int)} : ∀ {j : Nat} {t : List Nat}, t ∈ asgR ws j ↔ Asg ws t ∧ t.length = j
  | 0, t => by
    show t ∈ [[]] ↔ _
    rw [List.mem_singleton]
    constructor
    · rintro rfl
      exact ⟨⟨List.nodup_nil, fun j k h => by simp at h⟩, rfl⟩
    · rintro ⟨_, h⟩
      exact List.length_eq_zero_iff.mp h
  | j + 1, t => by
    show t ∈ (asgR ws j).flatMap (extA ws j) ↔ _
    rw [List.mem_flatMap]
    constructor
    · rintro ⟨s, h1, h2⟩
      obtain ⟨p, l⟩ := mem_asg.mp h1
      obtain ⟨r, hr, rfl⟩ := List.mem_map.mp h2
      obtain ⟨k1, k2⟩ := List.mem_filter.mp hr
      rw [Bool.and_eq_true] at k2
      refine ⟨⟨?_, fun w c hc => ?_⟩, by rw [List.length_append, l]; rfl⟩
      · rw [List.nodup_append]
        exact ⟨p.1, by simp, fun a ha b hb z => by
          have : s.contains r = true := List.contains_iff_mem.mpr (by rw [← List.mem_singleton.mp hb, ← z]; exact ha)
          rw [this] at k2
          cases k2.1⟩
      · by_cases hw : w < s.length
        · rw [List.getElem?_append_left hw] at hc
          exact p.2 w c hc
        · have hw2 := (List.getElem?_eq_some_iff.mp hc).1
          rw [List.length_append, List.length_singleton] at hw2
          have ew : w = s.length := by omega
          subst ew
          rw [List.getElem?_append_right (Nat.le_refl _), Nat.sub_self] at hc
          obtain rfl : r = c := Option.some.inj hc
          exact ⟨List.mem_range.mp k1, by rw [l]; exact k2.2⟩
    · rintro ⟨p, l⟩
      obtain ⟨s, r, rfl⟩ : ∃ s r, t = s ++ [r] := by
        refine ⟨t.take j, t[j], ?_⟩
        have : t = t.take (j + 1) := (List.take_of_length_le (by omega)).symm
        conv => lhs; rw [this, List.take_add_one, List.getElem?_eq_getElem (by omega)]
        rfl
      rw [List.length_append, List.length_singleton] at l
      obtain ⟨h1, h2⟩ := p
      rw [List.nodup_append] at h1
      obtain ⟨g1, g2⟩ := h2 s.length r (by rw [List.getElem?_append_right (Nat.le_refl _), Nat.sub_self]; rfl)
      refine ⟨s, mem_asg.mpr ⟨⟨h1.1, fun w c hc => h2 w c (by rw [List.getElem?_append_left (List.getElem?_eq_some_iff.mp hc).1]; exact hc)⟩, by omega⟩, List.mem_map.mpr ⟨r, List.mem_filter.mpr ⟨List.mem_range.mpr g1, ?_⟩, rfl⟩⟩
      rw [Bool.and_eq_true]
      refine ⟨?_, by rw [show j = s.length by omega]; exact g2⟩
      cases e : s.contains r with
      | false => rfl
      | true => exact absurd rfl (h1.2.2 r (List.contains_iff_mem.mp e) r (by simp))
theorem asg_ris (ws : List (Int × Int)) : ∀ j, (asgR ws j).Pairwise fun r s => lexN r s = true
  | 0 => List.pairwise_singleton _ _
  | j + 1 => by
    show ((asgR ws j).flatMap (extA ws j)).Pairwise _
    rw [List.pairwise_flatMap]
    refine ⟨fun r _ => ?_, (asg_ris ws j).imp fun {r s} h x hx y hy => ?_⟩
    · unfold extA
      rw [List.pairwise_map]
      exact (List.pairwise_lt_range.filter _).imp fun h => lexN_app r h
    · obtain ⟨a, _, rfl⟩ := List.mem_map.mp hx
      obtain ⟨b, _, rfl⟩ := List.mem_map.mp hy
      exact lexN_ext h
theorem lex_ne {r s : List Nat} (h : lexN r s = true) : r ≠ s := fun z => by
  subst z
  have := lexN_asym h
  rw [h] at this
  cases this
/-- which place each number has -/
def invL (n : Nat) (r : List Nat) : List Nat := (List.range n).map fun k => r.idxOf k
theorem inv_at {n : Nat} {r : List Nat} {k : Nat} (hk : k < n) : (invL n r)[k]? = some (r.idxOf k) := by
  unfold invL
  rw [List.getElem?_map, List.getElem?_range hk]
  rfl
/-- r has each of 0 .. n - 1 once -/
def Full1 (n : Nat) (r : List Nat) : Prop := r.Nodup ∧ r.length = n ∧ ∀ x ∈ r, x < n
theorem Full1.mem {n : Nat} {r : List Nat} (h : Full1 n r) {k : Nat} (hk : k < n) : k ∈ r :=
  (perm_sub h.1 (fun x hx => List.mem_range.mpr (h.2.2 x hx)) (by rw [h.2.1, List.length_range])).mem_iff.mpr (List.mem_range.mpr hk)
theorem Full1.at {n : Nat} {r : List Nat} (h : Full1 n r) {k : Nat} (hk : k < n) : r[r.idxOf k]? = some k ∧ r.idxOf k < n := by
  have hm := h.mem hk
  have hl := List.idxOf_lt_length_of_mem hm
  exact ⟨by rw [List.getElem?_eq_getElem hl, List.getElem_idxOf], by rw [← h.2.1]; exact hl⟩
theorem Full1.inj {n : Nat} {r s : List Nat} (h : Full1 n r) (g : Full1 n s) (e : invL n r = invL n s) : r = s := by
  apply List.ext_getElem?
  intro i
  by_cases hi : i < n
  · obtain ⟨k, hk⟩ : ∃ k, r[i]? = some k := ⟨_, List.getElem?_eq_getElem (by rw [h.2.1]; exact hi)⟩
    have hkn := h.2.2 k (List.mem_of_getElem? hk)
    have e2 := congrArg (fun l : List Nat => l[k]?) e
    have e2 : (invL n r)[k]? = (invL n s)[k]? := e2
    rw [inv_at hkn, inv_at hkn] at e2
    have e2 := Option.some.inj e2
    have h1 := (h.at hkn).1
    have : r.idxOf k = i := (List.getElem?_inj (List.getElem?_eq_some_iff.mp h1).1 h.1).mp (h1.trans hk.symm)
    rw [hk, ← this, e2]
    exact (g.at hkn).1.symm
  · rw [List.getElem?_eq_none (by rw [h.2.1]; omega), List.getElem?_eq_none (by rw [g.2.1]; omega)]
theorem Full1.inv {n : Nat} {r : List Nat} (h : Full1 n r) : Full1 n (invL n r) := by
  refine ⟨?_, by unfold invL; rw [List.length_map, List.length_range], fun x hx => ?_⟩
  · unfold invL
    rw [List.Nodup, List.pairwise_map]
    refine List.Pairwise.imp_of_mem (fun {a b} ha hb hne z => ?_) List.nodup_range
    have h1 := (h.at (List.mem_range.mp ha)).1
    have h2 := (h.at (List.mem_range.mp hb)).1
    rw [z, h2] at h1
    exact hne (Option.some.inj h1).symm
  · obtain ⟨k, hk, rfl⟩ := List.mem_map.mp hx
    exact (h.at (List.mem_range.mp hk)).2
theorem fit_of {ws : List (Int × Int)} {i k : Nat} : fitI ws i k = true ↔ firstI ws k ≤ (i : Int) + 1 ∧ (i : Int) + 1 ≤ lastI ws k := by
  unfold fitI
  rw [Bool.and_eq_true]
  constructor
  · rintro ⟨h1, h2⟩
    have := of_decide_eq_true h1
    have := of_decide_eq_true h2
    omega
  · rintro ⟨h1, h2⟩
    exact ⟨decide_eq_true (by omega), decide_eq_true (by omega)⟩
theorem asg_len (ws : List (Int × Int)) : (asgR ws ws.length).length = (allR ws ws.length).length := by
  have fa : ∀ {t}, t ∈ asgR ws ws.length → Full1 ws.length t := fun ht => by
    obtain ⟨p, l⟩ := mem_asg.mp ht
    refine ⟨p.1, l, fun x hx => ?_⟩
    obtain ⟨w, hw⟩ := List.getElem?_of_mem hx
    exact (p.2 w x hw).1
  have fr : ∀ {r}, r ∈ allR ws ws.length → Full1 ws.length r := fun hr => by
    obtain ⟨p, l⟩ := mem_all.mp hr
    refine ⟨p.1, l, fun x hx => ?_⟩
    obtain ⟨w, hw⟩ := List.getElem?_of_mem hx
    exact (p.2 w x hw).1
  have inv_get : ∀ {r : List Nat} {w c : Nat}, Full1 ws.length r → (invL ws.length r)[w]? = some c → w < ws.length ∧ r[c]? = some w := fun h e => by
    rename_i r w c
    have hw : w < ws.length := by
      have := (List.getElem?_eq_some_iff.mp e).1
      unfold invL at this
      rw [List.length_map, List.length_range] at this
      exact this
    rw [inv_at hw] at e
    rw [← Option.some.inj e]
    exact ⟨hw, (h.at hw).1⟩
  apply Nat.le_antisymm
  · have := len_subG (S := (asgR ws ws.length).map (invL ws.length)) (T := allR ws ws.length) ?_ ?_
    · rw [List.length_map] at this
      exact this
    · rw [List.Nodup, List.pairwise_map]
      exact List.Pairwise.imp_of_mem (fun ha hb h z => lex_ne h ((fa ha).inj (fa hb) z)) (asg_ris ws ws.length)
    · intro x hx
      obtain ⟨t, ht, rfl⟩ := List.mem_map.mp hx
      have f := fa ht
      obtain ⟨p, l⟩ := mem_asg.mp ht
      refine mem_all.mpr ⟨⟨f.inv.1, fun j k hk => ?_⟩, f.inv.2.1⟩
      obtain ⟨hj, hkj⟩ := inv_get f hk
      have hfit := fit_of.mp (p.2 k j hkj).2
      exact ⟨by have := (List.getElem?_eq_some_iff.mp hkj).1; omega, hfit⟩
  · have := len_subG (S := (allR ws ws.length).map (invL ws.length)) (T := asgR ws ws.length) ?_ ?_
    · rw [List.length_map] at this
      exact this
    · rw [List.Nodup, List.pairwise_map]
      exact List.Pairwise.imp_of_mem (fun ha hb h z => lex_ne h ((fr ha).inj (fr hb) z)) (all_ris ws ws.length)
    · intro x hx
      obtain ⟨r, hr, rfl⟩ := List.mem_map.mp hx
      have f := fr hr
      obtain ⟨p, l⟩ := mem_all.mp hr
      refine mem_asg.mpr ⟨⟨f.inv.1, fun w c hc => ?_⟩, f.inv.2.1⟩
      obtain ⟨hw, hcw⟩ := inv_get f hc
      exact ⟨by have := (List.getElem?_eq_some_iff.mp hcw).1; omega, fit_of.mpr ((p.2 c w hcw).2)⟩

end Su
namespace Su
theorem el_sortedN {K : PySem.W.Frag} {σ : L2.St} {H : Hp} {te : TE} {ns : List Int} (h : EvL te σ H (ns.map V.int)) : EvL (tCB (rSortedI K) (tCons te tNil)) σ H ((sortI ns).map V.int) := fun H0 e Q q =>
  h H0 e _ fun a H1 ha e1 h1 => ⟨a, ns, rfl, sq_of h1, fun ns' p hp ho hn => by
    obtain rfl : ns' = sortI ns := sorted_unique ho (sortI_sorted ns) (hp.trans (sortI_perm ns).symm)
    exact q p _ (fresh_back e1 hn) (e1.trans (Ex.new hn)) upd_same⟩

end Su
namespace Su
/-! ### dicts whose keys are tuples -/
def tDispT1 (tk tv : TE) : TE := fun σ H Q => ∀ p, H p = none → tk σ (upd H p (.dT [])) fun x H1 => tv σ H1 fun y H2 => ∃ (b : Addr) (ks : List Key), x = .ref b ∧ H2 b = some (.tup (ks.map kV)) ∧ H2 p = some (.dT []) ∧ Q (.ref p) (upd H2 p (.dT [(ks, y)]))
theorem pe_dispT1 {X : Cx} {pos : Pos} {k v : Expr} {tk tv : TE} (hu : X.A.units + 1 < cLine) (hk : PE X k tk) (hv : PE X v tv) : PE X (.Dict [some k] [v] pos) (tDispT1 tk tv) := by
  refine ⟨fun pins s σ H Q I q => ?_⟩
  have hn := I.hok.fresh (Nat.le_refl s.heap.objs.size)
  have I1 := I.laid (a := s.heap.objs.size) (o := .dT []) (h' := s.heap.push { cls := .type "dict", data := .dict #[] }) (t' := s.toks) (fun _ _ q => Heap.get?_push_of_some _ q) (Nat.le_refl _) (dt_empty s.heap I.big)
  have hpl := pairTrees_length [some k] [v] X.env pos rfl rfl
  rw [arm_eval_Dict, zip_pairTrees [some k] [v] X.env pos rfl rfl, dictDisplay_pairs _ (fun z => by rw [z] at hpl; cases hpl) (by rw [hpl]; show (1 : Nat) < 17; decide)]
  refine wpAny_bind (wpAny_standAt (wpAny_bind (wpAny_subDictH (knd := tupleKind (mixKind X.prog X.w)) (Q := fun d s' => wpAny (model X.prog X.w) X.A (pure (Value.ref d)) _ _ s') (show X.A.units < cLine by omega) (by rw [hpl]; show (1 : Nat) ≤ 15; decide) ?_)))
  refine pairTrees_cons_walk (thn (hk.run pins _ σ _ _ I1 (q _ hn)) fun u s1 ⟨x, H1, I1', rx, q1⟩ => thn (hv.run pins s1 σ H1 _ I1' q1) fun w2 s2 ⟨y, H2, I2, ry, b, ks, ex, hb, hp, q2⟩ => pairTrees_nil_walk ?_)
  subst ex
  obtain rfl : u = Value.ref b := rx
  obtain ⟨z, hd, xs, rel, dd⟩ := dt_of I2.hok hp
  cases rel
  refine ⟨[(ks, b, w2)], ⟨rfl, rfl, key_of I2.hok hb, True.intro⟩, dd, fun h' tk dd' hs => wpAny_pure ⟨.ref s.heap.objs.size, _, ?_, rfl, q2⟩⟩
  obtain ⟨o, es, ep, hq, h2, h3, h4, _, h5⟩ := dd'
  refine d_write I2 (by rw [hp]; exact True.intro) hs ⟨o, hq⟩ ⟨by show 1 ≤ sizeLine; decide, hd, [(ks, b, w2)], .cons ⟨rfl, ?_, ry⟩ .nil, o, es, ep, hq, h2, h3, h4, h5⟩
  rw [upd_ne (ne_of hb hp (fun z => nomatch z))]
  exact hb
theorem s_forKeysT {d : Addr} {kvs : List (List Key × V)} {i j : Nat} {tu : TS} {D : Ends} {σ : L2.St} {H : Hp} (hv : σ[i]? = some (some (.ref d))) (hd : H d = some (.dT kvs)) (Pv : Obj → Nat → L2.St → Hp → Prop) (h0 : ∀ od, Pv od 0 σ (upd H d (.frz od (.dT kvs))))
    (hl : ∀ od i σ' H', i ≤ kvs.length → Pv od i σ' H' → H' d = some (.frz od (.dT kvs)))
    (hs : ∀ od i k v q σ' H', kvs[i]? = some (k, v) → Pv od i σ' H' → H' q = some (.tup (k.map kV)) → tu ⟨Pv od (i + 1), fun v H' => H' d = some (.frz od (.dT kvs)) ∧ D.rt v (upd H' d (.dT kvs)), fun σ' H' => H' d = some (.frz od (.dT kvs)) ∧ D.nx σ' (upd H' d (.dT kvs)), Pv od (i + 1)⟩ (σ'.set j (some (.ref q))) H')
    (he : ∀ od σ' H', Pv od kvs.length σ' H' → D.nx σ' (upd H' d (.dT kvs))) : tLock (tFor (iKeys (tVar i)) (gName j) tu) D σ H :=
  ⟨d, .dT kvs, hd, True.intro, fun od => ⟨.ref d, hv, d, od, rfl, .inr ⟨kvs, upd_same, for_it walk_keysT (Pv od) (h0 od) (fun i σ H hi p => hl od i σ H hi p) (fun i x σ' Hc H' hi p y => by
    obtain ⟨rfl, k, v, q, hk, rfl, hq⟩ := y
    exact hs od i k v q _ _ hk p hq) fun σ' H' p => ⟨hl od _ σ' H' (Nat.le_refl _) p, he od σ' H' p⟩⟩⟩⟩
theorem ev_dgetT {td ty : TE} {σ : L2.St} {H : Hp} {d b : Addr} {kvs : List (List Key × V)} {k : List Key} {v : V} (h1 : Ev td σ H (.ref d)) (h2 : Ev ty σ H (.ref b)) (hd : Rd H d (.dT kvs)) (hb : H b = some (.tup (k.map kV))) (hv : valV kvs k = some v) : Ev (tDGet td ty) σ H v := fun H1 e Q q =>
  h1 H1 e _ fun H2 e2 => h2 H2 (e.trans e2) _ fun H3 e3 => ⟨d, v, rfl, .inr ⟨kvs, k, b, ex_rd ((e.trans e2).trans e3) hd, rfl, ((e.trans e2).trans e3) _ _ hb, hv.symm⟩, q H3 (e2.trans e3)⟩
theorem ev_dget2T {td ty tx : TE} {σ : L2.St} {H : Hp} {d b : Addr} {kvs : List (List Key × V)} {k : List Key} {z : V} (h1 : Ev td σ H (.ref d)) (h2 : Ev ty σ H (.ref b)) (h3 : Ev tx σ H z) (hd : Rd H d (.dT kvs)) (hb : H b = some (.tup (k.map kV))) : Ev (tDGet2 td ty tx) σ H ((valV kvs k).getD z) := fun H1 e Q q =>
  h1 H1 e _ fun H2 e2 => ⟨d, rfl, .inr ⟨kvs, ex_rd (e.trans e2) hd⟩, h2 H2 (e.trans e2) _ fun H3 e3 => h3 H3 ((e.trans e2).trans e3) _ fun H4 e4 => ⟨_, .inr ⟨kvs, k, b, ex_rd (((e.trans e2).trans e3).trans e4) hd, rfl, (((e.trans e2).trans e3).trans e4) _ _ hb, rfl⟩, q H4 ((e2.trans e3).trans e4)⟩⟩
theorem s_dputT {td ty tv : TE} {D : Ends} {σ : L2.St} {H : Hp} {d b : Addr} {kvs : List (List Key × V)} {k : List Key} {v : V} (h0 : Ev tv σ H v) (h1 : Ev td σ H (.ref d)) (h2 : Ev ty σ H (.ref b)) (hd : H d = some (.dT kvs)) (hb : H b = some (.tup (k.map kV))) (hl : kvs.length < sizeLine)
    (q : ∀ H1, Ex H H1 → D.nx σ (upd H1 d (.dT (putK kvs k v)))) : sDPut td ty tv D σ H :=
  h0 H (Ex.refl H) _ fun H1 e1 => h1 H1 e1 _ fun H2 e2 => h2 H2 (e1.trans e2) _ fun H3 e3 => ⟨d, _, rfl, .inr ⟨kvs, k, b, ((e1.trans e2).trans e3) _ _ hd, rfl, ((e1.trans e2).trans e3) _ _ hb, hl, rfl⟩, q H3 ((e1.trans e2).trans e3)⟩
theorem eu_tupOfL {K : PySem.W.Frag} {te : TE} {σ : L2.St} {H : Hp} {xs : List V} (h : EvL te σ H xs) : EvU (tCB (fun xs H Q => ∃ p ys, xs = [V.ref p] ∧ ((SqL K H p ys ∧ ∀ l, H l = none → Q (.ref l) (upd H l (.tup ys))) ∨ (SqT K H p ys ∧ Q (.ref p) H))) (tCons te tNil)) σ H xs := fun H0 e Q q =>
  h H0 e _ fun p H1 hp e1 h1 => ⟨p, xs, rfl, .inl ⟨sq_of h1, fun l hl => q l _ (fresh_back e1 hl) (e1.trans (Ex.new hl)) upd_same⟩⟩
theorem el_listT {K : PySem.W.Frag} {ta : TE} {σ : L2.St} {H : Hp} {p : Addr} {xs : List V} (ha : Ev ta σ H (.ref p)) (h : SqT K H p xs) : EvL (tCB (rListS K) (tCons ta tNil)) σ H xs := fun H1 e Q q =>
  ha H1 e _ fun H2 e2 => ⟨p, xs, rfl, .inr (ex_t (e.trans e2) h), fun l hl => q l _ (fresh_back e2 hl) (e2.trans (Ex.new hl)) upd_same⟩
theorem ev_dget2U {td ty tx : TE} {σ : L2.St} {H : Hp} {d : Addr} {kvs : List (List Key × V)} {k : List Key} {xs : List V} {z : V} (h1 : Ev td σ H (.ref d)) (h2 : EvU ty σ H xs) (h3 : Ev tx σ H z) (hd : Rd H d (.dT kvs)) (hk : xs = k.map kV) : Ev (tDGet2 td ty tx) σ H ((valV kvs k).getD z) := fun H1 e Q q =>
  h1 H1 e _ fun H2 e2 => ⟨d, rfl, .inr ⟨kvs, ex_rd (e.trans e2) hd⟩, h2 H2 (e.trans e2) _ fun b H3 _ e3 hb => h3 H3 ((e.trans e2).trans e3) _ fun H4 e4 => ⟨_, .inr ⟨kvs, k, b, ex_rd (((e.trans e2).trans e3).trans e4) hd, rfl, by rw [← hk]; exact e4 _ _ hb, rfl⟩, q H4 ((e2.trans e3).trans e4)⟩⟩
theorem eu_rg2 {ta tb : TE} {σ : L2.St} {H : Hp} {a b : Int} (ha : Ev ta σ H (.int a)) (hb : Ev tb σ H (.int b)) (h : RgOk a b) : EvU (tTupRg (tRg2 ta tb)) σ H (rgV a b) := fun H1 e Q q =>
  ha H1 e _ fun H2 e2 => hb H2 (e.trans e2) _ fun H3 e3 => ⟨a, b, rfl, rfl, h, fun p hp => q p _ (fresh_back (e2.trans e3) hp) ((e2.trans e3).trans (Ex.new hp)) upd_same⟩
theorem q_newT {σ : L2.St} {H : Hp} {i : Nat} {D : Ends} {tz : TS} (k : ∀ p, H p = none → tz D (σ.set i (some (.ref p))) (upd H p (.dT []))) : tSeq (tAsg tDNewT (gName i)) tz D σ H := fun p hp => k p hp

end Su
namespace Su
/-! ### a table by sets of rounds -/
abbrev Tab := List (List Int × Int)
def keyI (k : List Int) : List Key := k.map Sum.inl
def kvT (T : Tab) : List (List Key × V) := T.map fun e => (keyI e.1, V.int e.2)
def wsum (T : Tab) (f : List Int → Int) : Int := (T.map fun e => e.2 * f e.1).sum
def getT (T : Tab) (S : List Int) : Int := ((T.find? fun e => decide (e.1 = S)).map (·.2)).getD 0
def putT (T : Tab) (S : List Int) (v : Int) : Tab := if (T.any fun e => decide (e.1 = S)) = true then T.map (fun e => if e.1 = S then (e.1, v) else e) else T ++ [(S, v)]
def Keys1 (T : Tab) : Prop := (T.map (·.1)).Nodup
theorem keyI_inj : ∀ {a b : List Int}, keyI a = keyI b → a = b
  | [], [], _ => rfl
  | [], y :: s, h => by cases h
  | x :: r, [], h => by cases h
  | x :: r, y :: s, h => by
    unfold keyI at h
    rw [List.map_cons, List.map_cons] at h
    obtain ⟨h1, h2⟩ := List.cons.inj h
    rw [keyI_inj (a := r) (b := s) h2, Sum.inl.inj h1]
theorem keyI_V (k : List Int) : (keyI k).map kV = k.map V.int := by
  unfold keyI
  rw [List.map_map]
  rfl
theorem valV_T (T : Tab) (S : List Int) : valV (kvT T) (keyI S) = (T.find? fun e => decide (e.1 = S)).map fun e => V.int e.2 := by
  unfold valV kvT
  rw [List.find?_map, Option.map_map]
  have : ((fun kv : List Key × V => decide (kv.1 = keyI S)) ∘ fun e : List Int × Int => (keyI e.1, V.int e.2)) = fun e => decide (e.1 = S) := by
    funext e
    show decide (keyI e.1 = keyI S) = _
    by_cases h : e.1 = S
    · rw [h, decide_eq_true rfl, decide_eq_true rfl]
    · rw [decide_eq_false h, decide_eq_false fun z => h (keyI_inj z)]
  rw [this]
  rfl
theorem valV_getD (T : Tab) (S : List Int) : (valV (kvT T) (keyI S)).getD (.int 0) = .int (getT T S) := by
  rw [valV_T]
  unfold getT
  cases T.find? fun e => decide (e.1 = S) with
  | none => rfl
  | some e => rfl
theorem valV_mem {T : Tab} (hn : Keys1 T) {e : List Int × Int} (h : e ∈ T) : valV (kvT T) (keyI e.1) = some (.int e.2) := by
  rw [valV_T]
  induction T with
  | nil => exact absurd h List.not_mem_nil
  | cons a r ih =>
    obtain ⟨n1, n2⟩ := List.nodup_cons.mp (show (a.1 :: r.map (·.1)).Nodup from hn)
    rcases List.mem_cons.mp h with rfl | h
    · rw [List.find?_cons_of_pos (by exact decide_eq_true rfl)]
      rfl
    · rw [List.find?_cons_of_neg (by
        rw [decide_eq_true_eq]
        intro z
        exact n1 (by rw [z]; exact List.mem_map.mpr ⟨e, h, rfl⟩))]
      exact ih n2 h
theorem putT_K (T : Tab) (S : List Int) (v : Int) : putK (kvT T) (keyI S) (.int v) = kvT (putT T S v) := by
  unfold putK putT
  have ha : ((kvT T).any fun kv => decide (kv.1 = keyI S)) = T.any fun e => decide (e.1 = S) := by
    unfold kvT
    rw [List.any_map]
    congr 1
    funext e
    show decide (keyI e.1 = keyI S) = _
    by_cases h : e.1 = S
    · rw [h, decide_eq_true rfl, decide_eq_true rfl]
    · rw [decide_eq_false h, decide_eq_false fun z => h (keyI_inj z)]
  rw [ha]
  by_cases h : (T.any fun e => decide (e.1 = S)) = true
  · rw [if_pos h, if_pos h]
    unfold kvT
    rw [List.map_map, List.map_map]
    apply List.map_congr_left
    intro e _
    show (if keyI e.1 = keyI S then (keyI e.1, V.int v) else (keyI e.1, V.int e.2)) = _
    by_cases z : e.1 = S
    · rw [if_pos (by rw [z])]
      show _ = (keyI (if e.1 = S then (e.1, v) else e).1, V.int (if e.1 = S then (e.1, v) else e).2)
      rw [if_pos z]
    · rw [if_neg fun y => z (keyI_inj y)]
      show _ = (keyI (if e.1 = S then (e.1, v) else e).1, V.int (if e.1 = S then (e.1, v) else e).2)
      rw [if_neg z]
  · rw [if_neg h, if_neg h]
    unfold kvT
    rw [List.map_append]
    rfl
theorem putT_len (T : Tab) (S : List Int) (v : Int) : (putT T S v).length ≤ T.length + 1 := by
  unfold putT
  split
  · rw [List.length_map]; omega
  · rw [List.length_append]; exact Nat.le_refl _
theorem putT_mem {T : Tab} {S : List Int} {v : Int} {e : List Int × Int} (h : e ∈ putT T S v) : e.1 = S ∨ e ∈ T := by
  unfold putT at h
  split at h
  · obtain ⟨a, ha, rfl⟩ := List.mem_map.mp h
    by_cases z : a.1 = S
    · rw [if_pos z]; exact .inl z
    · rw [if_neg z]; exact .inr ha
  · rcases List.mem_append.mp h with h | h
    · exact .inr h
    · rw [List.mem_singleton.mp h]; exact .inl rfl
theorem any_key {T : Tab} {S : List Int} : (T.any fun e => decide (e.1 = S)) = true ↔ S ∈ T.map (·.1) := by
  rw [List.any_eq_true, List.mem_map]
  constructor
  · rintro ⟨e, h, z⟩
    exact ⟨e, h, of_decide_eq_true z⟩
  · rintro ⟨e, h, z⟩
    exact ⟨e, h, decide_eq_true z⟩
theorem putT_keys {T : Tab} {S : List Int} {v : Int} (h : Keys1 T) : Keys1 (putT T S v) := by
  unfold Keys1 putT
  by_cases c : (T.any fun e => decide (e.1 = S)) = true
  · rw [if_pos c, List.map_map]
    have : ((fun x : List Int × Int => x.1) ∘ fun e => if e.1 = S then (e.1, v) else e) = fun x => x.1 := by
      funext e
      show (if e.1 = S then (e.1, v) else e).1 = e.1
      split <;> rfl
    rw [this]
    exact h
  · rw [if_neg c, List.map_append, List.nodup_append]
    refine ⟨h, by simp, fun a ha b hb z => c (any_key.mpr ?_)⟩
    rw [List.mem_singleton.mp (show b ∈ [S] from hb)] at z
    rw [← z]
    exact ha
theorem wsum_cons (e : List Int × Int) (T : Tab) (f : List Int → Int) : wsum (e :: T) f = e.2 * f e.1 + wsum T f := by
  unfold wsum
  rw [List.map_cons, List.sum_cons]
theorem wsum_app (T U : Tab) (f : List Int → Int) : wsum (T ++ U) f = wsum T f + wsum U f := by
  unfold wsum
  rw [List.map_append, List.sum_append]
theorem getT_cons (e : List Int × Int) (T : Tab) (S : List Int) : getT (e :: T) S = if e.1 = S then e.2 else getT T S := by
  unfold getT
  by_cases h : e.1 = S
  · rw [if_pos h, List.find?_cons_of_pos (by exact decide_eq_true h)]
    rfl
  · rw [if_neg h, List.find?_cons_of_neg (by rw [decide_eq_true_eq]; exact h)]
theorem getT_none {T : Tab} {S : List Int} (h : S ∉ T.map (·.1)) : getT T S = 0 := by
  induction T with
  | nil => rfl
  | cons a r ih =>
    rw [getT_cons, if_neg fun z => h (by rw [← z]; exact List.mem_cons_self)]
    exact ih fun z => h (List.mem_cons_of_mem _ z)
theorem map_put_not {T : Tab} {S : List Int} {v : Int} (h : S ∉ T.map (·.1)) : T.map (fun e => if e.1 = S then (e.1, v) else e) = T := by
  conv => rhs; rw [← List.map_id T]
  apply List.map_congr_left
  intro e he
  rw [if_neg fun z => h (by rw [← z]; exact List.mem_map.mpr ⟨e, he, rfl⟩)]
  rfl
theorem map_put_sum {S : List Int} {n : Int} {f : List Int → Int} : ∀ {T : Tab}, Keys1 T → S ∈ T.map (·.1) → wsum (T.map fun e => if e.1 = S then (e.1, getT T S + n) else e) f = wsum T f + n * f S
  | [], _, h => absurd h List.not_mem_nil
  | a :: r, hn, h => by
    obtain ⟨n1, n2⟩ := List.nodup_cons.mp (show (a.1 :: r.map (·.1)).Nodup from hn)
    rw [List.map_cons, wsum_cons, wsum_cons, getT_cons]
    by_cases z : a.1 = S
    · rw [if_pos z, map_put_not (by rw [← z]; exact n1), if_pos z]
      show (a.2 + n) * f a.1 + _ = _
      rw [Int.add_mul, z]
      omega
    · have hm : S ∈ r.map (·.1) := by
        rcases List.mem_cons.mp h with h | h
        · exact absurd h.symm z
        · exact h
      have ih := map_put_sum (n := n) (f := f) n2 hm
      have e : ∀ e : List Int × Int, (if e.1 = S then (e.1, (if a.1 = S then a.2 else getT r S) + n) else e) = if e.1 = S then (e.1, getT r S + n) else e := fun e => by rw [if_neg z]
      rw [if_neg z, List.map_congr_left (fun x _ => e x), ih]
      omega
theorem putT_sum {T : Tab} {S : List Int} {n : Int} {f : List Int → Int} (h : Keys1 T) : wsum (putT T S (getT T S + n)) f = wsum T f + n * f S := by
  unfold putT
  by_cases c : (T.any fun e => decide (e.1 = S)) = true
  · rw [if_pos c]
    exact map_put_sum h (any_key.mp c)
  · rw [if_neg c, wsum_app, getT_none (fun z => c (any_key.mpr z))]
    show _ + ((((0 : Int) + n) * f S) + 0) = _
    rw [Int.zero_add, Int.add_zero]
theorem getT_sum {S : List Int} : ∀ {T : Tab}, Keys1 T → getT T S = wsum T fun X => if X = S then 1 else 0
  | [], _ => rfl
  | a :: r, hn => by
    obtain ⟨n1, n2⟩ := List.nodup_cons.mp (show (a.1 :: r.map (·.1)).Nodup from hn)
    rw [getT_cons, wsum_cons]
    by_cases z : a.1 = S
    · rw [if_pos z, if_pos z, ← getT_sum n2, getT_none (by rw [← z]; exact n1)]
      omega
    · rw [if_neg z, if_neg z, getT_sum n2]
      omega
/-- the set of rounds that a list of rounds takes, from one on -/
def keyN (t : List Nat) : List Int := sortI (t.map fun r : Nat => (r : Int) + 1)
def Tells (ws : List (Int × Int)) (j : Nat) (T : Tab) : Prop := Keys1 T ∧ (∀ e ∈ T, e.1.length = j) ∧ T.length ≤ 8 ^ j ∧ ∀ f, wsum T f = ((asgR ws j).map fun t => f (keyN t)).sum
theorem keyN_len (t : List Nat) : (keyN t).length = t.length := by
  unfold keyN
  rw [(sortI_perm _).length_eq, List.length_map]
theorem keyN_mem {t : List Nat} {r : Nat} : ((r : Int) + 1) ∈ keyN t ↔ r ∈ t := by
  unfold keyN
  rw [(sortI_perm _).mem_iff, List.mem_map]
  constructor
  · rintro ⟨a, h, e⟩
    rw [show r = a by omega]
    exact h
  · intro h
    exact ⟨r, h, rfl⟩
theorem keyN_add (t : List Nat) (r : Nat) : sortI (keyN t ++ [(r : Int) + 1]) = keyN (t ++ [r]) := by
  refine sorted_unique (sortI_sorted _) (sortI_sorted _) ((sortI_perm _).trans (.trans ?_ (sortI_perm _).symm))
  rw [List.map_append]
  exact (sortI_perm _).append_right _
theorem sum_filter2 {α : Type} (p q : α → Bool) (F : α → Int) : ∀ l : List α, ((l.filter fun r => !p r && q r).map F).sum = ((l.filter q).map fun r => if p r = true then 0 else F r).sum
  | [] => rfl
  | a :: r => by
    have ih := sum_filter2 p q F r
    cases hq : q a with
    | false =>
      rw [List.filter_cons_of_neg (by rw [hq, Bool.and_false]; exact Bool.false_ne_true), List.filter_cons_of_neg (by rw [hq]; exact Bool.false_ne_true)]
      exact ih
    | true =>
      rw [List.filter_cons_of_pos (l := r) hq, List.map_cons, List.sum_cons, ← ih]
      cases hp : p a with
      | false =>
        rw [List.filter_cons_of_pos (by rw [hp, hq]; rfl), List.map_cons, List.sum_cons, if_neg (by simp)]
      | true =>
        rw [List.filter_cons_of_neg (by rw [hp]; simp), if_pos rfl, Int.zero_add]
theorem sum_flat {α β : Type} (g : α → List β) (F : β → Int) : ∀ l : List α, ((l.flatMap g).map F).sum = (l.map fun t => ((g t).map F).sum).sum
  | [] => rfl
  | a :: r => by rw [List.flatMap_cons, List.map_append, List.sum_append, List.map_cons, List.sum_cons, sum_flat g F r]
/-- what one set of rounds leads to, by the rounds of the next window -/
def roundsOf (lo : Int) (m : Nat) (f : List Int → Int) (S : List Int) : Int := ((List.range m).map fun i : Nat => if lo + (i : Int) ∈ S then (0 : Int) else f (sortI (S ++ [lo + (i : Int)]))).sum
theorem roundsOf_succ (lo : Int) (m : Nat) (f : List Int → Int) (S : List Int) : roundsOf lo (m + 1) f S = roundsOf lo m f S + if lo + (m : Int) ∈ S then (0 : Int) else f (sortI (S ++ [lo + (m : Int)])) := by
  unfold roundsOf
  rw [List.range_succ, List.map_append, List.sum_append]
  show _ + (_ + (0 : Int)) = _
  rw [Int.add_zero]
theorem fit_list {ws : List (Int × Int)} {j : Nat} {lo hi : Int} (h1 : firstI ws j = lo) (h2 : lastI ws j = hi) (hlo : 1 ≤ lo) (hhi : hi ≤ ws.length) :
    ((List.range ws.length).filter fun r => fitI ws r j).map (fun r : Nat => (r : Int) + 1) = (List.range (hi + 1 - lo).toNat).map fun i : Nat => lo + (i : Int) := by
  refine sorted_unique ?_ ?_ ?_
  · rw [List.pairwise_map]
    exact (List.pairwise_lt_range.filter _).imp fun h => by omega
  · rw [List.pairwise_map]
    exact List.pairwise_lt_range.imp fun h => by omega
  · refine (List.perm_ext_iff_of_nodup ?_ ?_).mpr fun z => ?_
    · rw [List.Nodup, List.pairwise_map]
      exact (List.pairwise_lt_range.filter _).imp fun h => by omega
    · rw [List.Nodup, List.pairwise_map]
      exact List.pairwise_lt_range.imp fun h => by omega
    · rw [List.mem_map, List.mem_map]
      constructor
      · rintro ⟨r, hr, rfl⟩
        obtain ⟨k1, k2⟩ := List.mem_filter.mp hr
        have := fit_of.mp k2
        rw [h1, h2] at this
        refine ⟨((r : Int) + 1 - lo).toNat, List.mem_range.mpr (by omega), by omega⟩
      · rintro ⟨i, hi', rfl⟩
        have := List.mem_range.mp hi'
        refine ⟨(lo + (i : Int) - 1).toNat, List.mem_filter.mpr ⟨List.mem_range.mpr (by omega), fit_of.mpr ?_⟩, by omega⟩
        rw [h1, h2]
        omega
theorem ext_sum {ws : List (Int × Int)} {j : Nat} {lo hi : Int} (h1 : firstI ws j = lo) (h2 : lastI ws j = hi) (hlo : 1 ≤ lo) (hhi : hi ≤ ws.length) (f : List Int → Int) (t : List Nat) :
    ((extA ws j t).map fun t => f (keyN t)).sum = roundsOf lo (hi + 1 - lo).toNat f (keyN t) := by
  unfold extA roundsOf
  rw [List.map_map, sum_filter2 (fun r => t.contains r) (fun r => fitI ws r j)]
  have e := fit_list h1 h2 hlo hhi
  have e2 := congrArg (fun l : List Int => (l.map fun z => if z ∈ keyN t then (0 : Int) else f (sortI (keyN t ++ [z]))).sum) e
  have e2 : ((((List.range ws.length).filter fun r => fitI ws r j).map (fun r : Nat => (r : Int) + 1)).map fun z => if z ∈ keyN t then (0 : Int) else f (sortI (keyN t ++ [z]))).sum = (((List.range (hi + 1 - lo).toNat).map fun i : Nat => lo + (i : Int)).map fun z => if z ∈ keyN t then (0 : Int) else f (sortI (keyN t ++ [z]))).sum := e2
  rw [List.map_map, List.map_map] at e2
  refine Eq.trans ?_ e2
  congr 1
  apply List.map_congr_left
  intro r _
  show (if t.contains r = true then 0 else f (keyN (t ++ [r]))) = if (r : Int) + 1 ∈ keyN t then (0 : Int) else f (sortI (keyN t ++ [(r : Int) + 1]))
  rw [keyN_add]
  by_cases c : r ∈ t
  · rw [if_pos (List.contains_iff_mem.mpr c), if_pos (keyN_mem.mpr c)]
  · rw [if_neg (fun z => c (List.contains_iff_mem.mp z)), if_neg (fun z => c (keyN_mem.mp z))]
theorem Tells.next {ws : List (Int × Int)} {j : Nat} {lo hi : Int} {T L : Tab} (h : Tells ws j T) (h1 : firstI ws j = lo) (h2 : lastI ws j = hi) (hlo : 1 ≤ lo) (hhi : hi ≤ ws.length) (hk : Keys1 L) (hl : ∀ e ∈ L, e.1.length = j + 1) (hz : L.length ≤ T.length * 8)
    (hw : ∀ f, wsum L f = wsum T (roundsOf lo (hi + 1 - lo).toNat f)) : Tells ws (j + 1) L := by
  refine ⟨hk, hl, ?_, fun f => ?_⟩
  · have := h.2.2.1
    rw [Nat.pow_succ]
    omega
  · rw [hw, h.2.2.2]
    show _ = (((asgR ws j).flatMap (extA ws j)).map _).sum
    rw [sum_flat]
    congr 1
    apply List.map_congr_left
    intro t _
    exact (ext_sum h1 h2 hlo hhi f t).symm
theorem tells_zero (ws : List (Int × Int)) : Tells ws 0 [([], 1)] := by
  refine ⟨by unfold Keys1; simp, fun e he => ?_, by decide, fun f => ?_⟩
  · rw [List.mem_singleton.mp he]
    rfl
  · show (1 : Int) * f [] + 0 = f (keyN []) + 0
    rw [Int.one_mul, List.length_eq_zero_iff.mp (keyN_len [])]
def fullS (n : Nat) : List Int := (List.range n).map fun i : Nat => 1 + (i : Int)
theorem Tells.last {ws : List (Int × Int)} {T : Tab} (h : Tells ws ws.length T) : getT T (fullS ws.length) = way ws 0 := by
  rw [getT_sum h.1, h.2.2.2, ← all_len, ← asg_len]
  have : ∀ t ∈ asgR ws ws.length, (if keyN t = fullS ws.length then (1 : Int) else 0) = 1 := fun t ht => by
    rw [if_pos]
    obtain ⟨p, l⟩ := mem_asg.mp ht
    have hp : t.Perm (List.range ws.length) := perm_sub p.1 (fun x hx => by
      obtain ⟨w, hw⟩ := List.getElem?_of_mem hx
      exact List.mem_range.mpr (p.2 w x hw).1) (by rw [l, List.length_range])
    refine sorted_unique (sortI_sorted _) ?_ ((sortI_perm _).trans ?_)
    · unfold fullS
      rw [List.pairwise_map]
      exact List.pairwise_lt_range.imp fun h => by omega
    · have := hp.map fun r : Nat => (r : Int) + 1
      refine this.trans (.of_eq ?_)
      unfold fullS
      apply List.map_congr_left
      intro i _
      omega
  rw [List.map_congr_left this]
  generalize asgR ws ws.length = A
  induction A with
  | nil => rfl
  | cons a r ih => rw [List.map_cons, List.sum_cons, ih, List.length_cons]; omega

end Su
namespace Su
section
variable {P : Program} {w : World} {K : PySem.W.Frag} {mg : Str → Option Value} {base : Heap}
def spCount9 (K : PySem.W.Frag) : Sp := fun vs H Q _ => ∃ (l : Addr) (qs : List Win), vs = [.ref l] ∧ SqL K H l (refs qs) ∧ TW H qs ∧ qs.length ≤ 8 ∧ WinB qs.length qs ∧ ∀ H', Ex H H' → Q (.int (way (wsOf qs) 0)) H'
theorem ints_flat (S : List Int) : (S.map V.int).all flatV = true := by
  rw [List.all_eq_true]
  intro x hx
  obtain ⟨z, _, rfl⟩ := List.mem_map.mp hx
  rfl
theorem rg_full (n : Nat) : rgV 1 ((n : Int) + 1) = (keyI (fullS n)).map kV := by
  rw [keyI_V]
  unfold rgV fullS
  rw [List.map_map, show ((n : Int) + 1 - 1).toNat = n by omega]
  rfl
theorem kvT_len (T : Tab) : (kvT T).length = T.length := List.length_map _
theorem kvT_at {T : Tab} {i : Nat} {k : List Key} {v : V} (h : (kvT T)[i]? = some (k, v)) : ∃ e, T[i]? = some e ∧ k = keyI e.1 ∧ v = .int e.2 := by
  unfold kvT at h
  rw [List.getElem?_map] at h
  cases hc : T[i]? with
  | none => rw [hc] at h; cases h
  | some e => rw [hc] at h; cases h; exact ⟨e, rfl, rfl, rfl⟩
theorem take_succ {T : Tab} {i : Nat} {e : List Int × Int} (h : T[i]? = some e) : T.take (i + 1) = T.take i ++ [e] := by
  rw [List.take_add_one, h]
  rfl
theorem exFrz {H H' : Hp} {d : Addr} {u : HO} (e : Ex H H') (h : H d = none) : Ex H (upd H' d u) := Ex.mut e h
set_option maxHeartbeats 4000000 in
theorem ok__law_count {f : Addr} {fd : FuncData} {k : Nat} (F : Fun K "_law_count" "_law_count" s__law_count f fd) (T : Top K mg) : FnOk P w K mg base CX0 (k + 1) f fd ["_law_windows"] (spCount9 K) := by
  have nd := sc__law_count.nd
  refine F.ok sc__law_count (fun vs H Q E h => ?_) (fun cdv A outer s H vs Q E hr h => ?_)
  · obtain ⟨l, qs, rfl, _⟩ := h
    rfl
  · obtain ⟨l, qs, rfl, hl, ht, hn, hW, q⟩ := h
    refine ⟨_, (pss_cons (ps_set (i := 1) nd rfl (.inl rfl) (pe_callB call_len_seq (by rfl) T.m_len PySem.boot_len (pa_cons (pv 0) pa_nil)))
      (pss_cons (ps_set (i := 2) nd rfl (.inl rfl) (pe_dispT1 (hu_of hr) (pe_tup pa_nil) pe_int))
      (pss_cons (ps_for PassesOwn.never rfl (pi_list (pv 0)) (pg_tup rfl (pgs_cons (pg_name (i := 3) nd rfl (.inl rfl)) (pgs_cons (pg_name (i := 4) nd rfl (.inl rfl)) pgs_nil)))
        (pss_cons (ps_set (i := 5) nd rfl (.inl rfl) pe_dnewT)
          (pss_cons (ps_lock (ps_for PassesOwn.never rfl (pi_keys (pv 2)) (pg_name (i := 6) nd rfl (.inl rfl))
            (pss_one (ps_for PassesOwn.never rfl (pi_range2 rfl T.m_range (pa_cons (pv 3) (pa_cons (pe_op op_add (pv 4) pe_int) pa_nil))) (pg_name (i := 7) nd rfl (.inl rfl))
                (pss_one (ps_if (pt_cmpR op_notIn_seq (pv 7) (pv 6) rfl)
                    (pss_cons (ps_set (i := 8) nd rfl (.inl rfl) (pe_callTy call_tuple_of (by rfl) T.m_tuple (by decide +kernel) (pa_cons (pe_callB cr_sortedI (by rfl) T.m_sorted (by decide +kernel) (pa_cons (pe_op op_cat (pe_callTy call_list_of (by rfl) T.m_list (by decide +kernel) (pa_cons (pv 6) pa_nil)) (pe_lst (pa_cons (pv 7) pa_nil))) pa_nil)) pa_nil)))
                      (pss_one (ps_dput (hu_of hr) (pv 5) (pv 8) (pe_op op_add (pe_dget2 (hu_of hr) (pv 5) (pv 8) pe_int ⟨rfl, rfl, rfl, rfl⟩) (pe_dget (hu_of hr) (pv 2) (pv 6) (fun _ _ => rfl))) rfl)))
                    pss_nil))))))
          (pss_one (ps_set (i := 2) nd rfl (.inl rfl) (pv 5))))))
      (pss_one (ps_ret (pe_dget2 (hu_of hr) (pv 2) (pe_tupRg rfl (by rfl) T.m_tuple (prg_2 (by rfl) T.m_range pe_int (pe_op op_add (pv 1) pe_int))) pe_int ⟨rfl, rfl, rfl, rfl⟩)))))), ?_⟩
    refine q_asg (v := .int (qs.length : Int)) (ev_is (ev_len (ev_var rfl) hl) (by rw [refs_len])) fun H1 e1 => ?_
    intro d hd
    refine eu_tup (vs := []) ea_nil (by decide) _ (Ex.refl _) _ fun b H2 hb e2 h2 => ?_
    refine ev_c H2 (Ex.refl _) _ fun H3 e3 => ?_
    refine ⟨b, keyI [], rfl, e3 _ _ h2, (e2.trans e3) _ _ upd_same, ?_⟩
    have hd0 : H d = none := fresh_back e1 hd
    have ex3 : Ex H (upd H3 d (.dT [(keyI [], .int 1)])) := exFrz ((e1.trans (Ex.new hd)).trans (e2.trans e3)) hd0
    clear hb h2
    show tSeq _ _ _ _ _
    refine q_forL (ev_var rfl) (ex_l ex3 hl) (fun i σ' H' => ∃ (T : Tab) (d : Addr) (y3 y4 y5 y6 y7 y8 : Option V), σ' = [some (.ref l), some (.int (qs.length : Int)), some (.ref d), y3, y4, y5, y6, y7, y8] ∧ Ex H H' ∧ H d = none ∧ H' d = some (.dT (kvT T)) ∧ Tells (wsOf qs) i T) ?_ ?_ ?_ ?_
    · intro H4 e4
      exact ⟨[([], 1)], d, _, _, _, _, _, _, rfl, ex3.trans e4, hd0, e4 _ _ upd_same, tells_zero _⟩
    · rintro i σ' H' _ ⟨T, d, y3, y4, y5, y6, y7, y8, rfl, ex, _⟩
      exact ex_l ex hl
    · clear e1 e2 e3 ex3 hd hd0 H1 H2 H3 d b
      rintro i x σ' H4 gx ⟨T, d, y3, y4, y5, y6, y7, y8, rfl, ex, hd0, hd, hT⟩
      obtain ⟨qw, gw, rfl⟩ := refs_at gx
      have hqm := List.mem_of_getElem? gw
      have hi : i < qs.length := (List.getElem?_eq_some_iff.mp gw).1
      obtain ⟨b1, b2, b3, b4⟩ := hW.2 qw hqm
      refine tg_two (K := K) (st_of (ht.ex ex qw hqm)) tg_name tg_name H4 (Ex.refl _) _ ?_
      have hf1 := win_first gw
      have hf2 := win_last gw
      generalize qw.2.1 = lo at b1 b2 hf1 ⊢
      generalize qw.2.2 = hi2 at b3 b4 hf2 ⊢
      have hTl : T.length * 8 ≤ 16777216 := by
        have h1 := hT.2.2.1
        have h2 : 8 ^ i ≤ 8 ^ 7 := Nat.pow_le_pow_right (by decide) (by omega)
        have h3 : (8 : Nat) ^ 7 = 2097152 := by decide
        omega
      refine q_newT fun p hp => ?_
      have npd : p ≠ d := fun z => by rw [z, hd] at hp; cases hp
      have hp0 : H p = none := fresh_back ex hp
      refine s_forKeysT (D := { nx := _, rt := _, bk := _, ct := _ }) (kvs := kvT T) (d := d) rfl (by rw [upd_ne npd.symm]; exact hd) (fun od a σ' H' => ∃ (L : Tab) (y6 y7 y8 : Option V), σ' = [some (.ref l), some (.int (qs.length : Int)), some (.ref d), some (.int lo), some (.int hi2), some (.ref p), y6, y7, y8] ∧ Ex H H' ∧ H' d = some (.frz od (.dT (kvT T))) ∧ H' p = some (.dT (kvT L)) ∧ Keys1 L ∧ (∀ e ∈ L, e.1.length = i + 1) ∧ L.length ≤ a * 8 ∧ ∀ f, wsum L f = wsum (T.take a) (roundsOf lo (hi2 + 1 - lo).toNat f)) ?_ ?_ ?_ ?_
      · intro od
        refine ⟨[], _, _, _, rfl, exFrz (exFrz ex hp0) hd0, upd_same, ?_, List.nodup_nil, fun e he => absurd he List.not_mem_nil, Nat.zero_le _, fun f => ?_⟩
        · rw [upd_ne npd]
          exact upd_same
        · rfl
      · rintro od a σ' H' _ ⟨L, y6, y7, y8, _, _, h, _⟩
        exact h
      · rintro od a kk vv qk σ' H5 gk ⟨L, y6, y7, y8, rfl, ex5, hd5, hp5, hk5, hl5, hz5, hw5⟩ hq5
        obtain ⟨e, ge, rfl, rfl⟩ := kvT_at gk
        have hem := List.mem_of_getElem? ge
        have hel := hT.2.1 e hem
        have ha : a < T.length := (List.getElem?_eq_some_iff.mp ge).1
        rw [keyI_V] at hq5
        refine s_forR2 (lo := lo) (n := hi2 + 1) (ea_cons (ev_var rfl) (ea_cons (ev_op (ev_var rfl) ev_c rv_I0) ea_nil)) ⟨by omega, by omega, by omega, by omega⟩ (fun c σ' H' => ∃ (L : Tab) (y7 y8 : Option V), σ' = [some (.ref l), some (.int (qs.length : Int)), some (.ref d), some (.int lo), some (.int hi2), some (.ref p), some (.ref qk), y7, y8] ∧ Ex H H' ∧ H' d = some (.frz od (.dT (kvT T))) ∧ H' p = some (.dT (kvT L)) ∧ H' qk = some (.tup (e.1.map V.int)) ∧ Keys1 L ∧ (∀ e ∈ L, e.1.length = i + 1) ∧ L.length ≤ a * 8 + c ∧ ∀ f, wsum L f = wsum (T.take a) (roundsOf lo (hi2 + 1 - lo).toNat f) + e.2 * roundsOf lo c f e.1) ?_ ?_ ?_
        · intro H6 e6
          refine ⟨L, _, _, rfl, ex5.trans e6, e6 _ _ hd5, e6 _ _ hp5, e6 _ _ hq5, hk5, hl5, by omega, fun f => ?_⟩
          rw [hw5]
          show _ = _ + e.2 * (0 : Int)
          omega
        · clear hd5 hp5 hk5 hl5 hz5 hw5 hq5
          rintro c σ' H6 hc ⟨L, y7, y8, rfl, ex6, hd6, hp6, hq6, hk6, hl6, hz6, hw6⟩
          have hc8 : c < 8 := by omega
          refine s_when (et_is (et_test (ev_op (ev_var rfl) (ev_var rfl) (rv_niT (st_of hq6) rfl (ints_flat _)))) (by rw [inV_int])) (fun hb H7 e7 => ?_) (fun hb H7 e7 => ?_)
          · have hnm : lo + (c : Int) ∉ e.1 := fun z => by rw [decide_eq_true z] at hb; cases hb
            refine q_asgU (xs := (sortI (e.1 ++ [lo + (c : Int)])).map V.int) (eu_tupOfL (K := K) (el_sortedN (K := K) (ns := e.1 ++ [lo + (c : Int)]) (by
              rw [List.map_append]
              exact el_cat (el_listT (K := K) (ev_var rfl) (st_of (e7 _ _ hq6))) (el_lst (ea_cons (ev_var rfl) ea_nil) (by show 1 ≤ 100000; decide)) (by rw [List.length_map]; show _ + 1 ≤ _; omega)))) fun t H8 ht8 e8 h8 => ?_
            have hd8 := e8 _ _ (e7 _ _ hd6)
            have hp8 := e8 _ _ (e7 _ _ hp6)
            have hq8 := e8 _ _ (e7 _ _ hq6)
            have ex8 := (ex6.trans e7).trans e8
            rw [← keyI_V] at h8 hq8
            refine s_dputT (v := .int (getT L (sortI (e.1 ++ [lo + (c : Int)])) + e.2)) (ev_op (ev_is (ev_dget2T (ev_var rfl) (ev_var rfl) ev_c (.inl hp8) h8) (valV_getD _ _)) (ev_dgetT (ev_var rfl) (ev_var rfl) (.inr ⟨od, hd8⟩) hq8 (valV_mem hT.1 hem)) rv_I0) (ev_var rfl) (ev_var rfl) hp8 h8 (by rw [kvT_len, sizeLine_eq]; omega) fun H9 e9 => ?_
            refine ⟨putT L (sortI (e.1 ++ [lo + (c : Int)])) (getT L (sortI (e.1 ++ [lo + (c : Int)])) + e.2), _, _, rfl, exFrz (ex8.trans e9) hp0, ?_, ?_, ?_, putT_keys hk6, fun x hx => ?_, ?_, fun f => ?_⟩
            · rw [upd_ne npd.symm]
              exact e9 _ _ hd8
            · rw [upd_same, putT_K]
            · rw [upd_ne (fun z => by rw [z, hp8] at hq8; cases hq8), ← keyI_V]
              exact e9 _ _ hq8
            · rcases putT_mem hx with h | h
              · rw [h, (sortI_perm _).length_eq, List.length_append, hel]
                rfl
              · exact hl6 x h
            · have := putT_len L (sortI (e.1 ++ [lo + (c : Int)])) (getT L (sortI (e.1 ++ [lo + (c : Int)])) + e.2)
              omega
            · rw [putT_sum hk6, hw6, roundsOf_succ, if_neg hnm, Int.mul_add]
              omega
          · have hm : lo + (c : Int) ∈ e.1 := by
              by_cases z : lo + (c : Int) ∈ e.1
              · exact z
              · rw [decide_eq_false z] at hb; cases hb
            refine ⟨L, _, _, rfl, ex6.trans e7, e7 _ _ hd6, e7 _ _ hp6, e7 _ _ hq6, hk6, hl6, by omega, fun f => ?_⟩
            rw [hw6, roundsOf_succ, if_pos hm, Int.add_zero]
        · rintro σ' H6 ⟨L, y7, y8, rfl, ex6, hd6, hp6, hq6, hk6, hl6, hz6, hw6⟩
          refine ⟨L, _, _, _, rfl, ex6, hd6, hp6, hk6, hl6, by omega, fun f => ?_⟩
          rw [hw6, take_succ ge, wsum_app]
          show _ = _ + (e.2 * roundsOf lo (hi2 + 1 - lo).toNat f e.1 + (0 : Int))
          rw [Int.add_zero]
      · rintro od σ' H5 ⟨L, y6, y7, y8, rfl, ex5, hd5, hp5, hk5, hl5, hz5, hw5⟩
        refine s_asg (ev_var rfl) fun H6 e6 => ?_
        refine ⟨L, p, _, _, _, _, _, _, rfl, (exFrz ex5 hd0).trans e6, hp0, e6 _ _ (by rw [upd_ne npd]; exact hp5), ?_⟩
        rw [kvT_len] at hz5 hw5
        rw [List.take_length] at hw5
        exact hT.next hf1 hf2 b1 (by rw [ws_len]; exact b4) hk5 hl5 hz5 hw5
    · rintro σ' H4 ⟨T, d, y3, y4, y5, y6, y7, y8, rfl, ex, hd0, hd, hT⟩
      rw [refs_len] at hT
      refine s_ret (v := .int (way (wsOf qs) 0)) (ev_is (ev_dget2U (ev_var rfl) (eu_rg2 ev_c (ev_op (ev_var rfl) ev_c rv_I0) (RgOk.of_le (by omega) (by omega) (by omega) (by omega))) ev_c (.inl hd) (rg_full qs.length)) ?_) fun H5 e5 => q H5 (ex.trans e5)
      rw [valV_getD]
      have hT' : Tells (wsOf qs) (wsOf qs).length T := by rw [ws_len]; exact hT
      have := hT'.last
      rw [ws_len] at this
      rw [this]
end

end Su
namespace Su
/-! ### the law -/
section
variable {P : Program} {w : World} {K : PySem.W.Frag} {mg : Str → Option Value} {base : Heap}
def spLaw (K : PySem.W.Frag) : Sp := fun vs H Q _ => ∃ (a : Addr) (ns : List Int), vs = [.ref a] ∧ SqL K H a (ns.map V.int) ∧ ns.length ≤ 63 ∧ ∀ H', Q (.bl true) H'
theorem spV_count9 {fT l : Addr} {qs : List Win} {H : Hp} (hl : SqL K H l (refs qs)) (ht : TW H qs) (hn : qs.length ≤ 8) : SpV (spCount K fT) [.ref l] H (.int (way (wsOf qs) 0)) := fun H1 e Q q E => ⟨l, qs, rfl, ex_l e hl, ht.ex e, fun _ H' e' => q H' e', fun h => absurd hn (by omega)⟩
set_option maxHeartbeats 4000000 in
theorem ok_law {f : Addr} {fd : FuncData} (F : Fun K "law" "law" s_law f fd) (T : Top K mg) : FnOk P w K mg base CX0 4 f fd ["_law_script"] (spLaw K) := by
  have nd := sc_law.nd
  have G__law_draws : FnOk P w K mg base CX0 1 T.f__law_draws T.fd__law_draws ["_law_script", "_law_many"] (spDraws K) := ok__law_draws T.F__law_draws T
  have G__law_wide : FnOk P w K mg base CX0 1 T.f__law_wide T.fd__law_wide ["_law_some", "_law_size"] (spWideB K) := ok__law_wide T.F__law_wide T
  have G__law_count : FnOk P w K mg base CX0 1 T.f__law_count T.fd__law_count ["_law_windows"] (spCount9 K) := ok__law_count T.F__law_count T
  have G_count_orders : FnOk P w K mg base (L2.CX P w) 3 T.f_count_orders T.fd_count_orders ["windows"] (spCount K T.f_TooMany) := okx_count_orders T.F_count_orders T
  refine F.ok sc_law (fun vs H Q E h => ?_) (fun cdv A outer s H vs Q E hr h => ?_)
  · obtain ⟨a, ns, rfl, _⟩ := h
    rfl
  · obtain ⟨a, ns, rfl, hS, hlen, q⟩ := h
    refine ⟨_, (pss_cons (ps_set (i := 1) nd rfl (.inl rfl) (pe_call G__law_draws (hr.mono (by decide)) (by rfl) T.m__law_draws T.F__law_draws.kp T.b__law_draws .nil pass0 (pa_cons (pv 0) (pa_cons pe_int pa_nil))))
      (pss_cons (ps_set (i := 2) nd rfl (.inl rfl) (pe_op op_mod (pe_ix ix_list (pv 1) pe_int (fun _ _ => rfl)) pe_int))
      (pss_cons (ps_set (i := 3) nd rfl (.inl rfl) (pe_lst pa_nil))
      (pss_cut (ps_if (pt_cmpR op_gt (pv 2) pe_int (nomark _))
        (pss_one (ps_set (i := 3) nd rfl (.inl rfl) (pe_call G__law_wide (hr.mono (by decide)) (by rfl) T.m__law_wide T.F__law_wide.kp T.b__law_wide .nil pass0 (pa_cons (pe_slice sl_list (pv 1) (po_some pe_int) po_none) (pa_cons (pv 2) pa_nil)))))
        pss_nil)
      (pss_cons (ps_set (i := 4) nd rfl (.inl rfl) (pe_callTy call_list_of (by rfl) T.m_list (by decide +kernel) (pa_cons (pv 3) pa_nil)))
      (pss_cons (ps_set (i := 5) nd rfl (.inl rfl) (pe_call G__law_count (hr.mono (by decide)) (by rfl) T.m__law_count T.F__law_count.kp T.b__law_count .nil pass0 (pa_cons (pv 3) pa_nil)))
      (pss_cons (ps_for PassesOwn.never rfl (pi_range1 rfl T.m_range (pa_cons pe_int pa_nil)) (pg_name (i := 6) nd rfl (.inl rfl))
        (pss_cons (ps_set (i := 7) nd rfl (.inl rfl) (pe_call G_count_orders (hr.mono (by decide)) (by rfl) T.m_count_orders T.F_count_orders.kp T.b_count_orders .nil passL (pa_cons (pv 4) pa_nil)))
          (pss_one (ps_if (PW.pt (pw_or (pt_not (pt_val (pe_callB call_isi (by rfl) T.m_isinstance (by decide +kernel) (pa_cons (pv 7) (pa_cons (pe_bltn (v := .ty "int") (by rfl) T.m_int (by decide +kernel) rfl) pa_nil))))) (pw_or (pt_val (pe_callB call_isi (by rfl) T.m_isinstance (by decide +kernel) (pa_cons (pv 7) (pa_cons (pe_bltn (v := .ty "bool") (by rfl) T.m_bool (by decide +kernel) rfl) pa_nil)))) (pw_or (pt_cmpR (op_neD hr.units) (pv 4) (pv 3) (nomark _)) (pw_or1 (pt_cmpR op_ne (pv 7) (pv 5) (nomark _)))))))
            (pss_one (ps_ret pe_bl))
            pss_nil))))
      (pss_one (ps_ret pe_bl))))))))), ?_⟩
    refine q_callN (by walk_at "ea") (spN_draws (m := 20) hS hlen (by decide)) ?_
    rintro _ p H1 ⟨rows, hR, rfl⟩ hp e1 h1
    have hl := hR.1
    have hs := sq_of (K := K) h1
    refine q_asg (by walk_at "ev") fun H2 e2 => ?_
    have hs := ex_l e2 hs
    have a1 := Int.emod_nonneg (rows.getD (Int.toNat 0) 0) (show (9 : Int) ≠ 0 by decide)
    have a2 := Int.emod_lt_of_pos (rows.getD (Int.toNat 0) 0) (show (0 : Int) < 9 by decide)
    generalize rows.getD (Int.toNat 0) 0 % 9 = z at a1 a2 ⊢
    obtain ⟨n, rfl⟩ := Int.eq_ofNat_of_zero_le a1
    refine q_asgL (el_lst ea_nil (by decide)) fun p1 H4 hp1 e4 h4 => ?_
    have hs := ex_l e4 hs
    clear e1 e2 h1 hp
    refine q_cut (M := fun σ' H' => ∃ (qs : List Win) (l : Addr), σ' = [some (.ref a), some (.ref p), some (.int (n : Int)), some (.ref l), none, none, none, none] ∧ H' l = some (.lst (refs qs)) ∧ TW H' qs ∧ WinB n qs) ?_ ?_
    · refine s_when (by walk_at "et") (fun hb H5 e5 => ?_) (fun hb H5 e5 => ?_)
      · have hs := ex_l e5 hs
        have hpos : (0 : Int) < n := of_decide_eq_true hb
        refine (el_sl (by walk_at "ev") (eo_some (by walk_at "ev")) eo_none hs) H5 (Ex.refl H5) _ fun p0 H6 hp0 e6 h6 => ?_
        rw [show (1 : Int) = ((1 : Nat) : Int) from rfl, cut_from, ← List.map_drop] at h6
        have hs := ex_l e6 hs
        refine (show EvA _ _ H6 [.int (n : Int)] from by walk_at "ea") H6 (Ex.refl H6) _ fun H7 e7 => ?_
        refine ⟨p0, rows.drop 1, n, rfl, sq_of (ex_g e7 h6), by rw [List.length_drop]; omega, by omega, by omega, fun qs H8 l hl8 e8 h8 ht8 hW => ?_⟩
        exact ⟨qs, l, rfl, h8, ht8, hW⟩
      · have hz : ¬ (0 : Int) < n := of_decide_eq_false hb
        exact ⟨[], p1, rfl, e5 _ _ h4, TW.nil, by show 0 = n; omega, fun q hq => absurd hq List.not_mem_nil⟩
    clear hs e4 h4 hp1
    rintro _ H5 ⟨qs, l, rfl, hl5, ht5, hW⟩
    obtain ⟨rfl, hW2⟩ := id hW
    refine q_asgL (el_list (by walk_at "ev") (sq_of hl5)) fun l2 H6 hl26 e6 h6 => ?_
    have hl6 := e6 _ _ hl5
    have ht6 := ht5.ex e6
    refine q_asg (v := .int (way (wsOf qs) 0)) (ev_call (by walk_at "ea") (fun H1 e Q q E => ⟨l, qs, rfl, sq_of (e _ _ hl6), ht6.ex e, by omega, hW, q⟩)) fun H7 e7 => ?_
    have hl7 := e7 _ _ hl6
    have h27 := e7 _ _ h6
    have ht7 := ht6.ex e7
    refine q_forR1 (by walk_at "ea") (by omega) (fun i σ' H' => ∃ (y6 y7 : Option V), σ' = [some (.ref a), some (.ref p), some (.int (qs.length : Int)), some (.ref l), some (.ref l2), some (.int (way (wsOf qs) 0)), y6, y7] ∧ Ex H7 H') ?_ ?_ ?_
    · intro H8 e8
      exact ⟨_, _, rfl, e8⟩
    · rintro i σ' H8 _ ⟨y6, y7, rfl, ex⟩
      refine q_asg (v := .int (way (wsOf qs) 0)) (ev_call (by walk_at "ea") (spV_count9 (sq_of (ex _ _ h27)) (ht7.ex ex) (by omega))) fun H9 e9 => ?_
      have ex9 := ex.trans e9
      refine s_when (b := false) (et_or (a := false) (b := false) (et_not (a := true) (et_B (by walk_at "ev"))) fun _ => et_or (a := false) (b := false) (et_B (by walk_at "ev")) fun _ => et_or (a := false) (b := false) (et_test (ev_op (ev_var rfl) (ev_var rfl) (rv_neD (d := winD qs) (dp_win (sq_of (ex9 _ _ h27)) (ht7.ex ex9)) (dp_win (sq_of (ex9 _ _ hl7)) (ht7.ex ex9)) (shaped_win qs)))) fun _ => et_is (et_test (ev_op (ev_var rfl) (ev_var rfl) (rv_ne rfl))) (by rw [decide_eq_true rfl]; rfl)) (fun h => by cases h) fun _ H10 e10 => ?_
      exact ⟨_, _, rfl, ex9.trans e10⟩
    · rintro σ' H8 ⟨y6, y7, rfl, ex⟩
      exact s_ret ev_c fun H9 e9 => q H9
end

end Su
namespace Su
def top_mk {K : PySem.W.Frag} {h : Heap} {mg : Str → Option Value} (X : K.In h) (G : h.Ns mainGlobals mg)
    {od0 an0 : Option Addr} {sl0 : Array (Option Value)} {oc0 kV0 dc0 pm0 cd0 ct0 : Value} {f0 : Addr}
    (a0 : PySem.W.nsIn K mainGlobals "count_orders" = some (some (.ref f0))) (l0 : K.lookup f0 = some ⟨oc0, od0, .func (PySem.W.fnOf "count_orders" "count_orders" (defArgs s_count_orders) (defBody s_count_orders) (defScope s_count_orders) .none kV0 dc0 pm0 an0 cd0 ct0), sl0⟩) (c0 : PySem.W.codeIn K cd0 "count_orders" = true) (k0 : PySem.W.keepIn K (.ref f0) = true)
    {od1 an1 : Option Addr} {sl1 : Array (Option Value)} {oc1 kV1 dc1 pm1 cd1 ct1 : Value} {f1 : Addr}
    (a1 : PySem.W.nsIn K mainGlobals "refuse_many" = some (some (.ref f1))) (l1 : K.lookup f1 = some ⟨oc1, od1, .func (PySem.W.fnOf "refuse_many" "refuse_many" (defArgs s_refuse_many) (defBody s_refuse_many) (defScope s_refuse_many) .none kV1 dc1 pm1 an1 cd1 ct1), sl1⟩) (c1 : PySem.W.codeIn K cd1 "refuse_many" = true) (k1 : PySem.W.keepIn K (.ref f1) = true)
    {od2 an2 : Option Addr} {sl2 : Array (Option Value)} {oc2 kV2 dc2 pm2 cd2 ct2 : Value} {f2 : Addr}
    (a2 : PySem.W.nsIn K mainGlobals "with_window" = some (some (.ref f2))) (l2 : K.lookup f2 = some ⟨oc2, od2, .func (PySem.W.fnOf "with_window" "with_window" (defArgs s_with_window) (defBody s_with_window) (defScope s_with_window) .none kV2 dc2 pm2 an2 cd2 ct2), sl2⟩) (c2 : PySem.W.codeIn K cd2 "with_window" = true) (k2 : PySem.W.keepIn K (.ref f2) = true)
    {od3 an3 : Option Addr} {sl3 : Array (Option Value)} {oc3 kV3 dc3 pm3 cd3 ct3 : Value} {f3 : Addr}
    (a3 : PySem.W.nsIn K mainGlobals "next_windows" = some (some (.ref f3))) (l3 : K.lookup f3 = some ⟨oc3, od3, .func (PySem.W.fnOf "next_windows" "next_windows" (defArgs s_next_windows) (defBody s_next_windows) (defScope s_next_windows) .none kV3 dc3 pm3 an3 cd3 ct3), sl3⟩) (c3 : PySem.W.codeIn K cd3 "next_windows" = true) (k3 : PySem.W.keepIn K (.ref f3) = true)
    {od4 an4 : Option Addr} {sl4 : Array (Option Value)} {oc4 kV4 dc4 pm4 cd4 ct4 : Value} {f4 : Addr}
    (a4 : PySem.W.nsIn K mainGlobals "ways_on" = some (some (.ref f4))) (l4 : K.lookup f4 = some ⟨oc4, od4, .func (PySem.W.fnOf "ways_on" "ways_on" (defArgs s_ways_on) (defBody s_ways_on) (defScope s_ways_on) .none kV4 dc4 pm4 an4 cd4 ct4), sl4⟩) (c4 : PySem.W.codeIn K cd4 "ways_on" = true) (k4 : PySem.W.keepIn K (.ref f4) = true)
    {od5 an5 : Option Addr} {sl5 : Array (Option Value)} {oc5 kV5 dc5 pm5 cd5 ct5 : Value} {f5 : Addr}
    (a5 : PySem.W.nsIn K mainGlobals "_law_draws" = some (some (.ref f5))) (l5 : K.lookup f5 = some ⟨oc5, od5, .func (PySem.W.fnOf "_law_draws" "_law_draws" (defArgs s__law_draws) (defBody s__law_draws) (defScope s__law_draws) .none kV5 dc5 pm5 an5 cd5 ct5), sl5⟩) (c5 : PySem.W.codeIn K cd5 "_law_draws" = true) (k5 : PySem.W.keepIn K (.ref f5) = true)
    {od6 an6 : Option Addr} {sl6 : Array (Option Value)} {oc6 kV6 dc6 pm6 cd6 ct6 : Value} {f6 : Addr}
    (a6 : PySem.W.nsIn K mainGlobals "_law_wide" = some (some (.ref f6))) (l6 : K.lookup f6 = some ⟨oc6, od6, .func (PySem.W.fnOf "_law_wide" "_law_wide" (defArgs s__law_wide) (defBody s__law_wide) (defScope s__law_wide) .none kV6 dc6 pm6 an6 cd6 ct6), sl6⟩) (c6 : PySem.W.codeIn K cd6 "_law_wide" = true) (k6 : PySem.W.keepIn K (.ref f6) = true)
    {od7 an7 : Option Addr} {sl7 : Array (Option Value)} {oc7 kV7 dc7 pm7 cd7 ct7 : Value} {f7 : Addr}
    (a7 : PySem.W.nsIn K mainGlobals "_law_count" = some (some (.ref f7))) (l7 : K.lookup f7 = some ⟨oc7, od7, .func (PySem.W.fnOf "_law_count" "_law_count" (defArgs s__law_count) (defBody s__law_count) (defScope s__law_count) .none kV7 dc7 pm7 an7 cd7 ct7), sl7⟩) (c7 : PySem.W.codeIn K cd7 "_law_count" = true) (k7 : PySem.W.keepIn K (.ref f7) = true)
    {od8 an8 : Option Addr} {sl8 : Array (Option Value)} {oc8 kV8 dc8 pm8 cd8 ct8 : Value} {f8 : Addr}
    (a8 : PySem.W.nsIn K mainGlobals "law" = some (some (.ref f8))) (l8 : K.lookup f8 = some ⟨oc8, od8, .func (PySem.W.fnOf "law" "law" (defArgs s_law) (defBody s_law) (defScope s_law) .none kV8 dc8 pm8 an8 cd8 ct8), sl8⟩) (c8 : PySem.W.codeIn K cd8 "law" = true) (k8 : PySem.W.keepIn K (.ref f8) = true)
    (z0 : PySem.W.nsIn K mainGlobals "abs" = some none)
    (z1 : PySem.W.nsIn K mainGlobals "bool" = some none)
    (z2 : PySem.W.nsIn K mainGlobals "int" = some none)
    (z3 : PySem.W.nsIn K mainGlobals "isinstance" = some none)
    (z4 : PySem.W.nsIn K mainGlobals "len" = some none)
    (z5 : PySem.W.nsIn K mainGlobals "list" = some none)
    (z6 : PySem.W.nsIn K mainGlobals "range" = some none)
    (z7 : PySem.W.nsIn K mainGlobals "sorted" = some none)
    (z8 : PySem.W.nsIn K mainGlobals "sum" = some none)
    (z9 : PySem.W.nsIn K mainGlobals "tuple" = some none)
    {tk0 : Tok} (n0 : PySem.W.nsIn K mainGlobals "MOST_WINDOWS" = some (some (.int 8 tk0)))
    {fc0 : Addr}
    (x1 : PySem.W.nsIn K mainGlobals "SusuError" = some (some (.ref fc0)))
    {fc2 : Addr}
    (x3 : PySem.W.nsIn K mainGlobals "TooMany" = some (some (.ref fc2)))
    (x4 : PySem.W.excIn K fc2 vErr "ValueError.__new__" = true)
    (x5 : PySem.W.keepIn K (.ref fc2) = true)
    (x6_0 : PySem.W.findIn K (.ref fc2) "__getattribute__" = some (some (.builtin "BaseException.__getattribute__")))
    (x6_1 : PySem.W.findIn K (.ref fc2) "__getattr__" = some none)
    (x6_2 : PySem.W.subIn K (.ref fc2) (.type "BaseException") = some true)
    (x6_3 : PySem.W.hasDictIn K fc2 = true)
    (x6_4 : PySem.W.findIn K (.ref fc2) "__class__" = some (some (.builtin "object.__class__")))
    (x6_5 : PySem.W.specialIn K (.builtin "object.__class__") "__get__" = some (some (.builtin "getset_descriptor.__get__")))
    (x6_6 : PySem.W.takesIn K (.builtin "object.__class__") = some true)
    (x6_7 : PySem.W.mroIn K fc2 (.type "object") = some true)
    (x7 : PySem.W.subIn K (.ref fc2) (.type "BaseException") = some true)
    (x8 : PySem.W.typeIn K (.ref fc2) = some (.type "type")) : Top K mg where
      f_count_orders := f0
      fd_count_orders := _
      F_count_orders := fun_mk (st := s_count_orders) l0 c0 k0
      b_count_orders := (fun_mk (st := s_count_orders) l0 c0 k0).binds (ps := ["windows"]) (fun _ _ _ _ _ _ us hl => match us, hl with | [_], _ => rfl)
      m_count_orders := PySem.W.mg_of X G a0
      f_refuse_many := f1
      fd_refuse_many := _
      F_refuse_many := fun_mk (st := s_refuse_many) l1 c1 k1
      b_refuse_many := (fun_mk (st := s_refuse_many) l1 c1 k1).binds (ps := ["windows"]) (fun _ _ _ _ _ _ us hl => match us, hl with | [_], _ => rfl)
      m_refuse_many := PySem.W.mg_of X G a1
      f_with_window := f2
      fd_with_window := _
      F_with_window := fun_mk (st := s_with_window) l2 c2 k2
      b_with_window := (fun_mk (st := s_with_window) l2 c2 k2).binds (ps := ["held", "at"]) (fun _ _ _ _ _ _ us hl => match us, hl with | [_, _], _ => rfl)
      m_with_window := PySem.W.mg_of X G a2
      f_next_windows := f3
      fd_next_windows := _
      F_next_windows := fun_mk (st := s_next_windows) l3 c3 k3
      b_next_windows := (fun_mk (st := s_next_windows) l3 c3 k3).binds (ps := ["windows", "held"]) (fun _ _ _ _ _ _ us hl => match us, hl with | [_, _], _ => rfl)
      m_next_windows := PySem.W.mg_of X G a3
      f_ways_on := f4
      fd_ways_on := _
      F_ways_on := fun_mk (st := s_ways_on) l4 c4 k4
      b_ways_on := (fun_mk (st := s_ways_on) l4 c4 k4).binds (ps := ["windows"]) (fun _ _ _ _ _ _ us hl => match us, hl with | [_], _ => rfl)
      m_ways_on := PySem.W.mg_of X G a4
      f__law_draws := f5
      fd__law_draws := _
      F__law_draws := fun_mk (st := s__law_draws) l5 c5 k5
      b__law_draws := (fun_mk (st := s__law_draws) l5 c5 k5).binds (ps := ["_law_script", "_law_many"]) (fun _ _ _ _ _ _ us hl => match us, hl with | [_, _], _ => rfl)
      m__law_draws := PySem.W.mg_of X G a5
      f__law_wide := f6
      fd__law_wide := _
      F__law_wide := fun_mk (st := s__law_wide) l6 c6 k6
      b__law_wide := (fun_mk (st := s__law_wide) l6 c6 k6).binds (ps := ["_law_some", "_law_size"]) (fun _ _ _ _ _ _ us hl => match us, hl with | [_, _], _ => rfl)
      m__law_wide := PySem.W.mg_of X G a6
      f__law_count := f7
      fd__law_count := _
      F__law_count := fun_mk (st := s__law_count) l7 c7 k7
      b__law_count := (fun_mk (st := s__law_count) l7 c7 k7).binds (ps := ["_law_windows"]) (fun _ _ _ _ _ _ us hl => match us, hl with | [_], _ => rfl)
      m__law_count := PySem.W.mg_of X G a7
      f_law := f8
      fd_law := _
      F_law := fun_mk (st := s_law) l8 c8 k8
      b_law := (fun_mk (st := s_law) l8 c8 k8).binds (ps := ["_law_script"]) (fun _ _ _ _ _ _ us hl => match us, hl with | [_], _ => rfl)
      m_law := PySem.W.mg_of X G a8
      m_abs := PySem.W.mg_none_of X G z0
      m_bool := PySem.W.mg_none_of X G z1
      m_int := PySem.W.mg_none_of X G z2
      m_isinstance := PySem.W.mg_none_of X G z3
      m_len := PySem.W.mg_none_of X G z4
      m_list := PySem.W.mg_none_of X G z5
      m_range := PySem.W.mg_none_of X G z6
      m_sorted := PySem.W.mg_none_of X G z7
      m_sum := PySem.W.mg_none_of X G z8
      m_tuple := PySem.W.mg_none_of X G z9
      t_MOST_WINDOWS := tk0
      m_MOST_WINDOWS := PySem.W.mg_of X G n0
      f_SusuError := fc0
      m_SusuError := PySem.W.mg_of X G x1
      f_TooMany := fc2
      m_TooMany := PySem.W.mg_of X G x3
      x_TooMany := x4
      kp_TooMany := x5
      e_TooMany := ⟨x6_0, x6_1, x6_2, x6_3, x6_4, x6_5, x6_6, x6_7⟩
      sb_TooMany := x7
      ty_TooMany := x8
theorem all_mk {l : PySem.W.OpenLaw} {w : World} {K : PySem.W.Frag} {h : Heap} {mg : Str → Option Value} {fa : Addr} (X : K.In h) (G : h.Ns mainGlobals mg) (hfa : mg "law" = some (.ref fa))
    {od0 an0 : Option Addr} {sl0 : Array (Option Value)} {oc0 kV0 dc0 pm0 cd0 ct0 : Value} {f0 : Addr}
    (a0 : PySem.W.nsIn K mainGlobals "count_orders" = some (some (.ref f0))) (l0 : K.lookup f0 = some ⟨oc0, od0, .func (PySem.W.fnOf "count_orders" "count_orders" (defArgs s_count_orders) (defBody s_count_orders) (defScope s_count_orders) .none kV0 dc0 pm0 an0 cd0 ct0), sl0⟩) (c0 : PySem.W.codeIn K cd0 "count_orders" = true) (k0 : PySem.W.keepIn K (.ref f0) = true)
    {od1 an1 : Option Addr} {sl1 : Array (Option Value)} {oc1 kV1 dc1 pm1 cd1 ct1 : Value} {f1 : Addr}
    (a1 : PySem.W.nsIn K mainGlobals "refuse_many" = some (some (.ref f1))) (l1 : K.lookup f1 = some ⟨oc1, od1, .func (PySem.W.fnOf "refuse_many" "refuse_many" (defArgs s_refuse_many) (defBody s_refuse_many) (defScope s_refuse_many) .none kV1 dc1 pm1 an1 cd1 ct1), sl1⟩) (c1 : PySem.W.codeIn K cd1 "refuse_many" = true) (k1 : PySem.W.keepIn K (.ref f1) = true)
    {od2 an2 : Option Addr} {sl2 : Array (Option Value)} {oc2 kV2 dc2 pm2 cd2 ct2 : Value} {f2 : Addr}
    (a2 : PySem.W.nsIn K mainGlobals "with_window" = some (some (.ref f2))) (l2 : K.lookup f2 = some ⟨oc2, od2, .func (PySem.W.fnOf "with_window" "with_window" (defArgs s_with_window) (defBody s_with_window) (defScope s_with_window) .none kV2 dc2 pm2 an2 cd2 ct2), sl2⟩) (c2 : PySem.W.codeIn K cd2 "with_window" = true) (k2 : PySem.W.keepIn K (.ref f2) = true)
    {od3 an3 : Option Addr} {sl3 : Array (Option Value)} {oc3 kV3 dc3 pm3 cd3 ct3 : Value} {f3 : Addr}
    (a3 : PySem.W.nsIn K mainGlobals "next_windows" = some (some (.ref f3))) (l3 : K.lookup f3 = some ⟨oc3, od3, .func (PySem.W.fnOf "next_windows" "next_windows" (defArgs s_next_windows) (defBody s_next_windows) (defScope s_next_windows) .none kV3 dc3 pm3 an3 cd3 ct3), sl3⟩) (c3 : PySem.W.codeIn K cd3 "next_windows" = true) (k3 : PySem.W.keepIn K (.ref f3) = true)
    {od4 an4 : Option Addr} {sl4 : Array (Option Value)} {oc4 kV4 dc4 pm4 cd4 ct4 : Value} {f4 : Addr}
    (a4 : PySem.W.nsIn K mainGlobals "ways_on" = some (some (.ref f4))) (l4 : K.lookup f4 = some ⟨oc4, od4, .func (PySem.W.fnOf "ways_on" "ways_on" (defArgs s_ways_on) (defBody s_ways_on) (defScope s_ways_on) .none kV4 dc4 pm4 an4 cd4 ct4), sl4⟩) (c4 : PySem.W.codeIn K cd4 "ways_on" = true) (k4 : PySem.W.keepIn K (.ref f4) = true)
    {od5 an5 : Option Addr} {sl5 : Array (Option Value)} {oc5 kV5 dc5 pm5 cd5 ct5 : Value} {f5 : Addr}
    (a5 : PySem.W.nsIn K mainGlobals "_law_draws" = some (some (.ref f5))) (l5 : K.lookup f5 = some ⟨oc5, od5, .func (PySem.W.fnOf "_law_draws" "_law_draws" (defArgs s__law_draws) (defBody s__law_draws) (defScope s__law_draws) .none kV5 dc5 pm5 an5 cd5 ct5), sl5⟩) (c5 : PySem.W.codeIn K cd5 "_law_draws" = true) (k5 : PySem.W.keepIn K (.ref f5) = true)
    {od6 an6 : Option Addr} {sl6 : Array (Option Value)} {oc6 kV6 dc6 pm6 cd6 ct6 : Value} {f6 : Addr}
    (a6 : PySem.W.nsIn K mainGlobals "_law_wide" = some (some (.ref f6))) (l6 : K.lookup f6 = some ⟨oc6, od6, .func (PySem.W.fnOf "_law_wide" "_law_wide" (defArgs s__law_wide) (defBody s__law_wide) (defScope s__law_wide) .none kV6 dc6 pm6 an6 cd6 ct6), sl6⟩) (c6 : PySem.W.codeIn K cd6 "_law_wide" = true) (k6 : PySem.W.keepIn K (.ref f6) = true)
    {od7 an7 : Option Addr} {sl7 : Array (Option Value)} {oc7 kV7 dc7 pm7 cd7 ct7 : Value} {f7 : Addr}
    (a7 : PySem.W.nsIn K mainGlobals "_law_count" = some (some (.ref f7))) (l7 : K.lookup f7 = some ⟨oc7, od7, .func (PySem.W.fnOf "_law_count" "_law_count" (defArgs s__law_count) (defBody s__law_count) (defScope s__law_count) .none kV7 dc7 pm7 an7 cd7 ct7), sl7⟩) (c7 : PySem.W.codeIn K cd7 "_law_count" = true) (k7 : PySem.W.keepIn K (.ref f7) = true)
    {od8 an8 : Option Addr} {sl8 : Array (Option Value)} {oc8 kV8 dc8 pm8 cd8 ct8 : Value} {f8 : Addr}
    (a8 : PySem.W.nsIn K mainGlobals "law" = some (some (.ref f8))) (l8 : K.lookup f8 = some ⟨oc8, od8, .func (PySem.W.fnOf "law" "law" (defArgs s_law) (defBody s_law) (defScope s_law) .none kV8 dc8 pm8 an8 cd8 ct8), sl8⟩) (c8 : PySem.W.codeIn K cd8 "law" = true) (k8 : PySem.W.keepIn K (.ref f8) = true)
    (z0 : PySem.W.nsIn K mainGlobals "abs" = some none)
    (z1 : PySem.W.nsIn K mainGlobals "bool" = some none)
    (z2 : PySem.W.nsIn K mainGlobals "int" = some none)
    (z3 : PySem.W.nsIn K mainGlobals "isinstance" = some none)
    (z4 : PySem.W.nsIn K mainGlobals "len" = some none)
    (z5 : PySem.W.nsIn K mainGlobals "list" = some none)
    (z6 : PySem.W.nsIn K mainGlobals "range" = some none)
    (z7 : PySem.W.nsIn K mainGlobals "sorted" = some none)
    (z8 : PySem.W.nsIn K mainGlobals "sum" = some none)
    (z9 : PySem.W.nsIn K mainGlobals "tuple" = some none)
    {tk0 : Tok} (n0 : PySem.W.nsIn K mainGlobals "MOST_WINDOWS" = some (some (.int 8 tk0)))
    {fc0 : Addr}
    (x1 : PySem.W.nsIn K mainGlobals "SusuError" = some (some (.ref fc0)))
    {fc2 : Addr}
    (x3 : PySem.W.nsIn K mainGlobals "TooMany" = some (some (.ref fc2)))
    (x4 : PySem.W.excIn K fc2 vErr "ValueError.__new__" = true)
    (x5 : PySem.W.keepIn K (.ref fc2) = true)
    (x6_0 : PySem.W.findIn K (.ref fc2) "__getattribute__" = some (some (.builtin "BaseException.__getattribute__")))
    (x6_1 : PySem.W.findIn K (.ref fc2) "__getattr__" = some none)
    (x6_2 : PySem.W.subIn K (.ref fc2) (.type "BaseException") = some true)
    (x6_3 : PySem.W.hasDictIn K fc2 = true)
    (x6_4 : PySem.W.findIn K (.ref fc2) "__class__" = some (some (.builtin "object.__class__")))
    (x6_5 : PySem.W.specialIn K (.builtin "object.__class__") "__get__" = some (some (.builtin "getset_descriptor.__get__")))
    (x6_6 : PySem.W.takesIn K (.builtin "object.__class__") = some true)
    (x6_7 : PySem.W.mroIn K fc2 (.type "object") = some true)
    (x7 : PySem.W.subIn K (.ref fc2) (.type "BaseException") = some true)
    (x8 : PySem.W.typeIn K (.ref fc2) = some (.type "type")) :
    ∃ fd : FuncData, (∀ (s : Shared) (v : Value), BindsTo s fd ⟨[v], []⟩ [("_law_script", v)]) ∧ ∀ base : Heap, K.In base → base.Ns mainGlobals mg → FnOk l.prog w K mg base CX0 4 fa fd ["_law_script"] (spLaw K) := by
  have e := hfa.symm.trans (PySem.W.mg_of X G a8)
  cases e
  exact ⟨PySem.W.fnOf "law" "law" (defArgs s_law) (defBody s_law) (defScope s_law) .none kV8 dc8 pm8 an8 cd8 ct8, fun s v => .of_eq rfl, fun base _ _ => ok_law (fun_mk (st := s_law) l8 c8 k8) (top_mk X G a0 l0 c0 k0 a1 l1 c1 k1 a2 l2 c2 k2 a3 l3 c3 k3 a4 l4 c4 k4 a5 l5 c5 k5 a6 l6 c6 k6 a7 l7 c7 k7 a8 l8 c8 k8 z0 z1 z2 z3 z4 z5 z6 z7 z8 z9 n0 x1 x3 x4 x5 x6_0 x6_1 x6_2 x6_3 x6_4 x6_5 x6_6 x6_7 x7 x8)⟩
end Su
open PySem PySem.W PyProof.Rows
set_option maxHeartbeats 0 in
theorem PySem.Challenge.cw_susu_k09_orders_counted_holds : PySem.Challenge.rw_susu_k09_orders_counted.Holds := by
  w_on; o_law; k_head; (case hw => w_witness2)
  k_fill
  refine L2.walk_of (l := PySem.Challenge.rw_susu_k09_orders_counted) (n := 63) (k := 4) (x := "_law_script") (CX := fun _ => L2.CX0) (sp := fun w => Su.spLaw _) rfl (by decide) rfl ⟨rfl, by decide, by decide⟩ (fun w h Y => PySem.W.kIn_of Y) ?F (fun _ _ a ns hl _ hS => ⟨a, ns, rfl, hS, hl, fun _ => rfl⟩) (fun _ _ _ _ _ h => h)
  case F =>
    intro w mg fa h KX G hmg
    refine' Su.all_mk KX G hmg ?a0 ?l0 ?c0 ?k0 ?a1 ?l1 ?c1 ?k1 ?a2 ?l2 ?c2 ?k2 ?a3 ?l3 ?c3 ?k3 ?a4 ?l4 ?c4 ?k4 ?a5 ?l5 ?c5 ?k5 ?a6 ?l6 ?c6 ?k6 ?a7 ?l7 ?c7 ?k7 ?a8 ?l8 ?c8 ?k8 ?z0 ?z1 ?z2 ?z3 ?z4 ?z5 ?z6 ?z7 ?z8 ?z9 ?n0 ?x1 ?x3 ?x4 ?x5 ?x6_0 ?x6_1 ?x6_2 ?x6_3 ?x6_4 ?x6_5 ?x6_6 ?x6_7 ?x7 ?x8
    (case a0 => k_is); (case l0 => k_is); (case c0 => k_is); (case k0 => k_is); (case a1 => k_is); (case l1 => k_is); (case c1 => k_is); (case k1 => k_is); (case a2 => k_is); (case l2 => k_is); (case c2 => k_is); (case k2 => k_is); (case a3 => k_is); (case l3 => k_is); (case c3 => k_is); (case k3 => k_is); (case a4 => k_is); (case l4 => k_is); (case c4 => k_is); (case k4 => k_is); (case a5 => k_is); (case l5 => k_is); (case c5 => k_is); (case k5 => k_is); (case a6 => k_is); (case l6 => k_is); (case c6 => k_is); (case k6 => k_is); (case a7 => k_is); (case l7 => k_is); (case c7 => k_is); (case k7 => k_is); (case a8 => k_is); (case l8 => k_is); (case c8 => k_is); (case k8 => k_is); (case z0 => k_is); (case z1 => k_is); (case z2 => k_is); (case z3 => k_is); (case z4 => k_is); (case z5 => k_is); (case z6 => k_is); (case z7 => k_is); (case z8 => k_is); (case z9 => k_is); (case n0 => k_is); (case x1 => first | k_is | k_exc | rfl); (case x3 => first | k_is | k_exc | rfl); (case x4 => first | k_is | k_exc | rfl); (case x5 => first | k_is | k_exc | rfl); (case x6_0 => first | k_is | k_exc | rfl); (case x6_1 => first | k_is | k_exc | rfl); (case x6_2 => first | k_is | k_exc | rfl); (case x6_3 => first | k_is | k_exc | rfl); (case x6_4 => first | k_is | k_exc | rfl); (case x6_5 => first | k_is | k_exc | rfl); (case x6_6 => first | k_is | k_exc | rfl); (case x6_7 => first | k_is | k_exc | rfl); (case x7 => first | k_is | k_exc | rfl); (case x8 => first | k_is | k_exc | rfl)

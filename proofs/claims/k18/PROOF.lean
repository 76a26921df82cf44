import PyProof.Rows.All
import Wide.All
import OpenK.AllK
import Wide.FinOn
import HandS.ForMost
import HandS.Exc
import HandS.ExcOwn
import HandS.WordsExc
import HandS.ExcIs
import HandS.Evl
import HandS.IsInst
import HandS.Wide
import HandS.Zip
import PySem.Challenge.RW_susu_k18_worth_of_coins
set_option Elab.async false
set_option linter.all false
set_option maxRecDepth 100000

namespace Su
open PySem PySem.Spec PyProof.Rows L2 Evl
/-! ### small rules over HandS.Evl -/
theorem CMul.l {i j : Int} (h1 : -(2 ^ 64) < i) (h2 : i < 2 ^ 64) : CMul i j := .inl ⟨h1, h2⟩
theorem CMul.r {i j : Int} (h1 : -(2 ^ 64) < j) (h2 : j < 2 ^ 64) : CMul i j := .inr ⟨h1, h2⟩
theorem rv_mod {H : Hp} {i j : Int} (h : 0 < j) : RV (rI (fun _ j => 0 < j) fun i j => .int (i % j)) (.int i) (.int j) H (.int (i % j)) := rv_I h
theorem rv_div {H : Hp} {i j : Int} (h : 0 < j) (h2 : j < 1073741824) : RV (rI CDiv fun i j => .int (i / j)) (.int i) (.int j) H (.int (i / j)) := rv_I ⟨h, h2⟩
theorem rv_mul {H : Hp} {i j : Int} (h : CMul i j) : RV (rI CMul fun i j => .int (i * j)) (.int i) (.int j) H (.int (i * j)) := rv_I h
theorem rv_pow {H : Hp} {i j : Int} (h : CPow i j) : RV (rI CPow fun i j => .int (i ^ j.toNat)) (.int i) (.int j) H (.int (i ^ j.toNat)) := rv_I h
theorem rv_p18 {H : Hp} : RV (rI CPow fun i j => .int (i ^ j.toNat)) (.int 10) (.int 18) H (.int (10 ^ 18)) := rv_I (C := CPow) (g := fun i j => .int (i ^ j.toNat)) ⟨by decide, by decide, by decide⟩
theorem rv_p12 {H : Hp} : RV (rI CPow fun i j => .int (i ^ j.toNat)) (.int 10) (.int 12) H (.int (10 ^ 12)) := rv_I (C := CPow) (g := fun i j => .int (i ^ j.toNat)) ⟨by decide, by decide, by decide⟩
theorem rv_p20 {H : Hp} : RV (rI CPow fun i j => .int (i ^ j.toNat)) (.int 10) (.int 20) H (.int (10 ^ 20)) := rv_I (C := CPow) (g := fun i j => .int (i ^ j.toNat)) ⟨by decide, by decide, by decide⟩
theorem rv_divW {H : Hp} {i j : Int} (h : CDivW i j) : RV (rI CDivW fun i j => .int (i / j)) (.int i) (.int j) H (.int (i / j)) := rv_I h
theorem rv_mulW {H : Hp} {i j : Int} (h : CMulW i j) : RV (rI CMulW fun i j => .int (i * j)) (.int i) (.int j) H (.int (i * j)) := rv_I h
theorem rc_abs {H : Hp} {i : Int} : RC (fun xs H Q => ∃ i, xs = [V.int i] ∧ Q (.int (if i < 0 then -i else i)) H) [.int i] H (.int (if i < 0 then -i else i)) := fun H1 _ _ q => ⟨i, rfl, q H1 (Ex.refl H1)⟩
theorem rc_max {H : Hp} {i j : Int} : RC (fun xs H Q => ∃ i j, xs = [V.int i, .int j] ∧ Q (.int (if j > i then j else i)) H) [.int i, .int j] H (.int (if j > i then j else i)) := fun H1 _ _ q => ⟨i, j, rfl, q H1 (Ex.refl H1)⟩
theorem rc_min {H : Hp} {i j : Int} : RC (fun xs H Q => ∃ i j, xs = [V.int i, .int j] ∧ Q (.int (if j < i then j else i)) H) [.int i, .int j] H (.int (if j < i then j else i)) := fun H1 _ _ q => ⟨i, j, rfl, q H1 (Ex.refl H1)⟩
theorem rc_len {K : PySem.W.Frag} {H : Hp} {p : Addr} {ys : List V} (h : SqL K H p ys ∨ SqT K H p ys) : RC (fun xs H Q => ∃ p ys, xs = [V.ref p] ∧ (SqL K H p ys ∨ SqT K H p ys) ∧ Q (.int ys.length) H) [.ref p] H (.int ys.length) :=
  fun H1 e _ q => ⟨p, ys, rfl, h.elim (fun h => .inl (ex_l e h)) (fun h => .inr (ex_t e h)), q H1 (Ex.refl H1)⟩
theorem rc_isi_int {K : PySem.W.Frag} {H : Hp} {i : Int} {n : String} {b : Bool} (h : kitB "int" n = some b) : RC (rIsi K) [.int i, .ty n] H (.bl b) :=
  fun H1 _ _ q => ⟨.int i, .ty n, .type "int", .type n, b, rfl, .ty n, .base (.int i), kit_ty h, q H1 (Ex.refl H1)⟩
theorem ex_g {H H' : Hp} {a : Addr} {o : HO} (e : Ex H H') (h : H a = some o) : H' a = some o := e a o h
theorem at_rows {rows : List Int} {z : Int} (h0 : 0 ≤ z) (h : z < rows.length) : atI (rows.map V.int) z = some (.int (rows.getD z.toNat 0)) := by
  have hz : z = ((z.toNat : Nat) : Int) := by omega
  have hl : z.toNat < rows.length := by omega
  refine at_of hz ?_
  rw [List.getElem?_map, List.getElem?_eq_getElem hl, List.getD_eq_getElem?_getD, List.getElem?_eq_getElem hl]
  rfl
theorem at4 {a b c d z : Int} (h0 : 0 ≤ z) (h : z < 4) : atI [V.int a, .int b, .int c, .int d] z = some (.int (if z = 0 then a else if z = 1 then b else if z = 2 then c else d)) := by
  have h4 : z = 0 ∨ z = 1 ∨ z = 2 ∨ z = 3 := by omega
  rcases h4 with rfl | rfl | rfl | rfl <;> rfl
theorem wm {i j : Int} (h1 : i.natAbs < 2 ^ 240) (h2 : j.natAbs < 2 ^ 240) : CMulW i j := wide_mul h1 h2 (by decide) (by decide) (by decide)
theorem wd {i j : Int} (h : 0 < j) (h2 : j.natAbs < 2 ^ 240) : CDivW i j := wide_div h h2 (by decide) (by decide)
theorem n400 {i : Int} {n : Int} (h1 : -n ≤ i) (h2 : i ≤ n) (h : n.toNat < 2 ^ 240) : i.natAbs < 2 ^ 240 := by omega
theorem n400' {i : Int} (h1 : -(10 ^ 70) ≤ i) (h2 : i ≤ 10 ^ 70) : i.natAbs < 2 ^ 240 := n400 h1 h2 (by decide)
theorem decT {p : Prop} [Decidable p] (h : p) {b : Bool} (e : decide p = b) : b = true := by rw [← e]; exact decide_eq_true h
abbrev vErr : List Value := [.type "ValueError", .type "Exception", .type "BaseException", .type "object"]
theorem ex_up {H : Hp} {p : Addr} {o' : HO} {H0 : Hp} (e : Ex H0 H) (hp : H0 p = none) : Ex H0 (upd H p o') := Ex.mut e hp
theorem seq_ne {K : PySem.W.Frag} {H H' : Hp} {a : Addr} {xs : List V} (e : Ex H H') (h : SqL K H a xs) : SqL K H' a xs := ex_l e h
/-- a def's call that hands back a new list of which something is known -/
def SpN (sp : Sp) (vs : List V) (H : Hp) (P : List V → Prop) : Prop := ∀ H1, Ex H H1 → ∀ Q : VK, (∀ xs p H2, P xs → H1 p = none → Ex H1 H2 → H2 p = some (.lst xs) → Q (.ref p) H2) → ∀ E : XK, sp vs H1 Q E
theorem q_callN {sp : Sp} {dvs vs : List V} {E : XK} {ta : TA} {σ : L2.St} {H : Hp} {i : Nat} {D : Ends} {tz : TS} {P : List V → Prop} (h : EvA ta σ H vs) (hs : SpN sp (vs ++ dvs) H P)
    (k : ∀ xs p H1, P xs → H p = none → Ex H H1 → H1 p = some (.lst xs) → tz D (σ.set i (some (.ref p))) H1) : tSeq (tAsg (tCall sp dvs E ta) (gName i)) tz D σ H :=
  h H (Ex.refl H) _ fun H1 e1 => hs H1 e1 _ (fun xs p H2 hP hp e2 h2 => k xs p H2 hP (fresh_back e1 hp) (e1.trans e2) h2) E
theorem s_callN {sp : Sp} {dvs vs : List V} {E : XK} {ta : TA} {σ : L2.St} {H : Hp} {i : Nat} {D : Ends} {P : List V → Prop} (h : EvA ta σ H vs) (hs : SpN sp (vs ++ dvs) H P)
    (k : ∀ xs p H1, P xs → H p = none → Ex H H1 → H1 p = some (.lst xs) → D.nx (σ.set i (some (.ref p))) H1) : tAsg (tCall sp dvs E ta) (gName i) D σ H :=
  h H (Ex.refl H) _ fun H1 e1 => hs H1 e1 _ (fun xs p H2 hP hp e2 h2 => k xs p H2 hP (fresh_back e1 hp) (e1.trans e2) h2) E
/-- .. whose first argument is a new list -/
theorem s_callN1 {sp : Sp} {dvs vs xs0 : List V} {E : XK} {te : TE} {tr : TA} {σ : L2.St} {H : Hp} {i : Nat} {D : Ends} {P : List V → Prop} (h1 : EvL te σ H xs0) (h2 : EvA tr σ H vs) (hs : ∀ p0 H1, Ex H H1 → H1 p0 = some (.lst xs0) → SpN sp (.ref p0 :: vs ++ dvs) H1 P)
    (k : ∀ xs p H1, P xs → H p = none → Ex H H1 → H1 p = some (.lst xs) → D.nx (σ.set i (some (.ref p))) H1) : tAsg (tCall sp dvs E (tCons te tr)) (gName i) D σ H :=
  h1 H (Ex.refl H) _ fun p0 H1 _ e1 hp0 => h2 H1 e1 _ fun H2 e2 => hs p0 H2 (e1.trans e2) (e2 _ _ hp0) H2 (Ex.refl H2) _ (fun xs p H3 hP hp e3 h3 => k xs p H3 hP (fresh_back (e1.trans e2) hp) ((e1.trans e2).trans e3) h3) E
theorem ev_callL {sp : Sp} {dvs vs xs0 : List V} {E : XK} {te : TE} {tr : TA} {σ : L2.St} {H : Hp} {z : V} (h1 : EvL te σ H xs0) (h2 : EvA tr σ H vs) (hs : ∀ p0 H1, Ex H H1 → H1 p0 = some (.lst xs0) → SpV sp (.ref p0 :: vs ++ dvs) H1 z) : Ev (tCall sp dvs E (tCons te tr)) σ H z := fun H0 e0 Q q =>
  h1 H0 e0 _ fun p0 H1 _ e1 hp0 => h2 H1 (e0.trans e1) _ fun H2 e2 => hs p0 H2 ((e0.trans e1).trans e2) (e2 _ _ hp0) H2 (Ex.refl H2) _ (fun H3 e3 => q H3 ((e1.trans e2).trans e3)) E
theorem cut_from (xs : List V) (k : Nat) : cutV xs (some (k : Int)) none = xs.drop k := by
  unfold cutV
  rw [HT.sIx_nat, HT.sIx_none]
  by_cases h : k ≤ xs.length
  · rw [Nat.min_eq_left h, List.take_of_length_le (by rw [List.length_drop]; omega)]
  · rw [Nat.min_eq_right (by omega), Nat.sub_self, List.take_zero, List.drop_of_length_le (by omega)]
theorem s_asgSub {l : Addr} {xs : List V} {z : Int} {j : Nat} {te ta tb : TE} {σ : L2.St} {H : Hp} {v : V} {D : Ends} (hl : H l = some (.lst xs)) (h : Ev te σ H v) (ho : Ev ta σ H (.ref l)) (hi : Ev tb σ H (.int z)) (hz : z = (j : Int)) (hj : j < xs.length)
    (k : ∀ H1, Ex H H1 → D.nx σ (upd H1 l (.lst (xs.set j v)))) : tAsg te (gSub ta tb rSetL) D σ H := s_setL hl h ho (hz ▸ hi) hj k
end Su
open PySem PySem.Spec PyProof.Rows L2 Evl Su
/-! ### small tactics: "ev" an expression, "et" a test, "ea" arguments, "rv" an operator, "rc" a built-in, "hc" a bound -/
local macro_rules | `(tactic| walk_at "hc") => `(tactic| first | assumption | omega | (exact Su.CMul.l (by omega) (by omega)) | (exact Su.CMul.r (by omega) (by omega)) | (exact Su.wm (Su.n400' (by omega) (by omega)) (Su.n400' (by omega) (by omega))) | (exact Su.wd (by omega) (Su.n400' (by omega) (by omega))) | decide)
local macro_rules | `(tactic| walk_at "rv") => `(tactic| first
  | (with_reducible exact rv_I0)
  | (with_reducible exact rv_eq rfl)
  | (with_reducible exact rv_ne rfl)
  | (with_reducible refine Su.rv_mod ?_; walk_at "hc")
  | (with_reducible refine Su.rv_div ?_ ?_ <;> walk_at "hc")
  | (with_reducible refine Su.rv_mul ?_; walk_at "hc")
  | exact Su.rv_p18
  | exact Su.rv_p12
  | exact Su.rv_p20
  | (with_reducible refine Su.rv_divW ?_; walk_at "hc")
  | (with_reducible refine Su.rv_mulW ?_; walk_at "hc")
  | (apply rv_ixL; (first | assumption | (exact sq_of (by assumption))); (first | (apply Su.at_rows <;> walk_at "hc") | rfl | assumption)))
local macro_rules | `(tactic| walk_at "rc") => `(tactic| first
  | exact Su.rc_abs
  | exact Su.rc_max
  | exact Su.rc_min
  | exact Su.rc_isi_int (b := true) (by decide +kernel)
  | exact Su.rc_isi_int (b := false) (by decide +kernel))
local macro_rules | `(tactic| walk_at "ea") => `(tactic| first
  | exact ea_nil
  | (apply ea_cons; (walk_at "ev"); (walk_at "ea")))
local macro_rules | `(tactic| walk_at "ev") => `(tactic| first
  | exact ev_c
  | exact ev_var rfl
  | (apply ev_op; (walk_at "ev"); (walk_at "ev"); (walk_at "rv"))
  | (apply ev_un; (walk_at "ev"); (exact ru_neg))
  | (apply ev_andV; (walk_at "ev"); (intro _; walk_at "ev"))
  | (apply ev_orV; (walk_at "ev"); (intro _; walk_at "ev"))
  | (apply ev_notV; (walk_at "ev"))
  | (apply ev_len; (walk_at "ev"); first | assumption | (exact sq_of (by assumption)))
  | (apply ev_cb; (walk_at "ea"); (walk_at "rc")))
local macro_rules | `(tactic| walk_at "et") => `(tactic| first
  | (apply et_and; (walk_at "et"); (intro _; walk_at "et"))
  | (apply et_or; (walk_at "et"); (intro _; walk_at "et"))
  | (apply et_not; (walk_at "et"))
  | (apply et_test; (walk_at "ev"))
  | (apply et_B; (walk_at "ev")))

open PySem PySem.Spec PyProof.Rows L2 Evl Su
namespace Su
def topS (i : Nat) : Stmt := PySem.Challenge.pw_susu_k18_worth_of_coins.main.body.getD i (.Pass ⟨0, 0, 0, 0⟩)
abbrev s_worth : Stmt := topS 6
abbrev N_worth : List Str := ["row", "up", "down", "total", "ahead", "coins"]
theorem sc_worth : FnScope N_worth ["row", "up", "down"] (defScope s_worth) := ⟨rfl, rfl, rfl, by decide +kernel, rfl, by decide +kernel, by decide +kernel⟩
abbrev s__law_draws : Stmt := topS 8
abbrev N__law_draws : List Str := ["_law_script", "_law_many", "_law_rows", "_law_mix", "_law_cell", "_law_rest"]
theorem sc__law_draws : FnScope N__law_draws ["_law_script", "_law_many"] (defScope s__law_draws) := ⟨rfl, rfl, rfl, by decide +kernel, rfl, by decide +kernel, by decide +kernel⟩
abbrev s__law_power : Stmt := topS 9
abbrev N__law_power : List Str := ["_law_number", "_law_times", "_law_out", "_law_step"]
theorem sc__law_power : FnScope N__law_power ["_law_number", "_law_times"] (defScope s__law_power) := ⟨rfl, rfl, rfl, by decide +kernel, rfl, by decide +kernel, by decide +kernel⟩
abbrev s_law : Stmt := topS 10
abbrev N_law : List Str := ["_law_script", "_law_some", "_law_size", "_law_up", "_law_down", "_law_far", "_law_at", "_law_row", "_law_handed", "_law_marks", "_law_told", "e", "_law_due", "_law_coins"]
theorem sc_law : FnScope N_law ["_law_script"] (defScope s_law) := ⟨rfl, rfl, rfl, by decide +kernel, rfl, by decide +kernel, by decide +kernel⟩
structure Top (K : PySem.W.Frag) (mg : Str → Option Value) where
  f_worth : Addr
  fd_worth : FuncData
  F_worth : Fun K "worth" "worth" s_worth f_worth fd_worth
  b_worth : Binds K fd_worth ["row", "up", "down"] []
  m_worth : mg "worth" = some (.ref f_worth)
  f__law_draws : Addr
  fd__law_draws : FuncData
  F__law_draws : Fun K "_law_draws" "_law_draws" s__law_draws f__law_draws fd__law_draws
  b__law_draws : Binds K fd__law_draws ["_law_script", "_law_many"] []
  m__law_draws : mg "_law_draws" = some (.ref f__law_draws)
  f__law_power : Addr
  fd__law_power : FuncData
  F__law_power : Fun K "_law_power" "_law_power" s__law_power f__law_power fd__law_power
  b__law_power : Binds K fd__law_power ["_law_number", "_law_times"] []
  m__law_power : mg "_law_power" = some (.ref f__law_power)
  f_law : Addr
  fd_law : FuncData
  F_law : Fun K "law" "law" s_law f_law fd_law
  b_law : Binds K fd_law ["_law_script"] []
  m_law : mg "law" = some (.ref f_law)
  m_ValueError : mg "ValueError" = none
  m_abs : mg "abs" = none
  m_bool : mg "bool" = none
  m_enumerate : mg "enumerate" = none
  m_int : mg "int" = none
  m_isinstance : mg "isinstance" = none
  m_len : mg "len" = none
  m_list : mg "list" = none
  m_range : mg "range" = none
  f_SusuError : Addr
  m_SusuError : mg "SusuError" = some (.ref f_SusuError)
  f_BadNumber : Addr
  m_BadNumber : mg "BadNumber" = some (.ref f_BadNumber)
  f_Uneven : Addr
  m_Uneven : mg "Uneven" = some (.ref f_Uneven)
  x_BadNumber : PySem.W.excIn K f_BadNumber vErr "ValueError.__new__" = true
  kp_BadNumber : PySem.W.keepIn K (.ref f_BadNumber) = true
  e_BadNumber : ExcC K f_BadNumber
  su_BadNumber_SusuError : PySem.W.subIn K (.ref f_BadNumber) (.ref f_SusuError) = some true
  ki_BadNumber_BadNumber : PySem.W.kitOne K (.ref f_BadNumber) (.ref f_BadNumber) = some true
  ki_BadNumber_Uneven : PySem.W.kitOne K (.ref f_BadNumber) (.ref f_Uneven) = some false
  ki_BadNumber_ValueError : PySem.W.kitOne K (.ref f_BadNumber) (.type "ValueError") = some true
  sb_BadNumber : PySem.W.subIn K (.ref f_BadNumber) (.type "BaseException") = some true
  ty_BadNumber : PySem.W.typeIn K (.ref f_BadNumber) = some (.type "type")
  sb_SusuError : PySem.W.subIn K (.ref f_SusuError) (.type "BaseException") = some true
  ty_SusuError : PySem.W.typeIn K (.ref f_SusuError) = some (.type "type")
  hd_SusuError : PySem.W.hasDictIn K f_SusuError = true
  t_MOST_TIMES : Tok
  m_MOST_TIMES : mg "MOST_TIMES" = some (.int 1000 t_MOST_TIMES)
end Su
namespace Su
/-! ### rules whose written part is named, for blocks -/
section
variable {X : Cx} {K : PySem.W.Frag}
theorem ix_listK (h : X.K = K := by rfl) : IxR X (rIxL K) := h ▸ ix_list
theorem ix_tupK (h : X.K = K := by rfl) : IxR X (rIxT K) := h ▸ ix_tup
theorem call_len_seqK (h : X.K = K := by rfl) : CallR X (.builtin "len") (fun xs H Q => ∃ p ys, xs = [.ref p] ∧ (SqL K H p ys ∨ SqT K H p ys) ∧ Q (.int ys.length) H) := h ▸ call_len_seq
theorem op_in_seqK (h : X.K = K := by rfl) : OpR X (compareOp .In) (rIn K false) := h ▸ op_in_seq
theorem op_notIn_seqK (h : X.K = K := by rfl) : OpR X (compareOp .NotIn) (rIn K true) := h ▸ op_notIn_seq
theorem call_list_ofK (h : X.K = K := by rfl) : CallR X (.type "list") (fun xs H Q => ∃ p ys, xs = [.ref p] ∧ (SqL K H p ys ∨ SqT K H p ys) ∧ ∀ l, H l = none → Q (.ref l) (upd H l (.lst ys))) := h ▸ call_list_of
theorem call_isiK' (h : X.K = K := by rfl) : CallR X (.builtin "isinstance") (rIsi K) := h ▸ call_isi
end

end Su
namespace Su
/-! ### the drawn numbers -/
def Rows (m : Nat) (rows : List Int) : Prop := m ≤ rows.length ∧ rows.length ≤ m + 63 ∧ ∀ x ∈ rows, -(10 ^ 18) < x ∧ x < 10 ^ 18
theorem Rows.add {rows : List Int} {x : Int} (h : ∀ x ∈ rows, -(10 ^ 18) < x ∧ x < 10 ^ 18) (h1 : -(10 ^ 18) < x) (h2 : x < 10 ^ 18) : ∀ y ∈ rows ++ [x], -(10 ^ 18) < y ∧ y < 10 ^ 18 := fun y hy => by
  rcases List.mem_append.mp hy with h' | h'
  · exact h y h'
  · obtain rfl := List.mem_singleton.mp h'
    exact ⟨h1, h2⟩
theorem Rows.get {m : Nat} {rows : List Int} (h : Rows m rows) (i : Nat) : -(10 ^ 18) < rows.getD i 0 ∧ rows.getD i 0 < 10 ^ 18 := by
  by_cases hi : i < rows.length
  · rw [List.getD_eq_getElem?_getD, List.getElem?_eq_getElem hi]
    exact h.2.2 _ (List.getElem_mem hi)
  · rw [List.getD_eq_getElem?_getD, List.getElem?_eq_none (by omega)]
    decide
section
variable {P : Program} {w : World} {K : PySem.W.Frag} {mg : Str → Option Value} {base : Heap}
def spDraws (K : PySem.W.Frag) : Sp := fun vs H Q _ => ∃ (a : Addr) (ns : List Int) (m : Nat), vs = [.ref a, .int (m : Int)] ∧ SqL K H a (ns.map V.int) ∧ ns.length ≤ 63 ∧ m ≤ 1000 ∧
  ∀ rows H' p, H p = none → Ex H H' → H' p = some (.lst (rows.map V.int)) → Rows m rows → Q (.ref p) H'
theorem spN_draws {K : PySem.W.Frag} {a : Addr} {ns : List Int} {m : Nat} {H : Hp} (hS : SqL K H a (ns.map V.int)) (hl : ns.length ≤ 63) (hm : m ≤ 1000) : SpN (spDraws K) [.ref a, .int (m : Int)] H (fun xs => ∃ rows : List Int, Rows m rows ∧ xs = rows.map V.int) :=
  fun H1 e Q q E => ⟨a, ns, m, rfl, ex_l e hS, hl, hm, fun rows H' p hp e' h' hr => q _ p H' ⟨rows, hr, rfl⟩ hp e' h'⟩
def DrI (H0 : Hp) (a p : Addr) (m i : Nat) (σ : L2.St) (H : Hp) : Prop := ∃ (rows : List Int) (mix : Int) (y4 y5 : Option V), σ = [some (.ref a), some (.int (m : Int)), some (.ref p), some (.int mix), y4, y5] ∧ Ex H0 H ∧ H p = some (.lst (rows.map V.int)) ∧
  rows.length ≤ m + i ∧ 0 ≤ mix ∧ mix < 2147483647 ∧ ∀ x ∈ rows, -(10 ^ 18) < x ∧ x < 10 ^ 18
theorem ok__law_draws {f : Addr} {fd : FuncData} {k : Nat} (F : Fun K "_law_draws" "_law_draws" s__law_draws f fd) (T : Top K mg) : FnOk P w K mg base CX0 (k + 1) f fd ["_law_script", "_law_many"] (spDraws K) := by
  have nd := sc__law_draws.nd
  refine F.ok sc__law_draws (fun vs H Q E h => ?_) (fun cdv A outer s H vs Q E hr h => ?_)
  · obtain ⟨a, ns, m, rfl, _⟩ := h
    rfl
  · obtain ⟨a, ns, m, rfl, hS, hlen, hm, q⟩ := h
    refine ⟨_, (pss_cons (ps_set (i := 2) nd rfl (.inl rfl) (pe_lst pa_nil))
      (pss_cons (ps_set (i := 3) nd rfl (.inl rfl) pe_int)
      (pss_cons (ps_for PassesOwn.never rfl (pi_list (pv 0)) (pg_name (i := 4) nd rfl (.inl rfl))
        (pss_cons (ps_set (i := 3) nd rfl (.inl rfl) (pe_op op_mod (pe_op op_add (pe_op op_mul (pv 3) pe_int) (pv 4)) pe_int))
          (pss_cons (ps_set (i := 5) nd rfl (.inl rfl) (pe_callB call_abs (by rfl) T.m_abs (by decide +kernel) (pa_cons (pv 4) pa_nil)))
          (pss_cons (ps_if (pt_cmpR op_lt (pv 5) (pe_op op_pow pe_int pe_int) (nomark _))
            (pss_cons (ps_expr (pe_bm PySem.F.plainAttrs_list PySem.F.slot_list_append PySem.F.type_list_append mt_append (pv 2) (pa_cons (pv 4) pa_nil)))
              (pss_one (ps_set (i := 5) nd rfl (.inl rfl) pe_int)))
            pss_nil)
          (pss_one (ps_while PassesOwn.never (PW.pt (pw_and (pt_cmpR op_gt (pv 5) pe_int (nomark _)) (pw_and1 (pt_cmpR op_lt (pe_callB call_len_seq (by rfl) T.m_len PySem.boot_len (pa_cons (pv 2) pa_nil)) (pv 1) (nomark _)))))
            (pss_cons (ps_expr (pe_bm PySem.F.plainAttrs_list PySem.F.slot_list_append PySem.F.type_list_append mt_append (pv 2) (pa_cons (pe_op op_mod (pv 5) pe_int) pa_nil)))
              (pss_one (ps_set (i := 5) nd rfl (.inl rfl) (pe_op op_fdiv (pv 5) pe_int))))))))))
      (pss_cons (ps_while PassesOwn.never (pt_cmpR op_lt (pe_callB call_len_seq (by rfl) T.m_len PySem.boot_len (pa_cons (pv 2) pa_nil)) (pv 1) (nomark _))
        (pss_cons (ps_set (i := 3) nd rfl (.inl rfl) (pe_op op_mod (pe_op op_add (pe_op op_mul (pv 3) pe_int) pe_int) pe_int))
          (pss_one (ps_expr (pe_bm PySem.F.plainAttrs_list PySem.F.slot_list_append PySem.F.type_list_append mt_append (pv 2) (pa_cons (pe_op op_mod (pe_op op_mul (pv 3) (pv 3)) pe_int) pa_nil))))))
      (pss_one (ps_ret (pv 2))))))), ?_⟩
    -- rows = []; mix = 1
    refine q_asgL (el_lst ea_nil (by decide)) fun p H1 hp e1 h1 => ?_
    have hS1 := ex_l e1 hS
    refine q_asg (by walk_at "ev") fun H2 e2 => ?_
    refine q_forL (by walk_at "ev") (ex_l e2 hS1) (DrI H a p m) ?_ ?_ ?_ ?_
    · intro H3 e3
      exact ⟨[], 1, none, none, rfl, (e1.trans e2).trans e3, e3 p _ (e2 p _ h1), Nat.zero_le _, by omega, by omega, fun x hx => by cases hx⟩
    · rintro i σ' H' _ ⟨rows, mix, y4, y5, rfl, ex, _⟩
      exact ex_l ex hS
    · rintro i x σ' H' hx ⟨rows, mix, y4, y5, rfl, ex, hr', hrl, m0, m1, hb⟩
      obtain ⟨c, rfl⟩ : ∃ c : Int, x = .int c := by
        rw [List.getElem?_map] at hx
        cases hc : ns[i]? with
        | none => rw [hc] at hx; cases hx
        | some c => rw [hc] at hx; exact ⟨c, (Option.some.inj hx).symm⟩
      have hi : i < 63 := by
        have := (List.getElem?_eq_some_iff.mp hx).1
        rw [List.length_map] at this
        omega
      refine q_asg (by walk_at "ev") fun H3 e3 => ?_
      have m0' := Int.emod_nonneg (mix * 31 + c) (show (2147483647 : Int) ≠ 0 by decide)
      have m1' := Int.emod_lt_of_pos (mix * 31 + c) (show (0 : Int) < 2147483647 by decide)
      generalize (mix * 31 + c) % 2147483647 = mix' at m0' m1' ⊢
      refine q_asg (by walk_at "ev") fun H4 e4 => ?_
      have hr4 := ex_g e4 (ex_g e3 hr')
      have ex4 := (ex.trans e3).trans e4
      have r0 : 0 ≤ (if c < 0 then -c else c) := by split <;> omega
      have rc : (if c < 0 then -c else c) < 10 ^ 18 → -(10 ^ 18) < c ∧ c < 10 ^ 18 := by split <;> omega
      generalize (if c < 0 then -c else c) = rest at r0 rc ⊢
      -- what stands behind the if: the while
      have hwh : ∀ (rows' : List Int) (rest' : Int) (y4' : Option V) (H5 : Hp), Ex H H5 → H5 p = some (.lst (rows'.map V.int)) → rows'.length ≤ m + (i + 1) → 0 ≤ rest' → (0 < rest' → rows'.length ≤ m + i) → (∀ x ∈ rows', -(10 ^ 18) < x ∧ x < 10 ^ 18) →
          ∀ (tc : TT) (tb : TS) (D : Ends), True → True := fun _ _ _ _ _ _ _ _ _ _ _ _ _ _ => trivial
      clear hwh
      refine q_when (by walk_at "et") (fun hb' H5 e5 => ?_) (fun hb' H5 e5 => ?_)
      · have hlt : rest < 10 ^ 18 := of_decide_eq_true hb'
        obtain ⟨c1, c2⟩ := rc hlt
        refine q_app (ex_g e5 hr4) (by walk_at "ev") (by walk_at "ev") (by rw [List.length_map]; omega) fun H6 e6 => ?_
        refine s_asg (by walk_at "ev") fun H7 e7 => ?_
        have hp7 : H7 p = some (.lst ((rows ++ [c]).map V.int)) := e7 p _ (by rw [upd_same, List.map_append]; rfl)
        have ex7 : Ex H H7 := (ex_up ((ex4.trans e5).trans e6) hp).trans e7
        refine s_while (fun n σ2 H2 => n = 0 ∧ σ2 = [some (.ref a), some (.int (m : Int)), some (.ref p), some (.int mix'), some (.int c), some (.int 0)] ∧ Ex H H2 ∧ H2 p = some (.lst ((rows ++ [c]).map V.int))) 0 ⟨rfl, rfl, ex7, hp7⟩ ?_
        rintro n σ2 H2 ⟨rfl, rfl, ex2, hp2⟩
        refine ⟨_, by walk_at "et", fun hb2 => ?_, fun hb2 H8 e8 => ?_⟩
        · simp at hb2
        · exact ⟨rows ++ [c], mix', _, _, rfl, ex2.trans e8, e8 p _ hp2, by rw [List.length_append]; show rows.length + 1 ≤ _; omega, m0', m1', Rows.add hb c1 c2⟩
      · refine s_while (fun n σ2 H2 => ∃ (rows' : List Int) (rest' : Int), σ2 = [some (.ref a), some (.int (m : Int)), some (.ref p), some (.int mix'), some (.int c), some (.int rest')] ∧ n = rest'.toNat ∧ Ex H H2 ∧ H2 p = some (.lst (rows'.map V.int)) ∧ rows'.length ≤ m + i ∧ 0 ≤ rest' ∧ ∀ x ∈ rows', -(10 ^ 18) < x ∧ x < 10 ^ 18) rest.toNat
          ⟨rows, rest, rfl, rfl, ex4.trans e5, ex_g e5 hr4, hrl, r0, hb⟩ ?_
        rintro n σ2 H2 ⟨rows', rest', rfl, rfl, ex2, hp2, hrl', r0', hb'⟩
        refine ⟨_, by walk_at "et", fun hb2 H8 e8 => ?_, fun hb2 H8 e8 => ?_⟩
        · have hb3 := Bool.and_eq_true_iff.mp hb2
          have hpos : 0 < rest' := of_decide_eq_true hb3.1
          have hlm : ((rows'.map V.int).length : Int) < m := of_decide_eq_true hb3.2
          rw [List.length_map] at hlm
          refine ⟨fun σ3 H3 => ∃ n', n' < rest'.toNat ∧ ∃ (rows' : List Int) (rest' : Int), σ3 = [some (.ref a), some (.int (m : Int)), some (.ref p), some (.int mix'), some (.int c), some (.int rest')] ∧ n' = rest'.toNat ∧ Ex H H3 ∧ H3 p = some (.lst (rows'.map V.int)) ∧ rows'.length ≤ m + i ∧ 0 ≤ rest' ∧ ∀ x ∈ rows', -(10 ^ 18) < x ∧ x < 10 ^ 18, fun _ _ h => h, ?_⟩
          refine q_app (ex_g e8 hp2) (by walk_at "ev") (by walk_at "ev") (by rw [List.length_map]; omega) fun H9 e9 => ?_
          refine s_asg (by walk_at "ev") fun H10 e10 => ?_
          have d0 := Int.emod_nonneg rest' (show (1000003 : Int) ≠ 0 by decide)
          have d1 := Int.emod_lt_of_pos rest' (show (0 : Int) < 1000003 by decide)
          refine ⟨(rest' / 1000003).toNat, by omega, rows' ++ [rest' % 1000003], rest' / 1000003, rfl, rfl, (ex_up ((ex2.trans e8).trans e9) hp).trans e10, e10 p _ (by rw [upd_same, List.map_append]; rfl), ?_, by omega, Rows.add hb' (by omega) (by omega)⟩
          rw [List.length_append]
          show rows'.length + 1 ≤ _
          omega
        · exact ⟨rows', mix', _, _, rfl, ex2.trans e8, e8 p _ hp2, by omega, m0', m1', hb'⟩
    · rintro σ' H' ⟨rows, mix, y4, y5, rfl, ex, hr', hrl, m0, m1, hb⟩
      rw [List.length_map] at hrl
      refine q_while (fun n σ2 H2 => ∃ (rows : List Int) (mix : Int), σ2 = [some (.ref a), some (.int (m : Int)), some (.ref p), some (.int mix), y4, y5] ∧ n = m - rows.length ∧ Ex H H2 ∧ H2 p = some (.lst (rows.map V.int)) ∧ rows.length ≤ m + 63 ∧ 0 ≤ mix ∧ mix < 2147483647 ∧ ∀ x ∈ rows, -(10 ^ 18) < x ∧ x < 10 ^ 18)
        (m - rows.length) ⟨rows, mix, rfl, rfl, ex, hr', by omega, m0, m1, hb⟩ ?_
      rintro n σ2 H2 ⟨rows, mix, rfl, rfl, ex, hr', hrl, m0, m1, hb⟩
      refine ⟨_, by walk_at "et", fun hb2 H8 e8 => ?_, fun hb2 H8 e8 => ?_⟩
      · have hlm : ((rows.map V.int).length : Int) < m := of_decide_eq_true hb2
        rw [List.length_map] at hlm
        refine ⟨fun σ3 H3 => ∃ n', n' < m - rows.length ∧ ∃ (rows : List Int) (mix : Int), σ3 = [some (.ref a), some (.int (m : Int)), some (.ref p), some (.int mix), y4, y5] ∧ n' = m - rows.length ∧ Ex H H3 ∧ H3 p = some (.lst (rows.map V.int)) ∧ rows.length ≤ m + 63 ∧ 0 ≤ mix ∧ mix < 2147483647 ∧ ∀ x ∈ rows, -(10 ^ 18) < x ∧ x < 10 ^ 18, fun _ _ h => h, ?_⟩
        refine q_asg (by walk_at "ev") fun H9 e9 => ?_
        have m0' := Int.emod_nonneg (mix * 48271 + 11) (show (2147483647 : Int) ≠ 0 by decide)
        have m1' := Int.emod_lt_of_pos (mix * 48271 + 11) (show (0 : Int) < 2147483647 by decide)
        generalize (mix * 48271 + 11) % 2147483647 = mix' at m0' m1' ⊢
        refine s_app (ex_g e9 (ex_g e8 hr')) (by walk_at "ev") (by walk_at "ev") (by rw [List.length_map]; omega) fun H10 e10 => ?_
        have d0 := Int.emod_nonneg (mix' * mix') (show (999983 : Int) ≠ 0 by decide)
        have d1 := Int.emod_lt_of_pos (mix' * mix') (show (0 : Int) < 999983 by decide)
        refine ⟨m - (rows.length + 1), by omega, rows ++ [mix' * mix' % 999983], mix', rfl, by rw [List.length_append]; rfl, ex_up (((ex.trans e8).trans e9).trans e10) hp, by rw [upd_same, List.map_append]; rfl, ?_, m0', m1', Rows.add hb (by omega) (by omega)⟩
        rw [List.length_append]
        show rows.length + 1 ≤ _
        omega
      · refine s_ret (by walk_at "ev") fun H9 e9 => ?_
        have hlm : ¬ ((rows.map V.int).length : Int) < m := of_decide_eq_false hb2
        rw [List.length_map] at hlm
        exact q rows H9 p hp ((ex.trans e8).trans e9) (e9 p _ (e8 p _ hr')) ⟨by omega, hrl, hb⟩
end

end Su
namespace Su
/-! ### comprehensions over enumerate and zip -/
def dropAt (H : Hp) (D : Addr) : Hp := fun b => if b = D then none else H b
theorem drop_ex {H : Hp} {D : Addr} : Ex (dropAt H D) H := fun a o e => by
  unfold dropAt at e
  split at e
  · cases e
  · exact e
theorem drop_self {H : Hp} {D : Addr} : dropAt H D D = none := by unfold dropAt; rw [if_pos rfl]
theorem drop_of {H : Hp} {D T : Addr} {o : HO} (e : H T = some o) (n : T ≠ D) : dropAt H D T = some o := by unfold dropAt; rw [if_neg n]; exact e
theorem ex_drop {H H1 : Hp} {D : Addr} (e : Ex H1 H) (n : H1 D = none) : Ex H1 (dropAt H D) := fun a o h => drop_of (e a o h) fun z => by rw [z, n] at h; cases h
theorem cw_turn2 {H H' Hb : Hp} {t : TT} {te : TE} {f : Nat → Bool} {v : Nat → V} {Dl : Addr} {i : Nat} {σ2 : L2.St} (p : Cw H f v Dl i H') (hi : i < 50000) (hb : Ex Hb H') (ht : EvT t σ2 Hb (f i)) (he : f i = true → Ev te σ2 Hb (v i)) :
    t σ2 H' fun b H3 => if b = true then te σ2 H3 fun y H4 => ∃ acc, H4 Dl = some (.lst acc) ∧ acc.length < sizeLine ∧ Cw H f v Dl (i + 1) (upd H4 Dl (.lst (acc ++ [y]))) else Cw H f v Dl (i + 1) H3 := by
  obtain ⟨p1, p2, p3⟩ := p
  refine ht H' hb _ fun H3 e3 => ?_
  cases hf : f i with
  | true =>
    show te σ2 H3 fun y H4 => ∃ acc, H4 Dl = some (.lst acc) ∧ acc.length < sizeLine ∧ Cw H f v Dl (i + 1) (upd H4 Dl (.lst (acc ++ [y])))
    refine he hf H3 (hb.trans e3) _ fun H4 e4 => ⟨given i f v, e4 Dl _ (e3 Dl _ p3), sz_lt (by have := given_len i f v; omega), p1, Ex.mut ((p2.trans e3).trans e4) p1, ?_⟩
    rw [given_yes hf]
    exact upd_same
  | false =>
    show Cw H f v Dl (i + 1) H3
    refine ⟨p1, p2.trans e3, ?_⟩
    rw [given_no hf]
    exact e3 Dl _ p3
theorem cw_ex {H H1 H2 : Hp} {f : Nat → Bool} {v : Nat → V} {Dl : Addr} {i : Nat} (p : Cw H f v Dl i H1) (e : Ex H1 H2) : Cw H f v Dl i H2 := ⟨p.1, p.2.1.trans e, e Dl _ p.2.2⟩
/-- what a target does with a value: from the slots s to s2 -/
def Tgt (g : TG) (x : V) (σ σ2 : L2.St) (H : Hp) : Prop := ∀ H2, Ex H H2 → ∀ Q : L2.St → Hp → Prop, Q σ2 H2 → g x σ H2 Q
theorem tg_name {i : Nat} {x : V} {σ : L2.St} {H : Hp} : Tgt (gName i) x σ (σ.set i (some x)) H := fun _ _ _ q => q
theorem tg_two {K : PySem.W.Frag} {g1 g2 : TG} {T : Addr} {x y : V} {σ σ1 σ2 : L2.St} {H : Hp} (h : SqT K H T [x, y]) (h1 : Tgt g1 x σ σ1 H) (h2 : Tgt g2 y σ1 σ2 H) : Tgt (gTup K 2 (gCons g1 (gCons g2 gNil))) (.ref T) σ σ2 H := fun H2 e Q q =>
  ⟨T, [x, y], rfl, ex_t e h, rfl, x, [y], rfl, h1 H2 e _ ⟨y, [], rfl, h2 H2 e _ ⟨rfl, q⟩⟩⟩
theorem tg_three {K : PySem.W.Frag} {g1 g2 g3 : TG} {T : Addr} {x y z : V} {σ σ1 σ2 σ3 : L2.St} {H : Hp} (h : SqT K H T [x, y, z]) (h1 : Tgt g1 x σ σ1 H) (h2 : Tgt g2 y σ1 σ2 H) (h3 : Tgt g3 z σ2 σ3 H) : Tgt (gTup K 3 (gCons g1 (gCons g2 (gCons g3 gNil)))) (.ref T) σ σ3 H := fun H2 e Q q =>
  ⟨T, [x, y, z], rfl, ex_t e h, rfl, x, [y, z], rfl, h1 H2 e _ ⟨y, [z], rfl, h2 H2 e _ ⟨z, [], rfl, h3 H2 e _ ⟨rfl, q⟩⟩⟩⟩
section
variable {K : PySem.W.Frag} {σ : L2.St} {H : Hp} {t : TT} {te : TE} {g : TG} {vs : List Nat} {a b : Addr} {xs ys : List V} {ta : TA}
theorem et_yes {σ : L2.St} {H : Hp} : EvT tYes σ H true := fun H1 _ _ q => q H1 (Ex.refl H1)
theorem el_lcLg {tl : TE} (f : Nat → Bool) (v : Nat → V) (h : Ev tl σ H (.ref a)) (hx : SqL K H a xs) (hz : xs.length ≤ 40000)
    (hs : ∀ (i : Nat) (x : V) Hb, Ex H Hb → xs[i]? = some x → ∃ σ2, Tgt g x (wipe σ vs) σ2 Hb ∧ wipe σ2 vs = wipe σ vs ∧ EvT t σ2 Hb (f i) ∧ (f i = true → Ev te σ2 Hb (v i))) :
    EvL (tLc (iList K tl) g t te vs) σ H (given xs.length f v) := fun H0 e Q q => h H0 e _ fun H1 e1 => ⟨a, rfl, ⟨xs, ex_l (e.trans e1) hx⟩, fun Dl hD =>
  lc_list (xs := xs) (Cw H1 f v Dl) ⟨hD, Ex.new hD, upd_same⟩ (fun i H' _ p => ex_l ((e.trans e1).trans p.2.1) hx) (fun i x H' hi p => by
    obtain ⟨σ2, h1, h2, h3, h4⟩ := hs i x H1 (e.trans e1) hi
    exact h1 H' p.2.1 _ ⟨h2, cw_turn2 p (by have := (List.getElem?_eq_some_iff.mp hi).1; omega) p.2.1 h3 h4⟩)
    (fun H' p => q Dl H' (fresh_back e1 p.1) (e1.trans p.2.1) p.2.2)⟩
theorem el_lcE (f : Nat → Bool) (v : Nat → V) (h : EvA ta σ H [.ref a]) (hx : SqL K H a xs) (hz : xs.length ≤ 40000)
    (hs : ∀ (i : Nat) (x : V) T Hb, Ex H Hb → xs[i]? = some x → Hb T = some (.tup [.int (i : Nat), x]) → ∃ σ2, Tgt g (.ref T) (wipe σ vs) σ2 Hb ∧ wipe σ2 vs = wipe σ vs ∧ EvT t σ2 Hb (f i) ∧ (f i = true → Ev te σ2 Hb (v i))) :
    EvL (tLc (iEnum K ta) g t te vs) σ H (given xs.length f v) := fun H0 e Q q => h H0 e _ fun H1 e1 => ⟨a, xs, rfl, ex_l (e.trans e1) hx, fun Dl hD => by
  refine ⟨fun i m H' => m = xs.length - i ∧ i ≤ xs.length ∧ Cw H1 f v Dl i H', ⟨xs.length, by simp, Nat.zero_le _, hD, Ex.new hD, upd_same⟩, ?_⟩
  rintro i m H' ⟨rfl, hi, p⟩
  have hX := ex_l ((e.trans e1).trans p.2.1) hx
  by_cases hlt : i < xs.length
  · refine .inr ⟨⟨xs, xs[i], hX, List.getElem?_eq_getElem hlt⟩, Cw H1 f v Dl (i + 1), fun H2 p' => ⟨xs.length - (i + 1), by omega, rfl, hlt, p'⟩, fun y H2 hy => ?_⟩
    obtain ⟨T, x, rfl, nT, rfl, hxx⟩ := hy
    have gi := hxx xs hX
    have eT : Ex H' (upd H' T (.tup [.int (i : Nat), x])) := Ex.new nT
    have hTD : T ≠ Dl := fun z => by rw [z, p.2.2] at nT; cases nT
    have p2 := cw_ex p eT
    obtain ⟨σ2, h1, h2, h3, h4⟩ := hs i x T (dropAt (upd H' T (.tup [.int (i : Nat), x])) Dl) (ex_drop (((e.trans e1).trans p.2.1).trans eT) (fresh_back (e.trans e1) p.1)) gi (drop_of upd_same hTD)
    exact h1 _ drop_ex _ ⟨h2, cw_turn2 p2 (by omega) drop_ex h3 h4⟩
  · have ei : i = xs.length := by omega
    subst ei
    exact .inl ⟨⟨xs, hX, Nat.le_refl _⟩, q Dl H' (fresh_back e1 p.1) (e1.trans p.2.1) p.2.2⟩⟩
theorem el_lcZ (f : Nat → Bool) (v : Nat → V) (h : EvA ta σ H [.ref a, .ref b]) (hx : SqL K H a xs) (hy : SqL K H b ys) (hl : xs.length = ys.length) (hz : xs.length ≤ 40000)
    (hs : ∀ (i : Nat) (x y : V) T Hb, Ex H Hb → xs[i]? = some x → ys[i]? = some y → Hb T = some (.tup [x, y]) → ∃ σ2, Tgt g (.ref T) (wipe σ vs) σ2 Hb ∧ wipe σ2 vs = wipe σ vs ∧ EvT t σ2 Hb (f i) ∧ (f i = true → Ev te σ2 Hb (v i))) :
    EvL (tLc (RZ.iZipA K ta) g t te vs) σ H (given xs.length f v) := fun H0 e Q q => h H0 e _ fun H1 e1 => ⟨a, b, xs, ys, rfl, .inl ⟨ex_l (e.trans e1) hx, ex_l (e.trans e1) hy, fun Dl hD => by
  refine ⟨fun i m H' => m = xs.length - i ∧ i ≤ xs.length ∧ Cw H1 f v Dl i H', ⟨xs.length, by simp, Nat.zero_le _, hD, Ex.new hD, upd_same⟩, ?_⟩
  rintro i m H' ⟨rfl, hi, p⟩
  have hX := ex_l ((e.trans e1).trans p.2.1) hx
  have hY := ex_l ((e.trans e1).trans p.2.1) hy
  by_cases hlt : i < xs.length
  · have hlt2 : i < ys.length := by omega
    refine .inr ⟨⟨xs, ys, xs[i], ys[i], hX, hY, List.getElem?_eq_getElem hlt, List.getElem?_eq_getElem hlt2⟩, Cw H1 f v Dl (i + 1), fun H2 p' => ⟨xs.length - (i + 1), by omega, rfl, hlt, p'⟩, fun z H2 hzz => ?_⟩
    obtain ⟨T, x, y, rfl, nT, rfl, hxx, hyy⟩ := hzz
    have eT : Ex H' (upd H' T (.tup [x, y])) := Ex.new nT
    have hTD : T ≠ Dl := fun z => by rw [z, p.2.2] at nT; cases nT
    have p2 := cw_ex p eT
    obtain ⟨σ2, h1, h2, h3, h4⟩ := hs i x y T (dropAt (upd H' T (.tup [x, y])) Dl) (ex_drop (((e.trans e1).trans p.2.1).trans eT) (fresh_back (e.trans e1) p.1)) (hxx xs hX) (hyy ys hY) (drop_of upd_same hTD)
    exact h1 _ drop_ex _ ⟨h2, cw_turn2 p2 (by omega) drop_ex h3 h4⟩
  · have ei : i = xs.length := by omega
    subst ei
    exact .inl ⟨⟨xs, ys, hX, hY, .inl (Nat.le_refl _)⟩, q Dl H' (fresh_back e1 p.1) (e1.trans p.2.1) p.2.2⟩⟩⟩
theorem el_lcZT (f : Nat → Bool) (v : Nat → V) (h : EvA ta σ H [.ref a, .ref b]) (hx : SqT K H a xs) (hy : SqT K H b ys) (hl : xs.length = ys.length) (hz : xs.length ≤ 40000)
    (hs : ∀ (i : Nat) (x y : V) T Hb, Ex H Hb → xs[i]? = some x → ys[i]? = some y → Hb T = some (.tup [x, y]) → ∃ σ2, Tgt g (.ref T) (wipe σ vs) σ2 Hb ∧ wipe σ2 vs = wipe σ vs ∧ EvT t σ2 Hb (f i) ∧ (f i = true → Ev te σ2 Hb (v i))) :
    EvL (tLc (RZ.iZipA K ta) g t te vs) σ H (given xs.length f v) := fun H0 e Q q => h H0 e _ fun H1 e1 => ⟨a, b, xs, ys, rfl, .inr ⟨ex_t (e.trans e1) hx, ex_t (e.trans e1) hy, fun Dl hD => by
  refine ⟨fun i m H' => m = xs.length - i ∧ i ≤ xs.length ∧ Cw H1 f v Dl i H', ⟨xs.length, by simp, Nat.zero_le _, hD, Ex.new hD, upd_same⟩, ?_⟩
  rintro i m H' ⟨rfl, hi, p⟩
  have hX := ex_t ((e.trans e1).trans p.2.1) hx
  have hY := ex_t ((e.trans e1).trans p.2.1) hy
  by_cases hlt : i < xs.length
  · have hlt2 : i < ys.length := by omega
    refine .inr ⟨⟨xs, ys, xs[i], ys[i], hX, hY, List.getElem?_eq_getElem hlt, List.getElem?_eq_getElem hlt2⟩, Cw H1 f v Dl (i + 1), fun H2 p' => ⟨xs.length - (i + 1), by omega, rfl, hlt, p'⟩, fun z H2 hzz => ?_⟩
    obtain ⟨T, x, y, rfl, nT, rfl, hxx, hyy⟩ := hzz
    have eT : Ex H' (upd H' T (.tup [x, y])) := Ex.new nT
    have hTD : T ≠ Dl := fun z => by rw [z, p.2.2] at nT; cases nT
    have p2 := cw_ex p eT
    obtain ⟨σ2, h1, h2, h3, h4⟩ := hs i x y T (dropAt (upd H' T (.tup [x, y])) Dl) (ex_drop (((e.trans e1).trans p.2.1).trans eT) (fresh_back (e.trans e1) p.1)) (hxx xs hX) (hyy ys hY) (drop_of upd_same hTD)
    exact h1 _ drop_ex _ ⟨h2, cw_turn2 p2 (by omega) drop_ex h3 h4⟩
  · have ei : i = xs.length := by omega
    subst ei
    exact .inl ⟨⟨xs, ys, hX, hY, .inl (Nat.le_refl _)⟩, q Dl H' (fresh_back e1 p.1) (e1.trans p.2.1) p.2.2⟩⟩⟩
end

end Su
namespace Su
/-! ### data as a whole: _law_same of two alike -/
mutual
theorem dp_ex {K : PySem.W.Frag} {H H' : Hp} (e : Ex H H') : ∀ {x : V} {d : PyData}, Dp K H x d → Dp K H' x d
  | _, _, .non => .non
  | _, _, .bl b => .bl b
  | _, _, .int i => .int i
  | _, _, .str x => .str x
  | _, _, .lst h1 h2 => .lst (ex_l e h1) (dpa_ex e h2)
  | _, _, .tup h1 h2 => .tup (ex_t e h1) (dpa_ex e h2)
theorem dpa_ex {K : PySem.W.Frag} {H H' : Hp} (e : Ex H H') : ∀ {xs : List V} {ds : List PyData}, DpAll K H xs ds → DpAll K H' xs ds
  | _, _, .nil => .nil
  | _, _, .cons h1 h2 => .cons (dp_ex e h1) (dpa_ex e h2)
end
theorem dpa_len {K : PySem.W.Frag} {H : Hp} : ∀ {xs : List V} {ds : List PyData}, DpAll K H xs ds → xs.length = ds.length
  | _, _, .nil => rfl
  | _, _, .cons _ h2 => by rw [List.length_cons, List.length_cons, dpa_len h2]
theorem dpa_get {K : PySem.W.Frag} {H : Hp} : ∀ {xs : List V} {ds : List PyData} {i : Nat} {x : V}, DpAll K H xs ds → xs[i]? = some x → ∃ d, ds[i]? = some d ∧ Dp K H x d
  | _, _, _, _, .nil, e => by simp at e
  | _, _, 0, _, .cons h _, e => by simp at e; subst e; exact ⟨_, rfl, h⟩
  | _, _, i + 1, x, .cons _ h2, e => by
    obtain ⟨d, h1, h3⟩ := dpa_get (i := i) (x := x) h2 (by simpa using e)
    exact ⟨d, by simpa using h1, h3⟩
theorem dpa_of {K : PySem.W.Frag} {H : Hp} {α : Type} (f : α → V) (g : α → PyData) : ∀ l : List α, (∀ a ∈ l, Dp K H (f a) (g a)) → DpAll K H (l.map f) (l.map g)
  | [], _ => .nil
  | a :: r, h => .cons (h a List.mem_cons_self) (dpa_of f g r fun b hb => h b (List.mem_cons_of_mem _ hb))
def tyN : PyData → String
  | .none => "NoneType" | .bool _ => "bool" | .int _ => "int" | .str _ => "str" | .list _ => "list" | .tuple _ => "tuple" | .dict _ => "dict"
theorem ty_dp {K : PySem.W.Frag} {H : Hp} {x : V} {d : PyData} (h : Dp K H x d) : TyX K H x (.type (tyN d)) := by
  cases h with
  | non => exact .base .non
  | bl b => exact .base (.bl b)
  | int i => exact .base (.int i)
  | str s => exact .base (.str s)
  | lst h1 _ =>
    rcases h1 with (h1 | ⟨o, h1⟩) | ⟨o, its, n, h1, h2, _⟩
    · exact .base (.lst h1)
    · exact .base (.frz h1)
    · exact .kList h1 h2
  | tup h1 _ =>
    rcases h1 with (h1 | ⟨o, h1⟩) | ⟨o, its, n, h1, h2, _⟩
    · exact .base (.tup h1)
    · exact .fTuple h1
    · exact .kTuple h1 h2
theorem rc_isi_dp {K : PySem.W.Frag} {H : Hp} {x : V} {d : PyData} {n : String} {b : Bool} (h : Dp K H x d) (hk : kitB (tyN d) n = some b) : RC (rIsi K) [x, .ty n] H (.bl b) :=
  fun H1 e _ q => ⟨x, .ty n, .type (tyN d), .type n, b, rfl, .ty n, ty_dp (dp_ex e h), kit_ty hk, q H1 (Ex.refl H1)⟩
theorem kit_tab {t m : String} (ht : t = "NoneType" ∨ t = "bool" ∨ t = "int" ∨ t = "str" ∨ t = "list" ∨ t = "tuple") (hm : m = "bool" ∨ m = "int" ∨ m = "list" ∨ m = "tuple" ∨ m = "str") : ∃ b, kitB t m = some b := by
  rcases ht with rfl | rfl | rfl | rfl | rfl | rfl <;> rcases hm with rfl | rfl | rfl | rfl | rfl <;> first | exact ⟨true, by decide +kernel⟩ | exact ⟨false, by decide +kernel⟩
/-- data of ints, texts, None, bools, lists and tuples, n deep -/
inductive PlD : Nat → PyData → Prop
  | non {n : Nat} : PlD n .none
  | bool {n : Nat} (b : Bool) : PlD n (.bool b)
  | int {n : Nat} (i : Int) : PlD n (.int i)
  | str {n : Nat} (x : Str) : PlD n (.str x)
  | list {n : Nat} {xs : List PyData} : xs.length ≤ 1000 → (∀ x ∈ xs, PlD n x) → PlD (n + 1) (.list xs)
  | tuple {n : Nat} {xs : List PyData} : xs.length ≤ 1000 → (∀ x ∈ xs, PlD n x) → PlD (n + 1) (.tuple xs)
theorem PlD.ty {n : Nat} {d : PyData} (h : PlD n d) : tyN d = "NoneType" ∨ tyN d = "bool" ∨ tyN d = "int" ∨ tyN d = "str" ∨ tyN d = "list" ∨ tyN d = "tuple" := by
  cases h <;> simp [tyN]
theorem given_all {n : Nat} {v : V} : given n (fun _ => true) (fun _ => v) = List.replicate n v := by
  induction n with
  | zero => rfl
  | succ n ih => rw [given_yes rfl, ih, List.replicate_succ']
theorem all_rep (n : Nat) : (List.replicate n true).all id = true := by
  induction n with
  | zero => rfl
  | succ n ih => rw [List.replicate_succ, List.all_cons, ih]; rfl
section
variable {P : Program} {w : World} {K : PySem.W.Frag} {mg : Str → Option Value} {base : Heap}
theorem ev_isi {σ : L2.St} {H : Hp} {ta tb : TE} {x : V} {d : PyData} {n : String} {b : Bool} (ha : Ev ta σ H x) (hb : Ev tb σ H (.ty n)) (h : Dp K H x d) (hk : kitB (tyN d) n = some b) : Ev (tCB (rIsi K) (tCons ta (tCons tb tNil))) σ H (.bl b) := ev_cb (ea_cons ha (ea_cons hb ea_nil)) (rc_isi_dp h hk)
theorem ev_allT {σ : L2.St} {H : Hp} {te : TE} {n : Nat} (h : EvL te σ H (List.replicate n (V.bl true))) : Ev (tCB (rAll K) (tCons te tNil)) σ H (.bl true) := fun H1 e Q q =>
  h H1 e _ fun p H2 _ e2 h2 => ⟨p, List.replicate n true, rfl, sq_of (by rw [List.map_replicate]; exact h2), by rw [all_rep]; exact q H2 e2⟩
theorem rv_sc {H : Hp} {x : V} (h : scal x x = true) : RV rEq x x H (.bl true) := fun H1 e Q q => ⟨h, by rw [decide_eq_true rfl]; exact q H1 (Ex.refl H1)⟩
theorem rv_neb {H : Hp} {b : Bool} : RV rNe (.bl b) (.bl b) H (.bl false) := fun H1 e Q q => ⟨by cases b <;> rfl, by rw [decide_eq_true rfl]; exact q H1 (Ex.refl H1)⟩
end

end Su
namespace Su
/-! ### windows: a list of pairs -/
abbrev Win := Addr × Int × Int
def refs (qs : List Win) : List V := qs.map fun q => V.ref q.1
def TW (H : Hp) (qs : List Win) : Prop := ∀ q ∈ qs, H q.1 = some (.tup [.int q.2.1, .int q.2.2])
theorem TW.ex {H H' : Hp} {qs : List Win} (h : TW H qs) (e : Ex H H') : TW H' qs := fun q hq => e _ _ (h q hq)
theorem TW.upd {H : Hp} {qs : List Win} {p : Addr} {xs ys : List V} (h : TW H qs) (hp : H p = some (.lst xs)) : TW (upd H p (.lst ys)) qs := fun q hq => by
  rw [upd_ne (ne_of (h q hq) hp (fun z => nomatch z))]
  exact h q hq
theorem TW.nil {H : Hp} : TW H [] := fun q hq => absurd hq List.not_mem_nil
theorem TW.add {H : Hp} {qs : List Win} {q : Win} (h : TW H qs) (hq : H q.1 = some (.tup [.int q.2.1, .int q.2.2])) : TW H (qs ++ [q]) := fun r hr => by
  rcases List.mem_append.mp hr with h' | h'
  · exact h r h'
  · obtain rfl := List.mem_singleton.mp h'
    exact hq
theorem refs_at {qs : List Win} {i : Nat} {x : V} (h : (refs qs)[i]? = some x) : ∃ q, qs[i]? = some q ∧ x = .ref q.1 := by
  unfold refs at h
  rw [List.getElem?_map] at h
  cases hc : qs[i]? with
  | none => rw [hc] at h; cases h
  | some c => rw [hc] at h; exact ⟨c, rfl, (Option.some.inj h).symm⟩
theorem refs_len {qs : List Win} : (refs qs).length = qs.length := List.length_map _
/-- windows[i][0], windows[i][1] -/
theorem ev_win {K : PySem.W.Frag} {ta tb : TE} {σ : L2.St} {H : Hp} {l : Addr} {qs : List Win} {i : Nat} {q : Win} (ha : Ev ta σ H (.ref l)) (hb : Ev tb σ H (.int (i : Nat))) (hl : SqL K H l (refs qs)) (hq : qs[i]? = some q) : Ev (tOp (rIxL K) ta tb) σ H (.ref q.1) :=
  ev_op ha hb (rv_ixL hl (atI_nat (by unfold refs; rw [List.getElem?_map, hq]; rfl)))
theorem ev_w0 {K : PySem.W.Frag} {ta : TE} {σ : L2.St} {H : Hp} {q : Win} (ha : Ev ta σ H (.ref q.1)) (hq : H q.1 = some (.tup [.int q.2.1, .int q.2.2])) : Ev (tOp (rIxT K) ta (tC (.int 0))) σ H (.int q.2.1) := ev_op ha ev_c (rv_ixT (st_of hq) rfl)
theorem ev_w1 {K : PySem.W.Frag} {ta : TE} {σ : L2.St} {H : Hp} {q : Win} (ha : Ev ta σ H (.ref q.1)) (hq : H q.1 = some (.tup [.int q.2.1, .int q.2.2])) : Ev (tOp (rIxT K) ta (tC (.int 1))) σ H (.int q.2.2) := ev_op ha ev_c (rv_ixT (st_of hq) rfl)
def winD (qs : List Win) : PyData := .list (qs.map fun q => .tuple [.int q.2.1, .int q.2.2])
theorem dp_win {K : PySem.W.Frag} {H : Hp} {l : Addr} {qs : List Win} (hl : SqL K H l (refs qs)) (ht : TW H qs) : Dp K H (.ref l) (winD qs) :=
  .lst hl (dpa_of (fun q : Win => V.ref q.1) (fun q => .tuple [.int q.2.1, .int q.2.2]) qs fun q hq => .tup (st_of (ht q hq)) (.cons (.int _) (.cons (.int _) .nil)))
theorem shaped_win (qs : List Win) : SeqAt.shaped (winD qs) = true := by
  have h1 : ∀ l : List Win, PyData.canLayAll0 (l.map fun q => .tuple [.int q.2.1, .int q.2.2]) = true := by
    intro l
    induction l with
    | nil => simp [PyData.canLayAll0]
    | cons a r ih => simp [PyData.canLayAll0, PyData.canLay0, ih]
  have h2 : ∀ l : List Win, PyData.depthAll (l.map fun q => .tuple [.int q.2.1, .int q.2.2]) ≤ 1 := by
    intro l
    induction l with
    | nil => simp [PyData.depthAll]
    | cons a r ih =>
      simp only [List.map_cons, PyData.depthAll, PyData.depth]
      omega
  unfold SeqAt.shaped winD
  rw [Bool.and_eq_true]
  refine ⟨?_, ?_⟩
  · simp only [PyData.canLay0]
    exact h1 qs
  · simp only [PyData.depth]
    have := h2 qs
    exact decide_eq_true (by omega)

end Su
namespace Su
theorem lay_of_shaped {d : PyData} (h : SeqAt.shaped d = true) : d.canLay0 = true := (Bool.and_eq_true_iff.mp h).1
/-- two lists of windows that are alike -/
theorem rv_neD {K : PySem.W.Frag} {H : Hp} {x y : V} {d : PyData} (h1 : Dp K H x d) (h2 : Dp K H y d) (hs : SeqAt.shaped d = true) : RV (rNeD K) x y H (.bl false) := fun H1 e Q q =>
  ⟨d, d, dp_ex e h1, dp_ex e h2, hs, hs, by rw [SeqAt.eqv_refl d (lay_of_shaped hs)]; exact q H1 (Ex.refl H1)⟩
theorem rv_eqD {K : PySem.W.Frag} {H : Hp} {x y : V} {d : PyData} (h1 : Dp K H x d) (h2 : Dp K H y d) (hs : SeqAt.shaped d = true) : RV (rEqD K) x y H (.bl true) := fun H1 e Q q =>
  ⟨d, d, dp_ex e h1, dp_ex e h2, hs, hs, by rw [SeqAt.eqv_refl d (lay_of_shaped hs)]; exact q H1 (Ex.refl H1)⟩
def intD (ns : List Int) : PyData := .list (ns.map .int)
theorem dp_ints {K : PySem.W.Frag} {H : Hp} {l : Addr} {ns : List Int} (hl : SqL K H l (ns.map V.int)) : Dp K H (.ref l) (intD ns) := .lst hl (dpa_of V.int PyData.int ns fun i _ => .int i)
theorem pl_ints {ns : List Int} (h : ns.length ≤ 1000) : PlD 1 (intD ns) := .list (by rw [List.length_map]; exact h) fun x hx => by
  obtain ⟨i, _, rfl⟩ := List.mem_map.mp hx
  exact .int i
theorem shaped_ints (ns : List Int) : SeqAt.shaped (intD ns) = true := by
  have h1 : ∀ l : List Int, PyData.canLayAll0 (l.map .int) = true := by
    intro l
    induction l with
    | nil => simp [PyData.canLayAll0]
    | cons a r ih => simp [PyData.canLayAll0, PyData.canLay0, ih]
  have h2 : ∀ l : List Int, PyData.depthAll (l.map .int) = 0 := by
    intro l
    induction l with
    | nil => simp [PyData.depthAll]
    | cons a r ih => simp [PyData.depthAll, PyData.depth, ih]
  unfold SeqAt.shaped intD
  rw [Bool.and_eq_true]
  refine ⟨?_, ?_⟩
  · simp only [PyData.canLay0]
    exact h1 ns
  · simp only [PyData.depth]
    have := h2 ns
    exact decide_eq_true (by omega)

end Su
namespace Su
/-! ### for i, x in enumerate(xs) -/
theorem s_forE {K : PySem.W.Frag} {a : Addr} {xs : List V} {g : TG} {tb : TS} {D : Ends} {σ : L2.St} {H : Hp} {ta : TA} (h : EvA ta σ H [.ref a]) (hx : SqL K H a xs) (Pv : Nat → L2.St → Hp → Prop) (h0 : ∀ H1, Ex H H1 → Pv 0 σ H1) (hl : ∀ i σ' H', i ≤ xs.length → Pv i σ' H' → SqL K H' a xs)
    (hs : ∀ i x T σ' Hc, xs[i]? = some x → Pv i σ' Hc → Hc T = none → ∃ σ2, Tgt g (.ref T) σ' σ2 (upd Hc T (.tup [.int (i : Nat), x])) ∧ tb { D with nx := Pv (i + 1), ct := Pv (i + 1), bk := D.nx } σ2 (upd Hc T (.tup [.int (i : Nat), x])))
    (hd : ∀ σ' H', Pv xs.length σ' H' → D.nx σ' H') : tFor (iEnum K ta) g tb D σ H :=
  h H (Ex.refl H) _ fun H1 e1 => ⟨a, xs, rfl, ex_l e1 hx, by
    refine ⟨fun i m σ' H' => m = xs.length - i ∧ i ≤ xs.length ∧ Pv i σ' H', ⟨xs.length, by simp, Nat.zero_le _, h0 H1 e1⟩, ?_⟩
    rintro i m σ' H' ⟨rfl, hi, p⟩
    have hX := hl i σ' H' hi p
    by_cases hlt : i < xs.length
    · refine .inr ⟨⟨xs, xs[i], hX, List.getElem?_eq_getElem hlt⟩, Pv (i + 1), fun σ2 H2 p' => ⟨xs.length - (i + 1), by omega, rfl, hlt, p'⟩, fun y H2 hy => ?_⟩
      obtain ⟨T, x, rfl, nT, rfl, hxx⟩ := hy
      obtain ⟨σ2, h1, h2⟩ := hs i x T σ' H' (hxx xs hX) p nT
      exact h1 _ (Ex.refl _) _ h2
    · have ei : i = xs.length := by omega
      subst ei
      exact .inl ⟨⟨xs, hX, Nat.le_refl _⟩, hd σ' H' p⟩⟩

end Su
namespace Su
/-! ### own exceptions: X(), except .. as e, isinstance(e, ..) -/
section
variable {X : Cx} {C : Addr} {bmB : List Value} {B newId initId : String}
theorem pmk_own0 {x : Str} {p pos : Pos} (F : ExcBaseFacts B newId initId bmB) (q : PySem.W.excIn X.K C bmB newId = true) (gC : X.mg x = some (.ref C)) (kC : PySem.W.keepIn X.K (.ref C) = true) (r : Raises X (.ref C)) (hg : Gl X x)
    (hdb : (x == ("__debug__" : Str)) = false := by decide) : PMk X (.Call (.Name x p) [] [] pos) (fun _ H Q => Q (.ref C) none H) := by
  intro pins s σ H Q I h
  refine wpAny_Call_Name_kw (ld_glob I hg gC ?_ hdb)
  refine PySem.W.callWith_K0 I.kIn kC ?_
  obtain ⟨bm, N, nm, qn, bs, hdct, sn, sub, ab, col, dd, k0, k1, k2, k3, k5, mN, hC, hN, hni, T⟩ := exc_obj I.kIn q
  refine wpAny_call_exc_subT F T hC hN hni (fun h' e hm => ?_) (Nat.zero_le _)
  exact mk_of I hm r h (I.hok.gone hm.new)
theorem pss_ex {ι : Type} {Pi : ι → Prop} {st : List Stmt} {t : ι → TS} (h : ∀ i, Pi i → PSs X st (t i)) : PSs X st (fun D σ H => ∃ i, Pi i ∧ t i D σ H) := ⟨fun pins s σ H D I ⟨i, hp, ht⟩ => (h i hp).run pins s σ H D I ht⟩
end
theorem rc_isE {K : PySem.W.Frag} {D a C : Addr} {H : Hp} {b : Bool} (h : PySem.W.kitOne K (.ref D) (.ref C) = some b) : RC (rIsE K D a) [.ref a, .ref C] H (.bl b) := fun H1 _ _ q => ⟨.ref C, .ref C, b, rfl, fun _ r => r, h, q H1 (Ex.refl H1)⟩
theorem rc_isEt {K : PySem.W.Frag} {D a : Addr} {n : String} {H : Hp} {b : Bool} (h : PySem.W.kitOne K (.ref D) (.type n) = some b) : RC (rIsE K D a) [.ref a, .ty n] H (.bl b) := fun H1 _ _ q => ⟨.ty n, .type n, b, rfl, fun _ r => r, h, q H1 (Ex.refl H1)⟩
def boolD (bs : List Bool) : PyData := .list (bs.map .bool)
theorem dp_bools {K : PySem.W.Frag} {H : Hp} {l : Addr} {bs : List Bool} (hl : SqL K H l (bs.map V.bl)) : Dp K H (.ref l) (boolD bs) := .lst hl (dpa_of V.bl PyData.bool bs fun i _ => .bl i)
theorem rv_eqDD {K : PySem.W.Frag} {H : Hp} {x y : V} {d e : PyData} {b : Bool} (h1 : Dp K H x d) (h2 : Dp K H y e) (hs : SeqAt.shaped d = true) (hs2 : SeqAt.shaped e = true) (hb : PyData.eqv d e = b) : RV (rEqD K) x y H (.bl b) := fun H1 ex Q q =>
  ⟨d, e, dp_ex ex h1, dp_ex ex h2, hs, hs2, by rw [hb]; exact q H1 (Ex.refl H1)⟩
theorem rv_neDD {K : PySem.W.Frag} {H : Hp} {x y : V} {d e : PyData} {b : Bool} (h1 : Dp K H x d) (h2 : Dp K H y e) (hs : SeqAt.shaped d = true) (hs2 : SeqAt.shaped e = true) (hb : PyData.eqv d e = !b) : RV (rNeD K) x y H (.bl b) := fun H1 ex Q q =>
  ⟨d, e, dp_ex ex h1, dp_ex ex h2, hs, hs2, by rw [hb, Bool.not_not]; exact q H1 (Ex.refl H1)⟩

end Su
namespace Su
theorem chain_le' {σ : L2.St} {H : Hp} {ta tb tc : TE} {a b c : Int} (h1 : Ev ta σ H (.int a)) (h2 : Ev tb σ H (.int b)) (h3 : Ev tc σ H (.int c)) :
    Ev (tChain (rI0 fun i j => .bl (decide (i ≤ j))) (rI0 fun i j => .bl (decide (i ≤ j))) ta tb tc) σ H (.bl (decide (a ≤ b) && decide (b ≤ c))) := fun H1 e Q q =>
  h1 H1 e _ fun H2 e2 => h2 H2 (e.trans e2) _ fun H3 e3 => ⟨a, b, rfl, rfl, decide (a ≤ b), rfl, by
    cases hd : decide (a ≤ b) with
    | true =>
      show tc σ H3 _
      exact h3 H3 ((e.trans e2).trans e3) _ fun H4 e4 => ⟨b, c, rfl, rfl, by rw [hd] at q; exact q H4 ((e2.trans e3).trans e4)⟩
    | false =>
      rw [hd] at q
      exact q H3 (e2.trans e3)⟩
theorem chain_le {σ : L2.St} {H : Hp} {ta tb tc : TE} {a b c : Int} (h1 : Ev ta σ H (.int a)) (h2 : Ev tb σ H (.int b)) (h3 : Ev tc σ H (.int c)) :
    EvT (tTest (tChain (rI0 fun i j => .bl (decide (i ≤ j))) (rI0 fun i j => .bl (decide (i ≤ j))) ta tb tc)) σ H (decide (a ≤ b) && decide (b ≤ c)) := fun H1 e Q q =>
  h1 H1 e _ fun H2 e2 => h2 H2 (e.trans e2) _ fun H3 e3 => ⟨a, b, rfl, rfl, decide (a ≤ b), rfl, by
    cases hd : decide (a ≤ b) with
    | true =>
      show tc σ H3 _
      exact h3 H3 ((e.trans e2).trans e3) _ fun H4 e4 => ⟨b, c, rfl, rfl, decide (b ≤ c), rfl, by rw [hd] at q; exact q H4 ((e2.trans e3).trans e4)⟩
    | false =>
      rw [hd] at q
      exact ⟨false, rfl, q H3 (e2.trans e3)⟩⟩

end Su
namespace Su
/-! ### worth -/
def worthG (up down : Int) : List Int → Int → Int → Int
  | [], t, _ => t
  | c :: r, t, a => worthG up down r (t * up + c * a) (a * down)
section
variable {P : Program} {w : World} {K : PySem.W.Frag} {mg : Str → Option Value} {base : Heap}
theorem n2 {x : Int} {a : Nat} (h : x.natAbs < 2 ^ a) {b : Nat} (hb : a ≤ b) : x.natAbs < 2 ^ b := Nat.lt_of_lt_of_le h (Nat.pow_le_pow_right (by decide) hb)
theorem n2add {x y : Int} {a : Nat} (h1 : x.natAbs < 2 ^ a) (h2 : y.natAbs < 2 ^ a) : (x + y).natAbs < 2 ^ (a + 1) := by
  rw [Nat.pow_succ]
  omega
theorem n2of {x : Int} {a : Nat} {n : Int} (h1 : -n ≤ x) (h2 : x ≤ n) (h : n.toNat < 2 ^ a) : x.natAbs < 2 ^ a := by omega
theorem drop_cons_of {l : List Int} {i : Nat} {x : Int} (h : l[i]? = some x) : l.drop i = x :: l.drop (i + 1) := by
  obtain ⟨h1, h2⟩ := List.getElem?_eq_some_iff.mp h
  rw [List.drop_eq_getElem_cons h1, h2]
theorem int_at {ns : List Int} {i : Nat} {x : V} (h : (ns.map V.int)[i]? = some x) : ∃ c, x = .int c ∧ ns[i]? = some c := by
  rw [List.getElem?_map] at h
  cases hc : ns[i]? with
  | none => rw [hc] at h; cases h
  | some c => rw [hc] at h; exact ⟨c, (Option.some.inj h).symm, rfl⟩
/-! the mathematics -/
theorem worth_lin (up down : Int) : ∀ (l : List Int) (t y a : Int), worthG up down l (t + y) a = worthG up down l t a + y * up ^ l.length
  | [], t, y, a => by rw [List.length_nil, Int.pow_zero, Int.mul_one]; rfl
  | c :: r, t, y, a => by
    show worthG up down r ((t + y) * up + c * a) (a * down) = worthG up down r (t * up + c * a) (a * down) + y * up ^ (r.length + 1)
    rw [show (t + y) * up + c * a = (t * up + c * a) + y * up by rw [Int.add_mul]; omega, worth_lin up down r, Int.pow_succ', Int.mul_assoc]
theorem worth_set (up down x : Int) : ∀ (l : List Int) (e : Nat) (c t a : Int), l[e]? = some c → worthG up down (l.set e (c + x)) t a = worthG up down l t a + x * a * (up ^ (l.length - 1 - e) * down ^ e)
  | [], _, _, _, _, h => by simp at h
  | d :: r, 0, c, t, a, h => by
    obtain rfl : d = c := Option.some.inj h
    show worthG up down r (t * up + (d + x) * a) (a * down) = worthG up down r (t * up + d * a) (a * down) + x * a * (up ^ (r.length + 1 - 1 - 0) * down ^ 0)
    rw [show t * up + (d + x) * a = (t * up + d * a) + x * a by rw [Int.add_mul]; omega, worth_lin, Int.pow_zero, Int.mul_one]
    rfl
  | d :: r, e + 1, c, t, a, h => by
    have ih := worth_set up down x r e c (t * up + d * a) (a * down) h
    show worthG up down (r.set e (c + x)) (t * up + d * a) (a * down) = worthG up down r (t * up + d * a) (a * down) + x * a * (up ^ (r.length + 1 - 1 - (e + 1)) * down ^ (e + 1))
    rw [ih, show r.length + 1 - 1 - (e + 1) = r.length - 1 - e by omega, Int.pow_succ']
    congr 1
    ac_rfl
end

end Su
namespace Su
section
variable {P : Program} {w : World} {K : PySem.W.Frag} {mg : Str → Option Value} {base : Heap}
def okUD (up down : Int) : Bool := (decide (1 ≤ up) && decide (up ≤ 1000)) && (decide (1 ≤ down) && decide (down ≤ 1000))
def spWorthX (K : PySem.W.Frag) (fB : Addr) : Sp := fun vs H Q E => ∃ (a : Addr) (row : List Int) (up down : Int), vs = [.ref a, .int up, .int down] ∧ SqL K H a (row.map V.int) ∧ row.length ≤ 40 ∧ (∀ x ∈ row, x.natAbs < 2 ^ 64) ∧
  (okUD up down = true → ∀ H', Ex H H' → Q (.int (worthG up down row 0 1)) H') ∧ (okUD up down = false → ∀ H', Ex H H' → E (.ref fB) none H')
theorem okx_worth {f : Addr} {fd : FuncData} {k : Nat} (F : Fun K "worth" "worth" s_worth f fd) (T : Top K mg) : FnOk P w K mg base (L2.CX P w) (k + 1) f fd ["row", "up", "down"] (spWorthX K T.f_BadNumber) := by
  have nd := sc_worth.nd
  refine F.okX sc_worth (fun vs H Q E h => ?_) (fun cdv A outer s H vs Q E hr h => ?_)
  · obtain ⟨a, row, up, down, rfl, _⟩ := h
    rfl
  · obtain ⟨a, row, up, down, rfl, hS, hlen, hb, q, qx⟩ := h
    refine ⟨_, (pss_cons (ps_if (pt_not (PW.pt (pw_and (pt_chain op_le op_le pe_int (pv 1) (pe_glob (v := .int 1000) (by rfl) T.m_MOST_TIMES ⟨_, rfl⟩)) (pw_and1 (pt_chain op_le op_le pe_int (pv 2) (pe_glob (v := .int 1000) (by rfl) T.m_MOST_TIMES ⟨_, rfl⟩))))))
        (pss_one (ps_raise rfl (takes_of rfl rfl rfl rfl) (pmk_own0 PySem.F.excBase_ValueError T.x_BadNumber T.m_BadNumber T.kp_BadNumber (raises_own T.sb_BadNumber T.ty_BadNumber) (by rfl))))
        pss_nil)
      (pss_cons (ps_set (i := 3) nd rfl (.inl rfl) pe_int)
      (pss_cons (ps_set (i := 4) nd rfl (.inl rfl) pe_int)
      (pss_cons (ps_for (passes_of rfl) rfl (pi_list (pv 0)) (pg_name (i := 5) nd rfl (.inl rfl))
        (pss_cons (ps_set (i := 3) nd rfl (.inl rfl) (pe_op op_add (pe_op op_mulW (pv 3) (pv 1)) (pe_op op_mulW (pv 5) (pv 4))))
          (pss_one (ps_set (i := 4) nd rfl (.inl rfl) (pe_op op_mulW (pv 4) (pv 2))))))
      (pss_one (ps_ret (pv 3))))))), ?_⟩
    refine q_when (b := !okUD up down) ?_ (fun hbad H1 e1 => ?_) (fun hgood H1 e1 => ?_)
    · exact et_not (et_and (chain_le (by walk_at "ev") (by walk_at "ev") (by walk_at "ev")) (fun _ => chain_le (by walk_at "ev") (by walk_at "ev") (by walk_at "ev")))
    · exact qx (by cases h : okUD up down <;> rw [h] at hbad <;> first | rfl | cases hbad) H1 e1
    have hok : okUD up down = true := by cases h : okUD up down <;> rw [h] at hgood <;> first | rfl | cases hgood
    have q := q hok
    unfold okUD at hok
    simp only [Bool.and_eq_true, decide_eq_true_eq] at hok
    obtain ⟨⟨u1, u2⟩, d1, d2⟩ := hok
    refine q_asg (by walk_at "ev") fun H2 e2 => ?_
    refine q_asg (by walk_at "ev") fun H3 e3 => ?_
    have ex3 := (e1.trans e2).trans e3
    refine q_forL (by walk_at "ev") (ex_l ex3 hS) (fun i σ' H' => ∃ (t a' : Int) (y5 : Option V), σ' = [some (.ref a), some (.int up), some (.int down), some (.int t), some (.int a'), y5] ∧ Ex H H' ∧ worthG up down (row.drop i) t a' = worthG up down row 0 1 ∧ t.natAbs < 2 ^ (100 + 12 * i) ∧ a'.natAbs < 2 ^ (1 + 10 * i)) ?_ ?_ ?_ ?_
    · intro H4 e4
      exact ⟨0, 1, none, rfl, ex3.trans e4, rfl, by decide, by decide⟩
    · rintro i σ' H' _ ⟨t, a', y5, rfl, ex, _⟩
      exact ex_l ex hS
    · rintro i x σ' H' hx ⟨t, a', y5, rfl, ex, hw, ht, ha⟩
      obtain ⟨c, rfl, hc⟩ := int_at hx
      have hi : i < row.length := (List.getElem?_eq_some_iff.mp hc).1
      have hcb := hb c (List.mem_of_getElem? hc)
      have hu : up.natAbs < 2 ^ 10 := by omega
      have hd : down.natAbs < 2 ^ 10 := by omega
      have m1 : CMulW t up := wide_mul ht hu (by omega) (by decide) (by omega)
      have m2 : CMulW c a' := wide_mul hcb ha (by decide) (by omega) (by omega)
      have m3 : CMulW a' down := wide_mul ha hd (by omega) (by decide) (by omega)
      refine q_asg (by walk_at "ev") fun H4 e4 => ?_
      refine s_asg (by walk_at "ev") fun H5 e5 => ?_
      refine ⟨t * up + c * a', a' * down, _, rfl, (ex.trans e4).trans e5, ?_, ?_, ?_⟩
      · rw [← hw, drop_cons_of hc]
        rfl
      · exact n2 (n2add (n2 (wide_lt ht hu) (Nat.le_refl (100 + 12 * i + 10))) (n2 (wide_lt hcb ha) (by omega))) (by omega)
      · exact n2 (wide_lt ha hd) (by omega)
    · rintro σ' H' ⟨t, a', y5, rfl, ex, hw, _⟩
      refine s_ret (by walk_at "ev") fun H4 e4 => ?_
      rw [List.length_map, List.drop_length] at hw
      have := q H4 (ex.trans e4)
      rw [← hw] at this
      exact this
end

end Su
namespace Su
section
variable {P : Program} {w : World} {K : PySem.W.Frag} {mg : Str → Option Value} {base : Heap}
theorem pow_bits {x : Int} (h : x.natAbs < 2 ^ 10) : ∀ n : Nat, (x ^ n).natAbs < 2 ^ (1 + 10 * n)
  | 0 => by rw [Int.pow_zero]; decide
  | n + 1 => by
    rw [Int.pow_succ]
    exact n2 (wide_lt (pow_bits h n) h) (by omega)
def spPower : Sp := fun vs H Q _ => ∃ (x : Int) (t : Nat), vs = [.int x, .int (t : Int)] ∧ x.natAbs < 2 ^ 10 ∧ t ≤ 100 ∧ ∀ H', Ex H H' → Q (.int (x ^ t)) H'
theorem spV_power {x : Int} {z : Int} {t : Nat} {H : Hp} (hz : z = (t : Int)) (h1 : x.natAbs < 2 ^ 10) (h2 : t ≤ 100) : SpV spPower [.int x, .int z] H (.int (x ^ t)) := fun H1 _ Q q _ => ⟨x, t, by rw [hz], h1, h2, q⟩
theorem ok__law_power {f : Addr} {fd : FuncData} {k : Nat} (F : Fun K "_law_power" "_law_power" s__law_power f fd) (T : Top K mg) : FnOk P w K mg base CX0 (k + 1) f fd ["_law_number", "_law_times"] spPower := by
  have nd := sc__law_power.nd
  refine F.ok sc__law_power (fun vs H Q E h => ?_) (fun cdv A outer s H vs Q E hr h => ?_)
  · obtain ⟨x, t, rfl, _⟩ := h
    rfl
  · obtain ⟨x, t, rfl, hx, ht, q⟩ := h
    refine ⟨_, (pss_cons (ps_set (i := 2) nd rfl (.inl rfl) pe_int)
      (pss_cons (ps_for PassesOwn.never rfl (pi_range1 rfl T.m_range (pa_cons (pv 1) pa_nil)) (pg_name (i := 3) nd rfl (.inl rfl))
        (pss_one (ps_set (i := 2) nd rfl (.inl rfl) (pe_op op_mulW (pv 2) (pv 0)))))
      (pss_one (ps_ret (pv 2))))), ?_⟩
    refine q_asg (by walk_at "ev") fun H1 e1 => ?_
    refine q_forR1 (by walk_at "ea") (by omega) (fun i σ' H' => ∃ y3 : Option V, σ' = [some (.int x), some (.int (t : Int)), some (.int (x ^ i)), y3] ∧ Ex H H') ?_ ?_ ?_
    · intro H2 e2
      exact ⟨none, by rw [Int.pow_zero]; rfl, e1.trans e2⟩
    · rintro i σ' H' hi ⟨y3, rfl, ex⟩
      have m := wide_mul (pow_bits hx i) hx (by omega) (by decide) (by omega)
      refine s_asg (by walk_at "ev") fun H2 e2 => ?_
      exact ⟨_, by rw [Int.pow_succ]; rfl, ex.trans e2⟩
    · rintro σ' H' ⟨y3, rfl, ex⟩
      refine s_ret (by walk_at "ev") fun H2 e2 => ?_
      exact q H2 (ex.trans e2)
end

end Su
namespace Su
section
variable {P : Program} {w : World} {K : PySem.W.Frag} {mg : Str → Option Value} {base : Heap}
def spLaw (K : PySem.W.Frag) : Sp := fun vs H Q _ => ∃ (a : Addr) (ns : List Int), vs = [.ref a] ∧ SqL K H a (ns.map V.int) ∧ ns.length ≤ 63 ∧ ∀ H', Q (.bl true) H'
theorem worth_snoc (up down : Int) (c : Int) : ∀ (l : List Int) (t a : Int), worthG up down (l ++ [c]) t a = worthG up down l t a * up + c * (a * down ^ l.length)
  | [], t, a => by
    rw [List.length_nil, Int.pow_zero, Int.mul_one]
    rfl
  | d :: r, t, a => by
    show worthG up down (r ++ [c]) (t * up + d * a) (a * down) = worthG up down r (t * up + d * a) (a * down) * up + c * (a * down ^ (r.length + 1))
    rw [worth_snoc up down c r, Int.pow_succ', Int.mul_assoc a down]
theorem due_step {up down c S T : Int} {n i : Nat} (hi : i < n) (h : S = T * up ^ (n - i)) : S + c * up ^ (n - 1 - i) * down ^ i = (T * up + c * (1 * down ^ i)) * up ^ (n - (i + 1)) := by
  rw [h, show n - i = (n - (i + 1)) + 1 by omega, show n - 1 - i = n - (i + 1) by omega, Int.pow_succ', Int.add_mul, Int.one_mul]
  congr 1
  · rw [Int.mul_assoc]
  · ac_rfl
theorem given_ints (rows : List Int) (n k : Nat) (h : k + n ≤ rows.length) : given n (fun _ => true) (fun i => .int (rows.getD (k + i) 0)) = ((rows.drop k).take n).map V.int := by
  apply List.ext_getElem?
  intro i
  unfold given
  rw [List.filter_eq_self.mpr (fun _ _ => rfl), List.getElem?_map, List.getElem?_map, List.getElem?_take]
  by_cases hi : i < n
  · rw [List.getElem?_range hi, if_pos hi, List.getElem?_drop, List.getElem?_eq_getElem (show k + i < rows.length by omega)]
    show some (V.int (rows.getD (k + i) 0)) = some (V.int rows[k + i])
    rw [List.getD_eq_getElem?_getD, List.getElem?_eq_getElem (show k + i < rows.length by omega)]
    rfl
  · rw [if_neg hi, List.getElem?_eq_none (by rw [List.length_range]; omega)]
    rfl
theorem q_tryw {sp : Sp} {W : WX} {ta : TA} {vs : List V} {σ : L2.St} {H : Hp} {i : Nat} {D : Ends} (h : EvA ta σ H vs) (hs : ∀ H1, Ex H H1 → sp vs H1 (fun v H2 => D.nx (σ.set i (some v)) H2) (WE W σ)) : tAsg (tCallS sp (WE W) ta) (gName i) D σ H :=
  h H (Ex.refl H) _ fun H1 e1 => hs H1 e1
theorem ok_law {f : Addr} {fd : FuncData} (F : Fun K "law" "law" s_law f fd) (T : Top K mg) : FnOk P w K mg base CX0 2 f fd ["_law_script"] (spLaw K) := by
  have nd := sc_law.nd
  have G__law_draws : FnOk P w K mg base CX0 1 T.f__law_draws T.fd__law_draws ["_law_script", "_law_many"] (spDraws K) := ok__law_draws T.F__law_draws T
  have G_worth : FnOk P w K mg base (L2.CX P w) 1 T.f_worth T.fd_worth ["row", "up", "down"] (spWorthX K T.f_BadNumber) := okx_worth T.F_worth T
  have G__law_power : FnOk P w K mg base CX0 1 T.f__law_power T.fd__law_power ["_law_number", "_law_times"] spPower := ok__law_power T.F__law_power T
  refine F.ok sc_law (fun vs H Q E h => ?_) (fun cdv A outer s H vs Q E hr h => ?_)
  · obtain ⟨a, ns, rfl, _⟩ := h
    rfl
  · obtain ⟨a, ns, rfl, hS, hlen, q⟩ := h
    refine ⟨_, (pss_cons (ps_set (i := 1) nd rfl (.inr rfl) (pe_call G__law_draws (hr.mono (by decide)) (by rfl) T.m__law_draws T.F__law_draws.kp T.b__law_draws .nil pass0 (pa_cons (pv 0) (pa_cons pe_int pa_nil))))
      (pss_cons (ps_set (i := 2) nd rfl (.inl rfl) (pe_op op_mod (pe_ix ix_list (pv 1) pe_int (fun _ _ => rfl)) pe_int))
      (pss_cons (ps_set (i := 3) nd rfl (.inl rfl) (pe_op op_add pe_int (pe_op op_mod (pe_ix ix_list (pv 1) pe_int (fun _ _ => rfl)) pe_int)))
      (pss_cons (ps_set (i := 4) nd rfl (.inl rfl) (pe_op op_add pe_int (pe_op op_mod (pe_ix ix_list (pv 1) pe_int (fun _ _ => rfl)) pe_int)))
      (pss_cons (ps_set (i := 5) nd rfl (.inl rfl) (pe_ix ix_list (pe_lst (pa_cons pe_int (pa_cons (pe_un un_neg pe_int) (pa_cons pe_int (pa_cons (pe_un un_neg pe_int) (pa_cons pe_int (pa_cons (pe_op op_pow pe_int pe_int) (pa_cons pe_int pa_nil)))))))) (pe_op op_mod (pe_ix ix_list (pv 1) pe_int (fun _ _ => rfl)) pe_int) (fun _ _ => rfl)))
      (pss_cut (ps_if (pt_cmpR op_eq (pe_op op_mod (pe_ix ix_list (pv 1) pe_int (fun _ _ => rfl)) pe_int) pe_int (nomark _))
        (pss_one (ps_set (i := 3) nd rfl (.inl rfl) (pv 5)))
        pss_nil)
      (pss_cut (ps_if (pt_cmpR op_eq (pe_op op_mod (pe_ix ix_list (pv 1) pe_int (fun _ _ => rfl)) pe_int) pe_int (nomark _))
        (pss_one (ps_set (i := 4) nd rfl (.inl rfl) (pv 5)))
        pss_nil)
      (pss_cons (ps_setLc (i := 7) (own := [("_law_at", 6)]) (g := gName 6) (tt := tYes) rfl nd rfl rfl (sw_true rfl rfl rfl (by decide +kernel)) (pi_range1 rfl T.m_range (pa_cons (pv 2) pa_nil)) (blkOk_by (own := [("_law_at", 6)]) (N := Su.N_law) (sc := defScope s_law) (by decide +kernel)) (fun _ _ _ _ _ => (pg_name (i := 6) nd rfl (.inl rfl))) (fun _ _ _ _ _ => pts_nil) (fun _ _ _ _ _ => (pe_ix (ix_listK (K := K) rfl) (pv 1) (pe_op op_add pe_int (pv 6)) (fun _ _ => rfl))))
      (pss_cons (ps_set (i := 8) nd rfl (.inl rfl) (pe_callTy call_list_of (by rfl) T.m_list (by decide +kernel) (pa_cons (pv 7) pa_nil)))
      (pss_cons (ps_set (i := 9) nd rfl (.inl rfl) (pe_lst pa_nil))
      (pss_cons (ps_set (i := 10) nd rfl (.inl rfl) pe_non)
      (pss_cut (ps_try_as (i := 11) (c := .ref T.f_SusuError) rfl rfl nd rfl rfl ⟨rfl, by decide, .inl T.m_SusuError⟩ takes0
        (fun W pn xe tk _ => (pss_one (ps_set (i := 10) nd rfl (.inl rfl) (pe_callS G_worth (hr.mono (by decide)) (by rfl) T.m_worth T.F_worth.kp T.b_worth (fun σ => passAt tk σ) (pa_cons (pv 8) (pa_cons (pv 3) (pa_cons (pv 4) pa_nil)))))))
        (fun a oe cls dd pn hz hf => (pss_ex (Pi := fun D : Addr => cls = .ref D ∧ dd = none ∧ ExcC K D) (t := fun D => tAsg (tLst (tCons (tCB (rIsE K D a) (tCons (tVar 11) (tCons (tC (.ref T.f_BadNumber)) tNil))) (tCons (tCB (rIsE K D a) (tCons (tVar 11) (tCons (tC (.ref T.f_Uneven)) tNil))) (tCons (tCB (rIsE K D a) (tCons (tVar 11) (tCons (tC (.ty "ValueError")) tNil))) tNil)))) (gName 9)) (fun D hP => by obtain ⟨rfl, rfl, C⟩ := hP; exact pss_one (ps_set (i := 9) nd rfl (.inl rfl) (pe_lst (pa_cons (pe_callB (call_isE C hz hf) (by rfl) T.m_isinstance (by decide +kernel) (pa_cons (pv 11) (pa_cons (pe_glob (v := .ref T.f_BadNumber) (by rfl) T.m_BadNumber rfl) pa_nil))) (pa_cons (pe_callB (call_isE C hz hf) (by rfl) T.m_isinstance (by decide +kernel) (pa_cons (pv 11) (pa_cons (pe_glob (v := .ref T.f_Uneven) (by rfl) T.m_Uneven rfl) pa_nil))) (pa_cons (pe_callB (call_isE C hz hf) (by rfl) T.m_isinstance (by decide +kernel) (pa_cons (pv 11) (pa_cons (pe_bltn (v := .ty "ValueError") (by rfl) T.m_ValueError (by decide +kernel) rfl) pa_nil))) pa_nil)))))))))
      (pss_cons (ps_if (pt_cmpR (op_neD hr.units) (pv 8) (pv 7) (nomark _))
        (pss_one (ps_ret pe_bl))
        pss_nil)
      (pss_cons (ps_if (PW.pt (pw_or (pt_not (pt_chain op_le op_le pe_int (pv 3) pe_int)) (pw_or1 (pt_not (pt_chain op_le op_le pe_int (pv 4) pe_int)))))
        (pss_one (ps_ret (pe_cmpR (op_eqD hr.units) (pv 9) (pe_lst (pa_cons pe_bl (pa_cons pe_bl (pa_cons pe_bl pa_nil)))) (nomark _))))
        pss_nil)
      (pss_cons (ps_set (i := 12) nd rfl (.inl rfl) pe_int)
      (pss_cons (ps_for PassesOwn.never rfl (pi_enum (by rfl) T.m_enumerate (pa_cons (pv 7) pa_nil)) (pg_tup rfl (pgs_cons (pg_name (i := 6) nd rfl (.inl rfl)) (pgs_cons (pg_name (i := 13) nd rfl (.inl rfl)) pgs_nil)))
        (pss_one (ps_set (i := 12) nd rfl (.inl rfl) (pe_op op_add (pv 12) (pe_op op_mulW (pe_op op_mulW (pv 13) (pe_call G__law_power (hr.mono (by decide)) (by rfl) T.m__law_power T.F__law_power.kp T.b__law_power .nil pass0 (pa_cons (pv 3) (pa_cons (pe_op op_sub (pe_op op_sub (pv 2) pe_int) (pv 6)) pa_nil)))) (pe_call G__law_power (hr.mono (by decide)) (by rfl) T.m__law_power T.F__law_power.kp T.b__law_power .nil pass0 (pa_cons (pv 4) (pa_cons (pv 6) pa_nil))))))))
      (pss_cons (ps_if (PW.pt (pw_or (pt_cmpR (op_neD hr.units) (pv 9) (pe_lst pa_nil) (nomark _)) (pw_or (pt_cmpR op_ne (pe_call G_worth (hr.mono (by decide)) (by rfl) T.m_worth T.F_worth.kp T.b_worth .nil passL (pa_cons (pv 8) (pa_cons (pv 3) (pa_cons (pv 4) pa_nil)))) (pv 12) (nomark _)) (pw_or1 (pt_cmpR (op_neD hr.units) (pv 8) (pv 7) (nomark _))))))
        (pss_one (ps_ret pe_bl))
        pss_nil)
      (pss_one (ps_ret (pe_and (pe_callB call_isi (by rfl) T.m_isinstance (by decide +kernel) (pa_cons (pv 10) (pa_cons (pe_bltn (v := .ty "int") (by rfl) T.m_int (by decide +kernel) rfl) pa_nil))) (pe_and (pe_not (pe_callB call_isi (by rfl) T.m_isinstance (by decide +kernel) (pa_cons (pv 10) (pa_cons (pe_bltn (v := .ty "bool") (by rfl) T.m_bool (by decide +kernel) rfl) pa_nil)))) (pe_one (pe_cmpR op_eq (pv 10) (pv 12) (nomark _)))))))))))))))))))))))), ?_⟩
    refine q_callN (by walk_at "ea") (spN_draws (m := 48) hS hlen (by decide)) ?_
    rintro _ p H1 ⟨rows, hR, rfl⟩ hp e1 h1
    have hl := hR.1
    have hs := sq_of (K := K) h1
    refine q_asg (by walk_at "ev") fun H2 e2 => ?_
    have hs := ex_l e2 hs
    obtain ⟨n, hn⟩ : ∃ n : Nat, rows.getD (Int.toNat 0) 0 % 41 = (n : Int) := ⟨(rows.getD (Int.toNat 0) 0 % 41).toNat, by omega⟩
    have hn2 : n ≤ 40 := by omega
    rw [hn]
    clear hn
    refine q_asg (by walk_at "ev") fun H3 e3 => ?_
    have hs := ex_l e3 hs
    refine q_asg (by walk_at "ev") fun H4 e4 => ?_
    have hs := ex_l e4 hs
    -- far
    refine q_asg (by (apply ev_opL1); (exact el_lst (vs := [(0 : Int), -1, 1001, -1000, 1000, 10 ^ 20, 1].map V.int) (by walk_at "ea") (by show 7 ≤ 100000; decide)); (intro _ e; have hs := ex_l e hs; walk_at "ev"); (intro _ _ h _; exact rv_ixL (sq_of h) (at_rows (by omega) (by show _ < (7 : Int); omega)))) fun H5 e5 => ?_
    have hs := ex_l e5 hs
    obtain ⟨far, hfar, r1, r2⟩ : ∃ far, [(0 : Int), -1, 1001, -1000, 1000, 10 ^ 20, 1].getD (rows.getD (Int.toNat 4) 0 % 7).toNat 0 = far ∧ -(10 ^ 20) ≤ far ∧ far ≤ 10 ^ 20 := by
      refine ⟨_, rfl, ?_⟩
      have h7 : (rows.getD (Int.toNat 4) 0 % 7).toNat < 7 := by omega
      generalize (rows.getD (Int.toNat 4) 0 % 7).toNat = j at h7
      match j, h7 with
      | 0, _ => decide
      | 1, _ => decide
      | 2, _ => decide
      | 3, _ => decide
      | 4, _ => decide
      | 5, _ => decide
      | 6, _ => decide
    rw [hfar]
    clear hfar
    -- up, down
    refine q_cut (M := fun σ' H' => ∃ up : Int, σ' = [some (.ref a), some (.ref p), some (.int n), some (.int up), some (.int (1 + rows.getD (Int.toNat 2) 0 % 1000)), some (.int far), none, none, none, none, none, none, none, none] ∧ SqL K H' p (rows.map V.int)) ?_ ?_
    · refine s_when (by walk_at "et") (fun _ H8 e8 => ?_) (fun _ H8 e8 => ?_)
      · have hs := ex_l e8 hs
        refine s_asg (by walk_at "ev") fun H9 e9 => ?_
        exact ⟨_, rfl, ex_l e9 hs⟩
      · exact ⟨_, rfl, ex_l e8 hs⟩
    rintro _ H6 ⟨up, rfl, hs⟩
    refine q_cut (M := fun σ' H' => ∃ down : Int, σ' = [some (.ref a), some (.ref p), some (.int n), some (.int up), some (.int down), some (.int far), none, none, none, none, none, none, none, none] ∧ SqL K H' p (rows.map V.int)) ?_ ?_
    · refine s_when (by walk_at "et") (fun _ H8 e8 => ?_) (fun _ H8 e8 => ?_)
      · have hs := ex_l e8 hs
        refine s_asg (by walk_at "ev") fun H9 e9 => ?_
        exact ⟨_, rfl, ex_l e9 hs⟩
      · exact ⟨_, rfl, ex_l e8 hs⟩
    rintro _ H7 ⟨down, rfl, hs⟩
    -- row
    refine q_asgL (el_lcR1 (n := (n : Int)) (fun _ => true) (fun i => .int (rows.getD (5 + i) 0)) (by walk_at "ea") (by omega) (fun _ => rfl) (fun _ _ _ _ => et_yes) (fun i H8 e8 hi _ => ?_)) fun rw1 H8 hrw e8 h8 => ?_
    · have hs := ex_l e8 hs
      refine ev_is (by walk_at "ev") ?_
      rw [show ((5 : Int) + (i : Int)).toNat = 5 + i by omega]
    rw [Int.toNat_natCast, given_ints rows n 5 (by omega)] at h8
    have hrl : ((rows.drop 5).take n).length = n := by rw [List.length_take, List.length_drop]; omega
    have hrb : ∀ x ∈ (rows.drop 5).take n, x.natAbs < 2 ^ 64 := fun x hx => by
      have := hR.2.2 x (List.mem_of_mem_drop (List.mem_of_mem_take hx))
      omega
    generalize (rows.drop 5).take n = row at h8 hrl hrb
    refine q_asgL (el_list (by walk_at "ev") (sq_of h8)) fun hd H9 hhd e9 h9 => ?_
    have h8 := ex_g e9 h8
    refine q_asgL (el_lst ea_nil (by decide)) fun mk H10 hmk e10 h10 => ?_
    have h8 := ex_g e10 h8
    have h9 := ex_g e10 h9
    refine q_asg (by walk_at "ev") fun H11 e11 => ?_
    have h8 := ex_g e11 h8
    have h9 := ex_g e11 h9
    have h10 := ex_g e11 h10
    -- the try
    refine q_cut (M := fun σ' H' => ∃ (mk : Addr) (told : V) (bs : List Bool), σ' = [some (.ref a), some (.ref p), some (.int n), some (.int up), some (.int down), some (.int far), none, some (.ref rw1), some (.ref hd), some (.ref mk), some told, none, none, none] ∧
        Ex H11 H' ∧ H' mk = some (.lst (bs.map V.bl)) ∧ (okUD up down = true → bs = [] ∧ told = .int (worthG up down row 0 1)) ∧ (okUD up down = false → bs = [true, false, true])) ?_ ?_
    · refine q_tryw (by walk_at "ea") fun H12 e12 => ⟨hd, row, up, down, rfl, sq_of (ex_g e12 h9), by omega, hrb, fun hok H13 e13 => ?_, fun hbad H13 e13 => ?_⟩
      · exact ⟨mk, _, [], rfl, e12.trans e13, ex_g (e12.trans e13) h10, fun _ => ⟨rfl, rfl⟩, fun z => by rw [hok] at z; cases z⟩
      · refine ⟨true, PySem.W.exm_ref T.sb_SusuError T.hd_SusuError T.ty_SusuError T.su_BadNumber_SusuError, fun _ ae hae => ?_, fun z => by cases z⟩
        refine ⟨T.f_BadNumber, ⟨rfl, rfl, T.e_BadNumber⟩, ?_⟩
        refine s_asgL (xs := [true, false, true].map V.bl) (el_lst (ea_cons (ev_cb (by walk_at "ea") (rc_isE T.ki_BadNumber_BadNumber)) (ea_cons (ev_cb (by walk_at "ea") (rc_isE T.ki_BadNumber_Uneven)) (ea_cons (ev_cb (by walk_at "ea") (rc_isEt T.ki_BadNumber_ValueError)) ea_nil))) (by show 3 ≤ 100000; decide)) fun m2 H14 hm2 e14 h14 => ?_
        exact ⟨m2, .non, [true, false, true], rfl, (e12.trans e13).trans e14, h14, (fun z => by rw [hbad] at z; cases z), fun _ => rfl⟩
    rintro _ H12 ⟨mk, told, bs, rfl, e12, hmk, hgood, hbad⟩
    have h8a := h8
    have h8 := ex_g e12 h8
    have h9 := ex_g e12 h9
    refine q_when (b := false) (et_test (ev_op (by walk_at "ev") (by walk_at "ev") (rv_neD (d := intD row) (dp_ints (sq_of h9)) (dp_ints (sq_of h8)) (shaped_ints row)))) (fun h => by cases h) fun _ H13 e13 => ?_
    have h8 := ex_g e13 h8
    have h9 := ex_g e13 h9
    have hmk := ex_g e13 hmk
    refine q_when (b := !okUD up down) ?_ (fun hb H14 e14 => ?_) (fun hb H14 e14 => ?_)
    · refine et_is (et_or (et_not (et_test (te := tChain _ _ _ _ _) (chain_le' (by walk_at "ev") (by walk_at "ev") (by walk_at "ev")))) fun _ => et_not (et_test (te := tChain _ _ _ _ _) (chain_le' (by walk_at "ev") (by walk_at "ev") (by walk_at "ev")))) ?_
      unfold okUD
      simp only [Bool.not_and]
    · have hz : okUD up down = false := by cases h : okUD up down <;> rw [h] at hb <;> first | rfl | cases hb
      obtain rfl := hbad hz
      have hmk := ex_g e14 hmk
      refine s_ret (v := .bl true) (ev_opL (by walk_at "ev") (el_lst (vs := [true, false, true].map V.bl) (by walk_at "ea") (by show 3 ≤ 100000; decide)) fun p3 H15 h15 e15 => rv_eqD (d := boolD [true, false, true]) (dp_bools (sq_of (ex_g e15 hmk))) (dp_bools (sq_of h15)) (by decide +kernel)) fun H15 e15 => q H15
    have hok : okUD up down = true := by cases h : okUD up down <;> rw [h] at hb <;> first | rfl | cases hb
    obtain ⟨rfl, rfl⟩ := hgood hok
    have hok' := hok
    unfold okUD at hok'
    simp only [Bool.and_eq_true, decide_eq_true_eq] at hok'
    obtain ⟨⟨u1, u2⟩, d1, d2⟩ := hok'
    have hu : up.natAbs < 2 ^ 10 := by omega
    have hdw : down.natAbs < 2 ^ 10 := by omega
    have h8 := ex_g e14 h8
    have h9 := ex_g e14 h9
    have hmk := ex_g e14 hmk
    refine q_asg (by walk_at "ev") fun H15 e15 => ?_
    have h8 := ex_g e15 h8
    -- due, coin by coin
    refine s_forE (by walk_at "ea") (sq_of h8) (fun i σ' H' => ∃ (S : Int) (y6 y13 : Option V), σ' = [some (.ref a), some (.ref p), some (.int n), some (.int up), some (.int down), some (.int far), y6, some (.ref rw1), some (.ref hd), some (.ref mk), some (.int (worthG up down row 0 1)), none, some (.int S), y13] ∧
      Ex H14 H' ∧ S = worthG up down (row.take i) 0 1 * up ^ (n - i)) ?_ ?_ ?_ ?_
    · intro H16 e16
      exact ⟨0, none, none, rfl, e15.trans e16, by rw [List.take_zero]; show (0 : Int) = 0 * _; rw [Int.zero_mul]⟩
    · rintro i σ' H' _ ⟨S, y6, y13, rfl, ex, _⟩
      exact sq_of (ex_g ex (by assumption))
    · rintro i x Tt σ' Hc hx ⟨S, y6, y13, rfl, ex, hSv⟩ nT
      obtain ⟨c, rfl, hc⟩ := int_at hx
      have hi : i < row.length := (List.getElem?_eq_some_iff.mp hc).1
      rw [hrl] at hi
      have hcb := hrb c (List.mem_of_getElem? hc)
      refine ⟨_, tg_two (st_of upd_same) tg_name tg_name, ?_⟩
      have exT : Ex H14 (upd Hc Tt (.tup [.int (i : Nat), .int c])) := ex.trans (Ex.new nT)
      generalize upd Hc Tt (.tup [.int (i : Nat), .int c]) = Hc' at exT ⊢
      have m1 : CMulW c (up ^ (n - 1 - i)) := wide_mul hcb (pow_bits hu _) (by decide) (by omega) (by omega)
      have m2 : CMulW (c * up ^ (n - 1 - i)) (down ^ i) := wide_mul (wide_lt hcb (pow_bits hu _)) (pow_bits hdw i) (by omega) (by omega) (by omega)
      refine s_asg (ev_op (by walk_at "ev") (ev_op (ev_op (by walk_at "ev") (by (apply ev_call); (walk_at "ea"); exact spV_power (t := n - 1 - i) (by omega) hu (by omega)) (rv_mulW m1)) (by (apply ev_call); (walk_at "ea"); exact spV_power (t := i) rfl hdw (by omega)) (rv_mulW m2)) rv_I0) fun H16 e16 => ?_
      refine ⟨_, _, _, rfl, exT.trans e16, ?_⟩
      rw [due_step hi hSv, List.take_succ, hc]
      show _ = worthG up down (row.take i ++ [c]) 0 1 * _
      rw [worth_snoc, List.length_take, Nat.min_eq_left (by omega)]
    · rintro σ' H16 ⟨S, y6, y13, rfl, ex, hSv⟩
      rw [List.length_map, List.take_length, hrl, Nat.sub_self, Int.pow_zero, Int.mul_one] at hSv
      subst hSv
      have h8 := ex_g ex (ex_g (e12.trans (e13.trans e14)) h8a)
      have h9 := ex_g ex h9
      have hmk := ex_g ex hmk
      have cW : ∀ H', Ex H16 H' → Ev (tCall (spWorthX K T.f_BadNumber) [] E0 (tCons (tVar 8) (tCons (tVar 3) (tCons (tVar 4) tNil)))) [some (.ref a), some (.ref p), some (.int n), some (.int up), some (.int down), some (.int far), y6, some (.ref rw1), some (.ref hd), some (.ref mk), some (.int (worthG up down row 0 1)), none, some (.int (worthG up down row 0 1)), y13] H' (.int (worthG up down row 0 1)) := fun H' e' =>
        ev_call (by walk_at "ea") fun H1 e1 Q1 q1 _ => ⟨hd, row, up, down, rfl, sq_of (ex_g (e'.trans e1) h9), by omega, hrb, fun _ => q1, fun z => by rw [hok] at z; cases z⟩
      dsimp only
      refine q_when (b := false) ?_ (fun h => by cases h) fun _ H17 e17 => ?_
      · refine et_or (a := false) (b := false || false) (et_test (ev_opL (by walk_at "ev") (el_lst ea_nil (by decide)) fun p3 H18 h18 e18 => rv_neDD (d := boolD []) (e := boolD []) (dp_bools (sq_of (ex_g e18 hmk))) (dp_bools (sq_of h18)) (by decide +kernel) (by decide +kernel) (by decide +kernel))) fun _ => et_or (et_test (ev_op (cW H16 (Ex.refl _)) (by walk_at "ev") ?_)) fun _ => et_test (ev_op (by walk_at "ev") (by walk_at "ev") (rv_neD (d := intD row) (dp_ints (sq_of h9)) (dp_ints (sq_of h8)) (shaped_ints row)))
        exact fun H1 e Q q => ⟨rfl, by rw [decide_eq_true rfl]; exact q H1 (Ex.refl H1)⟩
      refine s_ret (v := .bl true) (ev_is (by walk_at "ev") ?_) fun H18 e18 => q H18
      rw [decide_eq_true rfl]
      rfl
end

end Su
namespace Su
def top_mk {K : PySem.W.Frag} {h : Heap} {mg : Str → Option Value} (X : K.In h) (G : h.Ns mainGlobals mg)
    {od0 an0 : Option Addr} {sl0 : Array (Option Value)} {oc0 kV0 dc0 pm0 cd0 ct0 : Value} {f0 : Addr}
    (a0 : PySem.W.nsIn K mainGlobals "worth" = some (some (.ref f0))) (l0 : K.lookup f0 = some ⟨oc0, od0, .func (PySem.W.fnOf "worth" "worth" (defArgs s_worth) (defBody s_worth) (defScope s_worth) .none kV0 dc0 pm0 an0 cd0 ct0), sl0⟩) (c0 : PySem.W.codeIn K cd0 "worth" = true) (k0 : PySem.W.keepIn K (.ref f0) = true)
    {od1 an1 : Option Addr} {sl1 : Array (Option Value)} {oc1 kV1 dc1 pm1 cd1 ct1 : Value} {f1 : Addr}
    (a1 : PySem.W.nsIn K mainGlobals "_law_draws" = some (some (.ref f1))) (l1 : K.lookup f1 = some ⟨oc1, od1, .func (PySem.W.fnOf "_law_draws" "_law_draws" (defArgs s__law_draws) (defBody s__law_draws) (defScope s__law_draws) .none kV1 dc1 pm1 an1 cd1 ct1), sl1⟩) (c1 : PySem.W.codeIn K cd1 "_law_draws" = true) (k1 : PySem.W.keepIn K (.ref f1) = true)
    {od2 an2 : Option Addr} {sl2 : Array (Option Value)} {oc2 kV2 dc2 pm2 cd2 ct2 : Value} {f2 : Addr}
    (a2 : PySem.W.nsIn K mainGlobals "_law_power" = some (some (.ref f2))) (l2 : K.lookup f2 = some ⟨oc2, od2, .func (PySem.W.fnOf "_law_power" "_law_power" (defArgs s__law_power) (defBody s__law_power) (defScope s__law_power) .none kV2 dc2 pm2 an2 cd2 ct2), sl2⟩) (c2 : PySem.W.codeIn K cd2 "_law_power" = true) (k2 : PySem.W.keepIn K (.ref f2) = true)
    {od3 an3 : Option Addr} {sl3 : Array (Option Value)} {oc3 kV3 dc3 pm3 cd3 ct3 : Value} {f3 : Addr}
    (a3 : PySem.W.nsIn K mainGlobals "law" = some (some (.ref f3))) (l3 : K.lookup f3 = some ⟨oc3, od3, .func (PySem.W.fnOf "law" "law" (defArgs s_law) (defBody s_law) (defScope s_law) .none kV3 dc3 pm3 an3 cd3 ct3), sl3⟩) (c3 : PySem.W.codeIn K cd3 "law" = true) (k3 : PySem.W.keepIn K (.ref f3) = true)
    (z0 : PySem.W.nsIn K mainGlobals "ValueError" = some none)
    (z1 : PySem.W.nsIn K mainGlobals "abs" = some none)
    (z2 : PySem.W.nsIn K mainGlobals "bool" = some none)
    (z3 : PySem.W.nsIn K mainGlobals "enumerate" = some none)
    (z4 : PySem.W.nsIn K mainGlobals "int" = some none)
    (z5 : PySem.W.nsIn K mainGlobals "isinstance" = some none)
    (z6 : PySem.W.nsIn K mainGlobals "len" = some none)
    (z7 : PySem.W.nsIn K mainGlobals "list" = some none)
    (z8 : PySem.W.nsIn K mainGlobals "range" = some none)
    {tk0 : Tok} (n0 : PySem.W.nsIn K mainGlobals "MOST_TIMES" = some (some (.int 1000 tk0)))
    {fc0 : Addr}
    (x1 : PySem.W.nsIn K mainGlobals "SusuError" = some (some (.ref fc0)))
    {fc2 : Addr}
    (x3 : PySem.W.nsIn K mainGlobals "BadNumber" = some (some (.ref fc2)))
    {fc4 : Addr}
    (x5 : PySem.W.nsIn K mainGlobals "Uneven" = some (some (.ref fc4)))
    (x6 : PySem.W.excIn K fc2 vErr "ValueError.__new__" = true)
    (x7 : PySem.W.keepIn K (.ref fc2) = true)
    (x8_0 : PySem.W.findIn K (.ref fc2) "__getattribute__" = some (some (.builtin "BaseException.__getattribute__")))
    (x8_1 : PySem.W.findIn K (.ref fc2) "__getattr__" = some none)
    (x8_2 : PySem.W.subIn K (.ref fc2) (.type "BaseException") = some true)
    (x8_3 : PySem.W.hasDictIn K fc2 = true)
    (x8_4 : PySem.W.findIn K (.ref fc2) "__class__" = some (some (.builtin "object.__class__")))
    (x8_5 : PySem.W.specialIn K (.builtin "object.__class__") "__get__" = some (some (.builtin "getset_descriptor.__get__")))
    (x8_6 : PySem.W.takesIn K (.builtin "object.__class__") = some true)
    (x8_7 : PySem.W.mroIn K fc2 (.type "object") = some true)
    (x9 : PySem.W.subIn K (.ref fc2) (.ref fc0) = some true)
    (x10 : PySem.W.kitOne K (.ref fc2) (.ref fc2) = some true)
    (x11 : PySem.W.kitOne K (.ref fc2) (.ref fc4) = some false)
    (x12 : PySem.W.kitOne K (.ref fc2) (.type "ValueError") = some true)
    (x13 : PySem.W.subIn K (.ref fc2) (.type "BaseException") = some true)
    (x14 : PySem.W.typeIn K (.ref fc2) = some (.type "type"))
    (x15 : PySem.W.subIn K (.ref fc0) (.type "BaseException") = some true)
    (x16 : PySem.W.typeIn K (.ref fc0) = some (.type "type"))
    (x17 : PySem.W.hasDictIn K fc0 = true) : Top K mg where
      f_worth := f0
      fd_worth := _
      F_worth := fun_mk (st := s_worth) l0 c0 k0
      b_worth := (fun_mk (st := s_worth) l0 c0 k0).binds (ps := ["row", "up", "down"]) (fun _ _ _ _ _ _ us hl => match us, hl with | [_, _, _], _ => rfl)
      m_worth := PySem.W.mg_of X G a0
      f__law_draws := f1
      fd__law_draws := _
      F__law_draws := fun_mk (st := s__law_draws) l1 c1 k1
      b__law_draws := (fun_mk (st := s__law_draws) l1 c1 k1).binds (ps := ["_law_script", "_law_many"]) (fun _ _ _ _ _ _ us hl => match us, hl with | [_, _], _ => rfl)
      m__law_draws := PySem.W.mg_of X G a1
      f__law_power := f2
      fd__law_power := _
      F__law_power := fun_mk (st := s__law_power) l2 c2 k2
      b__law_power := (fun_mk (st := s__law_power) l2 c2 k2).binds (ps := ["_law_number", "_law_times"]) (fun _ _ _ _ _ _ us hl => match us, hl with | [_, _], _ => rfl)
      m__law_power := PySem.W.mg_of X G a2
      f_law := f3
      fd_law := _
      F_law := fun_mk (st := s_law) l3 c3 k3
      b_law := (fun_mk (st := s_law) l3 c3 k3).binds (ps := ["_law_script"]) (fun _ _ _ _ _ _ us hl => match us, hl with | [_], _ => rfl)
      m_law := PySem.W.mg_of X G a3
      m_ValueError := PySem.W.mg_none_of X G z0
      m_abs := PySem.W.mg_none_of X G z1
      m_bool := PySem.W.mg_none_of X G z2
      m_enumerate := PySem.W.mg_none_of X G z3
      m_int := PySem.W.mg_none_of X G z4
      m_isinstance := PySem.W.mg_none_of X G z5
      m_len := PySem.W.mg_none_of X G z6
      m_list := PySem.W.mg_none_of X G z7
      m_range := PySem.W.mg_none_of X G z8
      t_MOST_TIMES := tk0
      m_MOST_TIMES := PySem.W.mg_of X G n0
      f_SusuError := fc0
      m_SusuError := PySem.W.mg_of X G x1
      f_BadNumber := fc2
      m_BadNumber := PySem.W.mg_of X G x3
      f_Uneven := fc4
      m_Uneven := PySem.W.mg_of X G x5
      x_BadNumber := x6
      kp_BadNumber := x7
      e_BadNumber := ⟨x8_0, x8_1, x8_2, x8_3, x8_4, x8_5, x8_6, x8_7⟩
      su_BadNumber_SusuError := x9
      ki_BadNumber_BadNumber := x10
      ki_BadNumber_Uneven := x11
      ki_BadNumber_ValueError := x12
      sb_BadNumber := x13
      ty_BadNumber := x14
      sb_SusuError := x15
      ty_SusuError := x16
      hd_SusuError := x17
theorem all_mk {l : PySem.W.OpenLaw} {w : World} {K : PySem.W.Frag} {h : Heap} {mg : Str → Option Value} {fa : Addr} (X : K.In h) (G : h.Ns mainGlobals mg) (hfa : mg "law" = some (.ref fa))
    {od0 an0 : Option Addr} {sl0 : Array (Option Value)} {oc0 kV0 dc0 pm0 cd0 ct0 : Value} {f0 : Addr}
    (a0 : PySem.W.nsIn K mainGlobals "worth" = some (some (.ref f0))) (l0 : K.lookup f0 = some ⟨oc0, od0, .func (PySem.W.fnOf "worth" "worth" (defArgs s_worth) (defBody s_worth) (defScope s_worth) .none kV0 dc0 pm0 an0 cd0 ct0), sl0⟩) (c0 : PySem.W.codeIn K cd0 "worth" = true) (k0 : PySem.W.keepIn K (.ref f0) = true)
    {od1 an1 : Option Addr} {sl1 : Array (Option Value)} {oc1 kV1 dc1 pm1 cd1 ct1 : Value} {f1 : Addr}
    (a1 : PySem.W.nsIn K mainGlobals "_law_draws" = some (some (.ref f1))) (l1 : K.lookup f1 = some ⟨oc1, od1, .func (PySem.W.fnOf "_law_draws" "_law_draws" (defArgs s__law_draws) (defBody s__law_draws) (defScope s__law_draws) .none kV1 dc1 pm1 an1 cd1 ct1), sl1⟩) (c1 : PySem.W.codeIn K cd1 "_law_draws" = true) (k1 : PySem.W.keepIn K (.ref f1) = true)
    {od2 an2 : Option Addr} {sl2 : Array (Option Value)} {oc2 kV2 dc2 pm2 cd2 ct2 : Value} {f2 : Addr}
    (a2 : PySem.W.nsIn K mainGlobals "_law_power" = some (some (.ref f2))) (l2 : K.lookup f2 = some ⟨oc2, od2, .func (PySem.W.fnOf "_law_power" "_law_power" (defArgs s__law_power) (defBody s__law_power) (defScope s__law_power) .none kV2 dc2 pm2 an2 cd2 ct2), sl2⟩) (c2 : PySem.W.codeIn K cd2 "_law_power" = true) (k2 : PySem.W.keepIn K (.ref f2) = true)
    {od3 an3 : Option Addr} {sl3 : Array (Option Value)} {oc3 kV3 dc3 pm3 cd3 ct3 : Value} {f3 : Addr}
    (a3 : PySem.W.nsIn K mainGlobals "law" = some (some (.ref f3))) (l3 : K.lookup f3 = some ⟨oc3, od3, .func (PySem.W.fnOf "law" "law" (defArgs s_law) (defBody s_law) (defScope s_law) .none kV3 dc3 pm3 an3 cd3 ct3), sl3⟩) (c3 : PySem.W.codeIn K cd3 "law" = true) (k3 : PySem.W.keepIn K (.ref f3) = true)
    (z0 : PySem.W.nsIn K mainGlobals "ValueError" = some none)
    (z1 : PySem.W.nsIn K mainGlobals "abs" = some none)
    (z2 : PySem.W.nsIn K mainGlobals "bool" = some none)
    (z3 : PySem.W.nsIn K mainGlobals "enumerate" = some none)
    (z4 : PySem.W.nsIn K mainGlobals "int" = some none)
    (z5 : PySem.W.nsIn K mainGlobals "isinstance" = some none)
    (z6 : PySem.W.nsIn K mainGlobals "len" = some none)
    (z7 : PySem.W.nsIn K mainGlobals "list" = some none)
    (z8 : PySem.W.nsIn K mainGlobals "range" = some none)
    {tk0 : Tok} (n0 : PySem.W.nsIn K mainGlobals "MOST_TIMES" = some (some (.int 1000 tk0)))
    {fc0 : Addr}
    (x1 : PySem.W.nsIn K mainGlobals "SusuError" = some (some (.ref fc0)))
    {fc2 : Addr}
    (x3 : PySem.W.nsIn K mainGlobals "BadNumber" = some (some (.ref fc2)))
    {fc4 : Addr}
    (x5 : PySem.W.nsIn K mainGlobals "Uneven" = some (some (.ref fc4)))
    (x6 : PySem.W.excIn K fc2 vErr "ValueError.__new__" = true)
    (x7 : PySem.W.keepIn K (.ref fc2) = true)
    (x8_0 : PySem.W.findIn K (.ref fc2) "__getattribute__" = some (some (.builtin "BaseException.__getattribute__")))
    (x8_1 : PySem.W.findIn K (.ref fc2) "__getattr__" = some none)
    (x8_2 : PySem.W.subIn K (.ref fc2) (.type "BaseException") = some true)
    (x8_3 : PySem.W.hasDictIn K fc2 = true)
    (x8_4 : PySem.W.findIn K (.ref fc2) "__class__" = some (some (.builtin "object.__class__")))
    (x8_5 : PySem.W.specialIn K (.builtin "object.__class__") "__get__" = some (some (.builtin "getset_descriptor.__get__")))
    (x8_6 : PySem.W.takesIn K (.builtin "object.__class__") = some true)
    (x8_7 : PySem.W.mroIn K fc2 (.type "object") = some true)
    (x9 : PySem.W.subIn K (.ref fc2) (.ref fc0) = some true)
    (x10 : PySem.W.kitOne K (.ref fc2) (.ref fc2) = some true)
    (x11 : PySem.W.kitOne K (.ref fc2) (.ref fc4) = some false)
    (x12 : PySem.W.kitOne K (.ref fc2) (.type "ValueError") = some true)
    (x13 : PySem.W.subIn K (.ref fc2) (.type "BaseException") = some true)
    (x14 : PySem.W.typeIn K (.ref fc2) = some (.type "type"))
    (x15 : PySem.W.subIn K (.ref fc0) (.type "BaseException") = some true)
    (x16 : PySem.W.typeIn K (.ref fc0) = some (.type "type"))
    (x17 : PySem.W.hasDictIn K fc0 = true) :
    ∃ fd : FuncData, (∀ (s : Shared) (v : Value), BindsTo s fd ⟨[v], []⟩ [("_law_script", v)]) ∧ ∀ base : Heap, K.In base → base.Ns mainGlobals mg → FnOk l.prog w K mg base CX0 2 fa fd ["_law_script"] (spLaw K) := by
  have e := hfa.symm.trans (PySem.W.mg_of X G a3)
  cases e
  exact ⟨PySem.W.fnOf "law" "law" (defArgs s_law) (defBody s_law) (defScope s_law) .none kV3 dc3 pm3 an3 cd3 ct3, fun s v => .of_eq rfl, fun base _ _ => ok_law (fun_mk (st := s_law) l3 c3 k3) (top_mk X G a0 l0 c0 k0 a1 l1 c1 k1 a2 l2 c2 k2 a3 l3 c3 k3 z0 z1 z2 z3 z4 z5 z6 z7 z8 n0 x1 x3 x5 x6 x7 x8_0 x8_1 x8_2 x8_3 x8_4 x8_5 x8_6 x8_7 x9 x10 x11 x12 x13 x14 x15 x16 x17)⟩
end Su
open PySem PySem.W PyProof.Rows
set_option maxHeartbeats 0 in
theorem PySem.Challenge.cw_susu_k18_worth_of_coins_holds : PySem.Challenge.rw_susu_k18_worth_of_coins.Holds := by
  w_on; o_law; k_head; (case hw => w_witness2)
  k_fill
  refine L2.walk_of (l := PySem.Challenge.rw_susu_k18_worth_of_coins) (n := 63) (k := 2) (x := "_law_script") (CX := fun _ => L2.CX0) (sp := fun w => Su.spLaw _) rfl (by decide) rfl ⟨rfl, by decide, by decide⟩ (fun w h Y => PySem.W.kIn_of Y) ?F (fun _ _ a ns hl _ hS => ⟨a, ns, rfl, hS, hl, fun _ => rfl⟩) (fun _ _ _ _ _ h => h)
  case F =>
    intro w mg fa h KX G hmg
    refine' Su.all_mk KX G hmg ?a0 ?l0 ?c0 ?k0 ?a1 ?l1 ?c1 ?k1 ?a2 ?l2 ?c2 ?k2 ?a3 ?l3 ?c3 ?k3 ?z0 ?z1 ?z2 ?z3 ?z4 ?z5 ?z6 ?z7 ?z8 ?n0 ?x1 ?x3 ?x5 ?x6 ?x7 ?x8_0 ?x8_1 ?x8_2 ?x8_3 ?x8_4 ?x8_5 ?x8_6 ?x8_7 ?x9 ?x10 ?x11 ?x12 ?x13 ?x14 ?x15 ?x16 ?x17
    (case a0 => k_is); (case l0 => k_is); (case c0 => k_is); (case k0 => k_is); (case a1 => k_is); (case l1 => k_is); (case c1 => k_is); (case k1 => k_is); (case a2 => k_is); (case l2 => k_is); (case c2 => k_is); (case k2 => k_is); (case a3 => k_is); (case l3 => k_is); (case c3 => k_is); (case k3 => k_is); (case z0 => k_is); (case z1 => k_is); (case z2 => k_is); (case z3 => k_is); (case z4 => k_is); (case z5 => k_is); (case z6 => k_is); (case z7 => k_is); (case z8 => k_is); (case n0 => k_is); (case x1 => first | k_is | k_exc | rfl); (case x3 => first | k_is | k_exc | rfl); (case x5 => first | k_is | k_exc | rfl); (case x6 => first | k_is | k_exc | rfl); (case x7 => first | k_is | k_exc | rfl); (case x8_0 => first | k_is | k_exc | rfl); (case x8_1 => first | k_is | k_exc | rfl); (case x8_2 => first | k_is | k_exc | rfl); (case x8_3 => first | k_is | k_exc | rfl); (case x8_4 => first | k_is | k_exc | rfl); (case x8_5 => first | k_is | k_exc | rfl); (case x8_6 => first | k_is | k_exc | rfl); (case x8_7 => first | k_is | k_exc | rfl); (case x9 => first | k_is | k_exc | rfl); (case x10 => first | k_is | k_exc | rfl); (case x11 => first | k_is | k_exc | rfl); (case x12 => first | k_is | k_exc | rfl); (case x13 => first | k_is | k_exc | rfl); (case x14 => first | k_is | k_exc | rfl); (case x15 => first | k_is | k_exc | rfl); (case x16 => first | k_is | k_exc | rfl); (case x17 => first | k_is | k_exc | rfl)
